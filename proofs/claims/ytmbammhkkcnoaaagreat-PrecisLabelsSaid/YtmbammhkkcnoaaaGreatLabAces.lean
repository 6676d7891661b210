/-
  Proved here: label's aceForms: both forms of what begins with the sign. Conditions: at most 420 bytes.
  Proved here: label's aceForms and wideForms: both forms of what is folded. Conditions: at most 420 characters.
-/
import Derived.Test.YtmbammhkkcnoaaaGreatLabEnd
namespace Go.Proofs.YtmbammhkkcnoaaaGreat
open Go.RowKit Utf
/-- What is as it was, but for the variable in block D. -/
def AceI (D : Nat) (code : ByteArray) (w0 W : World) : Prop :=
  Below D w0 W ∧ (∀ j, D + 1 ≤ j → j < w0.heap.size → W.heap[j]? = w0.heap[j]?) ∧ W.heap[D]? = some (.cells #[.string code] 9 (0, 0))
theorem AceI.lt {D : Nat} {code : ByteArray} {w0 W : World} (h : AceI D code w0 W) : D < W.heap.size := (Array.getElem?_eq_some_iff.1 h.2.2).1
theorem AceI.keep {D : Nat} {code : ByteArray} {w0 W W' : World} (h : AceI D code w0 W) (hb : Below W.heap.size W W') : AceI D code w0 W' := by
  have hlt := h.lt
  have hs := h.1.size
  exact ⟨h.1.trans (hb.mono (by omega)), fun j h1 h2 => (hb.block j (by omega)).trans (h.2.1 j h1 h2), (hb.block _ hlt).trans h.2.2⟩
theorem AceI.cell {D : Nat} {code : ByteArray} {w0 W : World} (h : AceI D code w0 W) {n : Nat} (hn : n < D) (o : Nat) : W.cell? ⟨n, o, none⟩ = w0.cell? ⟨n, o, none⟩ := h.1.cell (p := ⟨n, o, none⟩) hn
theorem AceI.held {D : Nat} {code : ByteArray} {w0 W : World} (h : AceI D code w0 W) {B b0 b1 b2 b3 : Nat} (hn : B < D) (hH : Held B b0 b1 b2 b3 w0) : Held B b0 b1 b2 b3 W :=
  ⟨Nat.lt_of_lt_of_le hH.1 h.1.size, (h.cell hn 0).trans hH.2.1, (h.cell hn 1).trans hH.2.2.1, (h.cell hn 2).trans hH.2.2.2.1, (h.cell hn 3).trans hH.2.2.2.2⟩
theorem AceI.ask {D : Nat} {code : ByteArray} {w0 W : World} (h : AceI D code w0 W) {n : Nat} {x : Int} {g : Nat} {cb : Array Value} (hn : D + 1 ≤ n) (hA : AskAt n x g cb w0) : AskAt n x g cb W :=
  hA.same h.1.size (h.2.1 n hn (by have := hA.2.2; omega)) (h.2.1 (n + 1) (by omega) hA.2.2)
theorem AceI.row {D : Nat} {code : ByteArray} {w0 W : World} (h : AceI D code w0 W) {R : Nat} (hn : D + 1 ≤ R) (hR : R < w0.heap.size) (k : Nat) : W.cell? ((⟨R, 0, none⟩ : Addr).add k) = w0.cell? ((⟨R, 0, none⟩ : Addr).add k) :=
  World.cell?_of_block (by rw [add_block]; exact h.2.1 R hn hR)
theorem AceI.code {D : Nat} {code : ByteArray} {w0 W : World} (h : AceI D code w0 W) : W.cell? ⟨D, 0, none⟩ = some (.string code) := by
  have := h.2.2
  simp only [World.cell?, this]
  rfl
/-- The errors that aceForms asks for, one behind the other. -/
def aceEr (ok : Bool) (F rest u : ByteArray) : Nat → Int
  | 0 => if !ok then 12 else 0
  | 1 => if decide (63 < F.size) then 5 else 0
  | 2 => Lab.wideE u.data.toList
  | _ => if !((⟨(codeE u.data.toList).toArray⟩ : ByteArray).toList == rest.toList) then 12 else 0
theorem ace_seq (ok : Bool) (F rest u : ByteArray) : seqE (aceEr ok F rest u) 0 4 =
    if !ok then 12 else if decide (63 < F.size) then 5 else if Lab.wideE u.data.toList ≠ 0 then Lab.wideE u.data.toList else if !((⟨(codeE u.data.toList).toArray⟩ : ByteArray).toList == rest.toList) then 12 else 0 := by
  simp only [seqE, aceEr]
  rw [ite_seq _ (by decide), ite_seq _ (by decide), ite_seq _ (by decide)]
def aceCode (u : ByteArray) (k : Nat) : List UInt8 := if k ≤ 2 then [] else codeE u.data.toList
def AceK (D : Nat) (u : ByteArray) (w0 : World) (k : Nat) (W : World) : Prop := AceI D ⟨(aceCode u k).toArray⟩ w0 W
theorem AceK.next {D : Nat} {u : ByteArray} {w0 W W' : World} {k : Nat} (h : AceK D u w0 k W) (hk : k ≠ 2) (hb : Below W.heap.size W W') : AceK D u w0 (k + 1) W' := by
  have e1 : aceCode u (k + 1) = aceCode u k := by
    unfold aceCode
    by_cases h6 : k ≤ 2
    · rw [if_pos h6, if_pos (by omega)]
    · rw [if_neg h6, if_neg (by omega)]
  unfold AceK at h ⊢
  rw [e1]
  exact h.keep hb
end Go.Proofs.YtmbammhkkcnoaaaGreat
namespace Go.Proofs.YtmbammhkkcnoaaaGreat
open Go.RowKit Utf
/-- What begins with the sign comes to. -/
def aceE (bs : List UInt8) : Int × List UInt8 × List UInt8 := match Puny.decB (bs.drop 4) with
  | none => (12, [], [])
  | some l => if 63 < bs.length then (5, [], []) else if Lab.wideL l ≠ 0 then (Lab.wideL l, [], []) else if Puny.encB l ≠ bs.drop 4 then (12, [], []) else (0, bs, encZ l)
theorem code_enc {l : List Int} (h : rightsZ l = true) : codeE (encZ l) = if Lab.wideL l = 0 then Puny.encB l else [] := by
  unfold codeE
  rw [Lab.wideE_enc h, rd_enc h, (ints_back h).1]
theorem ace_is (F : ByteArray) {o : Option (List Int)} {l : List Int} {ok : Bool} (ho : Puny.decB (F.data.toList.drop 4) = o) (hl : o.getD [] = l) (hok : o.isSome = ok) (hr : rightsZ l = true) {x : Int} (hx : seqE (aceEr ok F (F.extract 4 F.size) ⟨(encZ l).toArray⟩) 0 4 = x) :
    aceE F.data.toList = (x, if x = 0 then F.data.toList else [], if x = 0 then encZ l else []) := by
  have hsl : F.data.toList.length = F.size := by simp
  rw [ace_seq] at hx
  unfold aceE
  rw [ho]
  have hu : (⟨(encZ l).toArray⟩ : ByteArray).data.toList = encZ l := rfl
  rw [hu, Lab.wideE_enc hr, code_enc hr, ByteArray.toList_eq, ByteArray.toList_eq, extract_drop] at hx
  cases o with
  | none =>
    subst hok
    subst hx
    rfl
  | some l' =>
    obtain rfl : l' = l := hl
    subst hok
    rw [show (!(some l').isSome) = false from rfl, if_neg (by decide)] at hx
    simp only
    rw [hsl]
    by_cases h63 : 63 < F.size
    · rw [decide_eq_true h63, if_pos rfl] at hx
      subst hx
      rw [if_pos h63]
      rfl
    · rw [decide_eq_false h63, if_neg (by decide)] at hx
      rw [if_neg h63]
      by_cases hw : Lab.wideL l' = 0
      · rw [hw, if_neg (by decide), if_pos rfl] at hx
        rw [hw, if_neg (by decide)]
        have hq : ((⟨(Puny.encB l').toArray⟩ : ByteArray).data.toList == F.data.toList.drop 4) = decide (Puny.encB l' = F.data.toList.drop 4) := by rw [Bool.eq_iff_iff, beq_iff_eq, decide_eq_true_eq]
        by_cases he : Puny.encB l' = F.data.toList.drop 4
        · rw [hq, decide_eq_true he] at hx
          subst hx
          rw [if_neg (fun h => h he)]
          rfl
        · rw [hq, decide_eq_false he] at hx
          subst hx
          rw [if_pos he]
          rfl
      · rw [if_pos hw] at hx
        subst hx
        rw [if_pos hw, if_neg hw, if_neg hw]
end Go.Proofs.YtmbammhkkcnoaaaGreat
