/-
  Proved here: label's aceForms: both forms of what begins with the sign. Conditions: at most 420 bytes.
  Proved here: label's aceForms and wideForms: both forms of what is folded. Conditions: at most 420 characters.
-/
import Derived.Test.YtbmgkfnoknomdaaGreatLabEnd
namespace Go.Proofs.YtbmgkfnoknomdaaGreat
open Go.RowKit Utf
set_option maxHeartbeats 2000000 in
set_option maxRecDepth 100000 in
theorem ace1_any (g : Nat) (b : Bool) (w : World) (hc : w.cell? ⟨g, 0, none⟩ = some (.bool b)) :
    Calls Tryz.prog 86 #[.pointer (some ⟨g, 0, none⟩)] w fun e w' => e = .returned (.bool (!b)) ∧ Below w.heap.size w w' := by
  cases b
  all_goals
    go_enter Tryz.func86, Tryz.ntmps86
    go_wp2
    go_ret
    exact ⟨rfl, Below.refl _ _⟩
set_option maxHeartbeats 2000000 in
set_option maxRecDepth 100000 in
theorem ace2_any (g : Nat) (s : ByteArray) (w : World) (hc : w.cell? ⟨g, 0, none⟩ = some (.string s)) :
    Calls Tryz.prog 87 #[.pointer (some ⟨g, 0, none⟩)] w fun e w' => e = .returned (.bool (decide (63 < s.size))) ∧ Below w.heap.size w w' := by
  by_cases hz : 63 < s.size
  · have hzz : (63 : Int) < (s.size : Int) := by omega
    rw [decide_eq_true hz]
    go_enter Tryz.func87, Tryz.ntmps87
    go_wp2
    go_ret
    exact ⟨rfl, Below.refl _ _⟩
  · have hzz : ¬ (63 : Int) < (s.size : Int) := by omega
    rw [decide_eq_false hz]
    go_enter Tryz.func87, Tryz.ntmps87
    go_wp2
    go_ret
    exact ⟨rfl, Below.refl _ _⟩
/-- What is as it was, but for the variable in block D. -/
def AceI (D : Nat) (code : ByteArray) (w0 W : World) : Prop :=
  Below D w0 W ∧ (∀ j, D + 1 ≤ j → j < w0.heap.size → W.heap[j]? = w0.heap[j]?) ∧ W.heap[D]? = some (.cells #[.string code] 9 (0, 0))
theorem AceI.lt {D : Nat} {code : ByteArray} {w0 W : World} (h : AceI D code w0 W) : D < W.heap.size := (Array.getElem?_eq_some_iff.1 h.2.2).1
theorem AceI.keep {D : Nat} {code : ByteArray} {w0 W W' : World} (h : AceI D code w0 W) (hb : Below W.heap.size W W') : AceI D code w0 W' := by
  have hlt := h.lt
  have hs := h.1.size
  exact ⟨h.1.trans (hb.mono (by omega)), fun j h1 h2 => (hb.block j (by omega)).trans (h.2.1 j h1 h2), (hb.block _ hlt).trans h.2.2⟩
theorem AceI.cell {D : Nat} {code : ByteArray} {w0 W : World} (h : AceI D code w0 W) {n : Nat} (hn : n < D) (o : Nat) : W.cell? ⟨n, o, none⟩ = w0.cell? ⟨n, o, none⟩ := h.1.cell (p := ⟨n, o, none⟩) hn
theorem AceI.held {D : Nat} {code : ByteArray} {w0 W : World} (h : AceI D code w0 W) {B b0 b1 b2 b3 : Nat} (hn : B < D) (hH : Held B b0 b1 b2 b3 w0) : Held B b0 b1 b2 b3 W :=
  ⟨Nat.lt_of_lt_of_le hH.1 h.1.size, (h.cell hn 0).trans hH.2.1, (h.cell hn 1).trans hH.2.2.1, (h.cell hn 2).trans hH.2.2.2.1, (h.cell hn 3).trans hH.2.2.2.2⟩
theorem AceI.ask {D : Nat} {code : ByteArray} {w0 W : World} (h : AceI D code w0 W) {n : Nat} {x : Int} {g : Nat} {cb : Array Value} (hn : D + 1 ≤ n) (hA : AskAt n x g cb w0) : AskAt n x g cb W :=
  hA.same h.1.size (h.2.1 n hn (by have := hA.2.2; omega)) (h.2.1 (n + 1) (by omega) hA.2.2)
theorem AceI.row {D : Nat} {code : ByteArray} {w0 W : World} (h : AceI D code w0 W) {R : Nat} (hn : D + 1 ≤ R) (hR : R < w0.heap.size) (k : Nat) : W.cell? ((⟨R, 0, none⟩ : Addr).add k) = w0.cell? ((⟨R, 0, none⟩ : Addr).add k) :=
  World.cell?_of_block (by rw [add_block]; exact h.2.1 R hn hR)
theorem AceI.code {D : Nat} {code : ByteArray} {w0 W : World} (h : AceI D code w0 W) : W.cell? ⟨D, 0, none⟩ = some (.string code) := by
  have := h.2.2
  simp only [World.cell?, this]
  rfl
set_option maxHeartbeats 2000000 in
set_option maxRecDepth 100000 in
theorem ace3_any (B U D b0 b1 b2 b3 : Nat) (u code0 : ByteArray) (cd : List UInt8) (x : Int) (w : World) (hH : Held B b0 b1 b2 b3 w) (hU : w.cell? ⟨U, 0, none⟩ = some (.string u)) (h2 : w.heap[D]? = some (.cells #[.string code0] 9 (0, 0)))
    (KE : Calls Tryz.prog 81 #[.agg #[.slice (some ⟨b0, 0, none⟩) 74 74, .slice (some ⟨b1, 0, none⟩) 10 10, .slice (some ⟨b2, 0, none⟩) 11 11, .slice (some ⟨b3, 0, none⟩) 42 42], .string u] w fun e w' => e = .returned (.tuple #[.string ⟨cd.toArray⟩, .int .i64 x]) ∧ Below w.heap.size w w') :
    Calls Tryz.prog 88 #[.pointer (some ⟨B, 0, none⟩), .pointer (some ⟨U, 0, none⟩), .pointer (some ⟨D, 0, none⟩)] w fun e w' => e = .returned (.int .i64 x) ∧ AceI D ⟨cd.toArray⟩ w w' := by
  have KE := Lib.hid KE
  have H2 := Lib.hid h2
  have hlt : D < w.heap.size := (Array.getElem?_eq_some_iff.1 h2).1
  have k2 : w.cell? ⟨D, 0, none⟩ = some (.string code0) := by simp [World.cell?, h2]
  obtain ⟨hS, c0, c1, c2, c3⟩ := hH
  clear h2
  go_enter Tryz.func88, Tryz.ntmps88
  go_wp2_with fail
  refine KE.out.mono ?_
  rintro e w2 ⟨rfl, hb⟩
  have HB := Lib.hid hb
  have d1 := (hb.cell (p := ⟨D, 0, none⟩) hlt).trans k2
  have f1 : w2.frozen? ⟨D, 0, none⟩ = false := by have := (hb.block D hlt).trans H2.out; simp [World.frozen?, this]
  clear hb k2
  go_wp2
  go_ret
  have hB := HB.out
  have g2 := (hB.block D hlt).trans H2.out
  refine ⟨rfl, ?_, fun j hj hlt => ?_, ?_⟩
  · exact (hB.mono (show D ≤ w.heap.size by omega)).setCell (p := ⟨D, 0, none⟩) (Nat.le_refl _) _
  · rw [← hB.block j hlt]
    simp [World.setCell, Array.getElem?_modify, show D ≠ j by omega]
  · simp [World.setCell, Array.getElem?_modify, g2]
set_option maxHeartbeats 2000000 in
set_option maxRecDepth 100000 in
theorem ace4_any (D B : Nat) (c r : ByteArray) (w : World) (hc : w.cell? ⟨D, 0, none⟩ = some (.string c)) (hr : w.cell? ⟨B, 0, none⟩ = some (.string r)) :
    Calls Tryz.prog 89 #[.pointer (some ⟨D, 0, none⟩), .pointer (some ⟨B, 0, none⟩)] w fun e w' => e = .returned (.bool (!(c.toList == r.toList))) ∧ Below w.heap.size w w' := by
  cases hq : (c.toList == r.toList)
  all_goals
    go_enter Tryz.func89, Tryz.ntmps89
    go_wp2
    go_ret
    exact ⟨rfl, Below.refl _ _⟩
/-- The errors that aceForms asks for, one behind the other. -/
def aceEr (ok : Bool) (F rest u : ByteArray) : Nat → Int
  | 0 => if !ok then 12 else 0
  | 1 => if decide (63 < F.size) then 5 else 0
  | 2 => Lab.wideE u.data.toList
  | _ => if !((⟨(codeE u.data.toList).toArray⟩ : ByteArray).toList == rest.toList) then 12 else 0
theorem ace_seq (ok : Bool) (F rest u : ByteArray) : seqE (aceEr ok F rest u) 0 4 =
    if !ok then 12 else if decide (63 < F.size) then 5 else if Lab.wideE u.data.toList ≠ 0 then Lab.wideE u.data.toList else if !((⟨(codeE u.data.toList).toArray⟩ : ByteArray).toList == rest.toList) then 12 else 0 := by
  simp only [seqE, aceEr]
  rw [ite_seq _ (by decide), ite_seq _ (by decide), ite_seq _ (by decide)]
def aceCode (u : ByteArray) (k : Nat) : List UInt8 := if k ≤ 2 then [] else codeE u.data.toList
def AceK (D : Nat) (u : ByteArray) (w0 : World) (k : Nat) (W : World) : Prop := AceI D ⟨(aceCode u k).toArray⟩ w0 W
theorem AceK.next {D : Nat} {u : ByteArray} {w0 W W' : World} {k : Nat} (h : AceK D u w0 k W) (hk : k ≠ 2) (hb : Below W.heap.size W W') : AceK D u w0 (k + 1) W' := by
  have e1 : aceCode u (k + 1) = aceCode u k := by
    unfold aceCode
    by_cases h6 : k ≤ 2
    · rw [if_pos h6, if_pos (by omega)]
    · rw [if_neg h6, if_neg (by omega)]
  unfold AceK at h ⊢
  rw [e1]
  exact h.keep hb
set_option maxHeartbeats 4000000 in
set_option maxRecDepth 100000 in
theorem ace_first (B C D R n0 n1 n3 b0 b1 b2 b3 : Nat) (F rest u : ByteArray) (ok : Bool) (w2 w : World) (hD : w2.heap.size = D) (hBC : B + 2 < C) (hCD : C < D) (hw : Below w2.heap.size w2 w)
    (hT : Table w2 (.agg #[.slice (some ⟨b0, 0, none⟩) 74 74, .slice (some ⟨b1, 0, none⟩) 10 10, .slice (some ⟨b2, 0, none⟩) 11 11, .slice (some ⟨b3, 0, none⟩) 42 42])) (hu : WideFits u)
    (hH : Held B b0 b1 b2 b3 w) (hF : w.cell? ⟨B + 1, 0, none⟩ = some (.string F)) (hQ : w.cell? ⟨B + 2, 0, none⟩ = some (.string rest)) (hO : w.cell? ⟨C, 0, none⟩ = some (.bool ok)) (hU : w.cell? ⟨D, 0, none⟩ = some (.string u))
    (h2 : w.heap[D + 1]? = some (.cells #[.string ⟨#[]⟩] 9 (0, 0))) (hR : D + 2 ≤ R) (hRl : R < w.heap.size)
    (g0 : D + 2 ≤ n0) (A0 : AskAt n0 12 86 #[.pointer (some ⟨C, 0, none⟩)] w) (r0 : w.cell? ((⟨R, 0, none⟩ : Addr).add 0) = some (askV n0))
    (g1 : D + 2 ≤ n1) (A1 : AskAt n1 5 87 #[.pointer (some ⟨B + 1, 0, none⟩)] w) (r1 : w.cell? ((⟨R, 0, none⟩ : Addr).add 1) = some (askV n1))
    (r2 : w.cell? ((⟨R, 0, none⟩ : Addr).add 2) = some (.func (.func 88) #[] #[.pointer (some ⟨B, 0, none⟩), .pointer (some ⟨D, 0, none⟩), .pointer (some ⟨D + 1, 0, none⟩)]))
    (g3 : D + 2 ≤ n3) (A3 : AskAt n3 12 89 #[.pointer (some ⟨D + 1, 0, none⟩), .pointer (some ⟨B + 2, 0, none⟩)] w) (r3 : w.cell? ((⟨R, 0, none⟩ : Addr).add 3) = some (askV n3)) :
    Calls Tryz.prog 84 #[.slice (some ⟨R, 0, none⟩) 4 4] w fun e w' => e = .returned (.int .i64 (seqE (aceEr ok F rest u) 0 4)) ∧ Below (D + 1) w w' := by
  have hI0 : AceK (D + 1) u w 0 w := ⟨Below.refl _ _, fun _ _ _ => rfl, h2⟩
  refine (first_any ⟨R, 0, none⟩ 4 (aceEr ok F rest u) (AceK (D + 1) u w) w (by omega) hI0 ?_).mono (fun e w' h => ?_)
  · intro k hk h0 W hW
    have hI : AceI (D + 1) ⟨(aceCode u k).toArray⟩ w W := hW
    have hlW : Below w2.heap.size w2 W := hw.trans (hI.1.mono (by omega))
    have hTW := hT.below hlW
    have hHW := hI.held (show B < D + 1 by omega) hH
    have hFW := (hI.cell (show B + 1 < D + 1 by omega) 0).trans hF
    have hQW := (hI.cell (show B + 2 < D + 1 by omega) 0).trans hQ
    have hOW := (hI.cell (show C < D + 1 by omega) 0).trans hO
    have hUW := (hI.cell (show D < D + 1 by omega) 0).trans hU
    obtain rfl | rfl | rfl | rfl : k = 0 ∨ k = 1 ∨ k = 2 ∨ k = 3 := by omega
    · exact ⟨_, _, (hI.row hR hRl 0).trans r0, when_eg, ((hI.ask g0 A0).calls (enters_of Tryz.func86 (by kernel_rfl) rfl) (ace1_any C ok W hOW) rfl).mono fun e w' ⟨h1, h2⟩ => ⟨h1, hW.next (by omega) h2⟩⟩
    · exact ⟨_, _, (hI.row hR hRl 1).trans r1, when_eg, ((hI.ask g1 A1).calls (enters_of Tryz.func87 (by kernel_rfl) rfl) (ace2_any (B + 1) F W hFW) rfl).mono fun e w' ⟨h1, h2⟩ => ⟨h1, hW.next (by omega) h2⟩⟩
    · have KE := encode_any _ u W hTW hu
      have K3 := ace3_any B D (D + 1) b0 b1 b2 b3 u _ _ _ W hHW hUW hI.2.2 KE
      exact ⟨_, _, (hI.row hR hRl 2).trans r2, enters_of Tryz.func88 (by kernel_rfl) rfl, K3.mono fun e w' ⟨h1, h2⟩ => ⟨h1, hI.1.trans h2.1, fun j j1 j2 => (h2.2.1 j j1 (by have := hI.1.size; omega)).trans (hI.2.1 j j1 j2), h2.2.2⟩⟩
    · exact ⟨_, _, (hI.row hR hRl 3).trans r3, when_eg, ((hI.ask g3 A3).calls (enters_of Tryz.func89 (by kernel_rfl) rfl) (ace4_any (D + 1) (B + 2) _ rest W hI.code hQW) rfl).mono fun e w' ⟨h1, h2⟩ => ⟨h1, hW.next (by omega) h2⟩⟩
  · obtain ⟨h1, -, k, hk, hI⟩ := h.seq
    have hI : AceI (D + 1) ⟨(aceCode u k).toArray⟩ w w' := hI
    exact ⟨h1, hI.1⟩
end Go.Proofs.YtbmgkfnoknomdaaGreat
namespace Go.Proofs.YtbmgkfnoknomdaaGreat
open Go.RowKit Utf
/-- What begins with the sign comes to. -/
def aceE (bs : List UInt8) : Int × List UInt8 × List UInt8 := match Puny.decB (bs.drop 4) with
  | none => (12, [], [])
  | some l => if 63 < bs.length then (5, [], []) else if Lab.wideL l ≠ 0 then (Lab.wideL l, [], []) else if Puny.encB l ≠ bs.drop 4 then (12, [], []) else (0, bs, encZ l)
theorem code_enc {l : List Int} (h : rightsZ l = true) : codeE (encZ l) = if Lab.wideL l = 0 then Puny.encB l else [] := by
  unfold codeE
  rw [Lab.wideE_enc h, rd_enc h, (ints_back h).1]
theorem ace_is (F : ByteArray) {o : Option (List Int)} {l : List Int} {ok : Bool} (ho : Puny.decB (F.data.toList.drop 4) = o) (hl : o.getD [] = l) (hok : o.isSome = ok) (hr : rightsZ l = true) {x : Int} (hx : seqE (aceEr ok F (F.extract 4 F.size) ⟨(encZ l).toArray⟩) 0 4 = x) :
    aceE F.data.toList = (x, if x = 0 then F.data.toList else [], if x = 0 then encZ l else []) := by
  have hsl : F.data.toList.length = F.size := by simp
  rw [ace_seq] at hx
  unfold aceE
  rw [ho]
  have hu : (⟨(encZ l).toArray⟩ : ByteArray).data.toList = encZ l := rfl
  rw [hu, Lab.wideE_enc hr, code_enc hr, ByteArray.toList_eq, ByteArray.toList_eq, extract_drop] at hx
  cases o with
  | none =>
    subst hok
    subst hx
    rfl
  | some l' =>
    obtain rfl : l' = l := hl
    subst hok
    rw [show (!(some l').isSome) = false from rfl, if_neg (by decide)] at hx
    simp only
    rw [hsl]
    by_cases h63 : 63 < F.size
    · rw [decide_eq_true h63, if_pos rfl] at hx
      subst hx
      rw [if_pos h63]
      rfl
    · rw [decide_eq_false h63, if_neg (by decide)] at hx
      rw [if_neg h63]
      by_cases hw : Lab.wideL l' = 0
      · rw [hw, if_neg (by decide), if_pos rfl] at hx
        rw [hw, if_neg (by decide)]
        have hq : ((⟨(Puny.encB l').toArray⟩ : ByteArray).data.toList == F.data.toList.drop 4) = decide (Puny.encB l' = F.data.toList.drop 4) := by rw [Bool.eq_iff_iff, beq_iff_eq, decide_eq_true_eq]
        by_cases he : Puny.encB l' = F.data.toList.drop 4
        · rw [hq, decide_eq_true he] at hx
          subst hx
          rw [if_neg (fun h => h he)]
          rfl
        · rw [hq, decide_eq_false he] at hx
          subst hx
          rw [if_pos he]
          rfl
      · rw [if_pos hw] at hx
        subst hx
        rw [if_pos hw, if_neg hw, if_neg hw]
set_option maxHeartbeats 8000000 in
set_option maxRecDepth 100000 in
theorem aceForms_any (t : Value) (F : ByteArray) (w : World) (hT : Table w t) (h4 : 4 ≤ F.size) (hF : F.size ≤ 420) :
    Calls Tryz.prog 56 #[t, .string F] w fun e w' => e = .returned (.tuple #[.string ⟨(aceE F.data.toList).2.1.toArray⟩, .string ⟨(aceE F.data.toList).2.2.toArray⟩, .int .i64 (aceE F.data.toList).1]) ∧ Below w.heap.size w w' := by
  have hT0 := hT
  obtain ⟨b0, b1, b2, b3, rfl, -, -, -, -⟩ := hT0
  obtain ⟨o, ho⟩ : ∃ o, Puny.decB (F.data.toList.drop 4) = o := ⟨_, rfl⟩
  obtain ⟨l, hl⟩ : ∃ l, o.getD [] = l := ⟨_, rfl⟩
  obtain ⟨ok, hok⟩ : ∃ ok, o.isSome = ok := ⟨_, rfl⟩
  have hrl : rightsZ l = true ∧ l.length ≤ 420 := by
    cases o with
    | none => subst hl; exact ⟨rfl, by simp⟩
    | some l' =>
      obtain rfl : l' = l := hl
      obtain ⟨h1, -, h2⟩ := Puny.enc_dec ho
      rw [List.length_drop] at h2
      have hsl : F.data.toList.length = F.size := by simp
      exact ⟨h1, by omega⟩
  obtain ⟨hr, hn⟩ := hrl
  have KD := fun W => decodeP_any (F.extract 4 F.size) W (by simp; omega)
  rw [extract_drop, ho] at KD
  unfold DecPost at KD
  rw [hl, hok] at KD
  have KD := Lib.hid KD
  have hfits := wide_enc' hr hn
  have hen := encZ_len l
  obtain ⟨x, hx⟩ : ∃ x, seqE (aceEr ok F (F.extract 4 F.size) ⟨(encZ l).toArray⟩) 0 4 = x := ⟨_, rfl⟩
  rw [ace_is F ho hl hok hr hx]
  simp only []
  obtain ⟨p, hp⟩ : ∃ p, p = if x = 0 then F.data.toList else [] := ⟨_, rfl⟩
  obtain ⟨q, hq⟩ : ∃ q, q = if x = 0 then encZ l else [] := ⟨_, rfl⟩
  rw [← hp, ← hq]
  obtain ⟨B, hB⟩ : ∃ B, w.heap.size = B := ⟨_, rfl⟩
  have hv1 := below_one w (.cells #[.slice (some ⟨b0, 0, none⟩) 74 74, .slice (some ⟨b1, 0, none⟩) 10 10, .slice (some ⟨b2, 0, none⟩) 11 11, .slice (some ⟨b3, 0, none⟩) 42 42] 28)
  have hH0 := held_new w b0 b1 b2 b3 28
  have hv2 := below_one (w.alloc (.cells #[.slice (some ⟨b0, 0, none⟩) 74 74, .slice (some ⟨b1, 0, none⟩) 10 10, .slice (some ⟨b2, 0, none⟩) 11 11, .slice (some ⟨b3, 0, none⟩) 42 42] 28)) (.cells #[.string F] 9)
  have hS0 := cell_new1 (w.alloc (.cells #[.slice (some ⟨b0, 0, none⟩) 74 74, .slice (some ⟨b1, 0, none⟩) 10 10, .slice (some ⟨b2, 0, none⟩) 11 11, .slice (some ⟨b3, 0, none⟩) 42 42] 28)) (.string F) 9
  have hv3 := below_one ((w.alloc (.cells #[.slice (some ⟨b0, 0, none⟩) 74 74, .slice (some ⟨b1, 0, none⟩) 10 10, .slice (some ⟨b2, 0, none⟩) 11 11, .slice (some ⟨b3, 0, none⟩) 42 42] 28)).alloc (.cells #[.string F] 9)) (.cells #[.string (F.extract 4 F.size)] 9)
  have hQ0 := cell_new1 ((w.alloc (.cells #[.slice (some ⟨b0, 0, none⟩) 74 74, .slice (some ⟨b1, 0, none⟩) 10 10, .slice (some ⟨b2, 0, none⟩) 11 11, .slice (some ⟨b3, 0, none⟩) 42 42] 28)).alloc (.cells #[.string F] 9)) (.string (F.extract 4 F.size)) 9
  have hszA : (w.alloc (.cells #[.slice (some ⟨b0, 0, none⟩) 74 74, .slice (some ⟨b1, 0, none⟩) 10 10, .slice (some ⟨b2, 0, none⟩) 11 11, .slice (some ⟨b3, 0, none⟩) 42 42] 28)).heap.size = B + 1 := by simp [hB]
  have hszB : ((w.alloc (.cells #[.slice (some ⟨b0, 0, none⟩) 74 74, .slice (some ⟨b1, 0, none⟩) 10 10, .slice (some ⟨b2, 0, none⟩) 11 11, .slice (some ⟨b3, 0, none⟩) 42 42] 28)).alloc (.cells #[.string F] 9)).heap.size = B + 2 := by simp [hB]
  have hsz0 : (((w.alloc (.cells #[.slice (some ⟨b0, 0, none⟩) 74 74, .slice (some ⟨b1, 0, none⟩) 10 10, .slice (some ⟨b2, 0, none⟩) 11 11, .slice (some ⟨b3, 0, none⟩) 42 42] 28)).alloc (.cells #[.string F] 9)).alloc (.cells #[.string (F.extract 4 F.size)] 9)).heap.size = B + 3 := by simp [hB]
  rw [hszA] at hS0
  have hS1 := (hv3.cell (p := ⟨B + 1, 0, none⟩) (show B + 1 < _ by rw [hszB]; omega)).trans hS0
  rw [hszB] at hQ0
  rw [hB] at hH0
  have HV := Lib.hid (below_then (below_then hv1 hv2) hv3)
  have HH0 := Lib.hid ((hH0.below hv2).below hv3)
  have HS0 := Lib.hid hS1
  have HQ0 := Lib.hid hQ0
  have HSZ0 := Lib.hid hsz0
  have HT := Lib.hid hT
  have HWF := Lib.hid hfits
  have HP := Lib.hid hp
  have HQ := Lib.hid hq
  have HX := Lib.hid hx
  have HR := Lib.hid hr
  have HN := Lib.hid hn
  have h4z : (4 : Int) ≤ (F.size : Int) := by omega
  clear hp hq hx hT hr hn ho hl hok hfits hen hv1 hv2 hv3 hH0 hS0 hS1 hQ0 hszA hszB hsz0
  go_enter Tryz.func56, Tryz.ntmps56
  go_wp2_with fail
  refine (KD.out _).mono ?_
  rintro e w1 ⟨A, c, rfl, hl, hb1⟩
  obtain ⟨C, hC⟩ : ∃ C, w1.heap.size = C := ⟨_, rfl⟩
  have HB1 := Lib.hid hb1
  have KS := string_at (.slice A l.length c) l (w1.alloc (.cells #[.bool ok] 4)) (hl.keep (below_one _ _)) (by have := HN.out; omega) HR.out (bs := encZ l) (by unfold strB; rw [if_pos HR.out])
  have KS := Lib.hid KS
  clear hb1 hl
  go_wp2_with fail
  refine KS.out.mono ?_
  rintro e w2 ⟨rfl, hb2⟩
  obtain ⟨D, hD⟩ : ∃ D, w2.heap.size = D := ⟨_, rfl⟩
  obtain ⟨u, hu⟩ : ∃ u, (⟨(encZ l).toArray⟩ : ByteArray) = u := ⟨_, rfl⟩
  have HX := HX.out
  have HWF := HWF.out
  have HU := Lib.hid hu
  rw [hu] at HX HWF ⊢
  have HX := Lib.hid HX
  have HWF := Lib.hid HWF
  have HB2 := Lib.hid hb2
  clear hb2 hu KS
  have s0 : ((w2.alloc (.cells #[.string u] 9)).alloc (.cells #[.string ⟨#[]⟩] 9)).heap.size = D + 1 + 1 := by simp [hD]
  go_wp2_with fail
  refine (when_any (D + 1 + 1) 12 _ _ _ s0).mono ?_
  rintro e v1 h1
  have A1 := Lib.hid h1.ask
  have B1 := Lib.hid (whenKeeps s0 h1)
  obtain ⟨rfl, s1, -, -, -⟩ := h1
  go_wp2_with fail
  refine (when_any (D + 1 + 1 + 2) 5 _ _ _ s1).mono ?_
  rintro e v2 h2
  have A2 := Lib.hid h2.ask
  have B2 := Lib.hid (whenKeeps s1 h2)
  obtain ⟨rfl, s2, -, -, -⟩ := h2
  go_wp2_with fail
  refine (when_any (D + 1 + 1 + 2 + 2) 12 _ _ _ s2).mono ?_
  rintro e v3 h3
  have A3 := Lib.hid h3.ask
  have B3 := Lib.hid (whenKeeps s2 h3)
  obtain ⟨rfl, s3, -, -, -⟩ := h3
  go_wp2_with fail
  obtain ⟨o, ho⟩ : ∃ o, o = v3.alloc (.cells #[askV (D + 1 + 1), askV (D + 1 + 1 + 2), .func (.func 88) #[] #[.pointer (some ⟨B, 0, none⟩), .pointer (some ⟨D, 0, none⟩), .pointer (some ⟨D + 1, 0, none⟩)], askV (D + 1 + 1 + 2 + 2)] 101) := ⟨_, rfl⟩
  have B9 : Below v3.heap.size v3 o := by rw [ho]; exact below_one _ _
  obtain ⟨v0, hv0⟩ : ∃ v0, v0 = (w2.alloc (.cells #[.string u] 9)).alloc (.cells #[.string ⟨#[]⟩] 9) := ⟨_, rfl⟩
  have B1 := B1.out
  rw [← hv0] at B1 s0
  have hw20 : Below w2.heap.size w2 v0 := by rw [hv0]; exact (below_one w2 _).alloc (by simp) _
  have k0 : v0.heap[D]? = some (.cells #[.string u] 9 (0, 0)) := by rw [hv0]; exact heap_more (by rw [← hD]; exact heap_alloc_new w2 _)
  have k1 : v0.heap[D + 1]? = some (.cells #[.string ⟨#[]⟩] 9 (0, 0)) := by rw [hv0]; have h := heap_alloc_new (w2.alloc (.cells #[.string u] 9)) (.cells #[.string ⟨#[]⟩] 9); rwa [World.size_alloc, hD] at h
  have T1 : Below v0.heap.size v0 v1 := B1
  have T2 : Below v0.heap.size v0 v2 := below_then T1 B2.out
  have T3 : Below v0.heap.size v0 v3 := below_then T2 B3.out
  have T9 : Below v0.heap.size v0 o := below_then T3 B9
  have hsz : v3.heap.size < o.heap.size := by rw [ho]; simp
  have hBC : B + 3 ≤ C := by have := HB1.out.size; rw [HSZ0.out, hC] at this; exact this
  have hCD : C + 1 ≤ D := by have := HB2.out.size; rw [World.size_alloc, hC, hD] at this; exact this
  have hA1 : Below w1.heap.size w1 w2 := below_then (below_one w1 _) HB2.out
  have hAll1 : Below w.heap.size w w1 := below_then HV.out HB1.out
  have hAll2 : Below w.heap.size w w2 := below_then hAll1 hA1
  have hAllo : Below w2.heap.size w2 o := below_then hw20 T9
  have hA1o : Below w1.heap.size w1 o := below_then hA1 hAllo
  have hHo := (HH0.out.below HB1.out).below hA1o
  have hFo : o.cell? ⟨B + 1, 0, none⟩ = some (.string F) := by
    have h1 := HB1.out.cell (p := ⟨B + 1, 0, none⟩) (show B + 1 < _ by rw [HSZ0.out]; omega)
    have h2 := hA1o.cell (p := ⟨B + 1, 0, none⟩) (show B + 1 < _ by rw [hC]; omega)
    rw [h2, h1]
    exact HS0.out
  have hQo : o.cell? ⟨B + 2, 0, none⟩ = some (.string (F.extract 4 F.size)) := by
    have h1 := HB1.out.cell (p := ⟨B + 2, 0, none⟩) (show B + 2 < _ by rw [HSZ0.out]; omega)
    have h2 := hA1o.cell (p := ⟨B + 2, 0, none⟩) (show B + 2 < _ by rw [hC]; omega)
    rw [h2, h1]
    exact HQ0.out
  have hOo : o.cell? ⟨C, 0, none⟩ = some (.bool ok) := by
    have h1 := HB2.out.cell (p := ⟨C, 0, none⟩) (show C < _ by rw [World.size_alloc, hC]; omega)
    have h2 := hAllo.cell (p := ⟨C, 0, none⟩) (show C < _ by rw [hD]; omega)
    rw [h2, h1, ← hC]
    exact cell_new1 w1 _ _
  have hUo : o.cell? ⟨D, 0, none⟩ = some (.string u) := by
    have := (T9.block D (by omega)).trans k0
    simp [World.cell?, this]
  have h2o := (T9.block (D + 1) (by omega)).trans k1
  have K := ace_first B C D (D + 1 + 1 + 2 + 2 + 2) (D + 1 + 1) (D + 1 + 1 + 2) (D + 1 + 1 + 2 + 2) b0 b1 b2 b3 F (F.extract 4 F.size) u ok w2 o hD (by omega) (by omega) hAllo (HT.out.below hAll2) HWF.out hHo hFo hQo hOo hUo h2o (by omega) (by omega)
    (by omega) (((A1.out.keep B2.out).keep B3.out).keep B9) (by rw [ho]; exact row_cell v3 s3 _ _ rfl)
    (by omega) ((A2.out.keep B3.out).keep B9) (by rw [ho]; exact row_cell v3 s3 _ _ rfl)
    (by rw [ho]; exact row_cell v3 s3 _ _ rfl)
    (by omega) (A3.out.keep B9) (by rw [ho]; exact row_cell v3 s3 _ _ rfl)
  have hsF : o.heap.size > D + 1 := by omega
  rw [HX.out] at K
  have ALL := Lib.hid (below_then hAll2 hAllo)
  have HFo := Lib.hid hFo
  have HUo := Lib.hid hUo
  have hBD := Lib.hid (show B + 1 < D + 1 ∧ D < D + 1 ∧ w.heap.size ≤ D + 1 from ⟨by omega, by omega, by omega⟩)
  have HO := Lib.hid ho
  rw [ho] at K
  refine K.mono ?_
  rintro e w6 ⟨rfl, hb6⟩
  have hb6' : Below (D + 1) o w6 := by rw [HO.out]; exact hb6
  have hF6 := (hb6'.cell (p := ⟨B + 1, 0, none⟩) hBD.out.1).trans HFo.out
  have hU6 := (hb6'.cell (p := ⟨D, 0, none⟩) hBD.out.2.1).trans HUo.out
  have HB := Lib.hid (ALL.out.trans (hb6'.mono hBD.out.2.2))
  clear hb6 hb6' k0 k1 h2o hFo hQo hOo hUo hHo hAllo hAll1 hAll2 hBC hCD hsz T1 T2 T3 T9 B9 ho hv0 hw20 B1 hA1 hA1o hsF K
  by_cases h0 : x = 0
  · subst h0
    have hpe : p = F.data.toList := by rw [HP.out, if_pos rfl]
    have hqe : q = encZ l := by rw [HQ.out, if_pos rfl]
    have R1 := Lib.hid (show (⟨p.toArray⟩ : ByteArray) = F by rw [hpe])
    have R2 := Lib.hid (show (⟨q.toArray⟩ : ByteArray) = u by rw [hqe]; exact HU.out)
    clear hpe hqe
    go_wp2
    go_quiet (fail)
    go_wp2
    go_ret3
    exact ⟨by rw [R1.out, R2.out]; rfl, below_drewN HB.out _⟩
  · have hx0 : (x == 0) = false := by rw [beq_eq_false_iff_ne]; exact h0
    have hpe : p = [] := by rw [HP.out, if_neg h0]
    have hqe : q = [] := by rw [HQ.out, if_neg h0]
    subst hpe hqe
    clear h0
    go_wp2
    go_ret3
    exact ⟨rfl, HB.out⟩
end Go.Proofs.YtbmgkfnoknomdaaGreat
