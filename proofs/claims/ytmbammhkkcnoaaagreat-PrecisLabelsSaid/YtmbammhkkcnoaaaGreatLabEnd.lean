/-
  Proved here: label's Plain, by its four asks. Conditions: strings of at most 100,000 bytes.
  Proved here: label's encode, by its eight asks. Conditions: at most 420 characters.
  Proved here: label's encode: what is wrong first, or the characters by ASCII. Conditions: at most 420 characters.
-/
import Derived.Test.YtmbammhkkcnoaaaGreatLabEncA
namespace Go.Proofs.YtmbammhkkcnoaaaGreat
open Go.RowKit Utf
/-- The errors that Plain asks for, one behind the other. -/
def plaE (s : ByteArray) : Nat → Int
  | 0 => if decide (s.size = 0) then 13 else 0
  | 1 => if decide (63 < s.size) then 5 else 0
  | 2 => if !(s.data.toList.all fun c => Bidi.plainC (c.toNat : Int)) then 8 else 0
  | _ => if Lab.dashed s.data.toList then 11 else 0
theorem pla_is (s : ByteArray) (w : World) {e : Ending} {w' : World} (h : FirstPost 4 (plaE s) (fun _ W => Below w.heap.size w W) e w') : e = .returned (.int .i64 (Lab.plainE s.data.toList)) ∧ Below w.heap.size w w' := by
  have hsl : s.data.toList.length = s.size := by simp
  obtain ⟨k, hk, h0, h⟩ := h
  have q0 : 0 < k → ¬ s.size = 0 := fun h e => by have := h0 0 h; unfold plaE at this; rw [decide_eq_true e] at this; exact absurd this (by simp)
  have q1 : 1 < k → ¬ 63 < s.size := fun h e => by have := h0 1 h; unfold plaE at this; rw [decide_eq_true e] at this; exact absurd this (by simp)
  have q2 : 2 < k → ¬ (s.data.toList.all fun c => Bidi.plainC (c.toNat : Int)) = false := fun h e => by have := h0 2 h; unfold plaE at this; rw [e] at this; exact absurd this (by simp)
  have q3 : 3 < k → ¬ Lab.dashed s.data.toList = true := fun h e => by have := h0 3 h; unfold plaE at this; rw [e] at this; exact absurd this (by simp)
  unfold Lab.plainE
  rw [hsl]
  clear h0
  rcases h with ⟨hlt, hne, rfl, hb⟩ | ⟨rfl, rfl, hb⟩
  · refine ⟨?_, hb⟩
    clear hb
    obtain rfl | rfl | rfl | rfl : k = 0 ∨ k = 1 ∨ k = 2 ∨ k = 3 := by omega
    · unfold plaE at hne ⊢
      by_cases e : s.size = 0
      · rw [if_pos e, decide_eq_true e]; rfl
      · rw [decide_eq_false e] at hne; exact absurd rfl hne
    · rw [if_neg (q0 (by omega))]
      unfold plaE at hne ⊢
      by_cases e : 63 < s.size
      · rw [if_pos e, decide_eq_true e]; rfl
      · rw [decide_eq_false e] at hne; exact absurd rfl hne
    · rw [if_neg (q0 (by omega)), if_neg (q1 (by omega))]
      unfold plaE at hne ⊢
      cases e : (s.data.toList.all fun c => Bidi.plainC (c.toNat : Int))
      · rfl
      · rw [e] at hne; exact absurd rfl hne
    · rw [if_neg (q0 (by omega)), if_neg (q1 (by omega)), if_neg (q2 (by omega))]
      unfold plaE at hne ⊢
      cases e : Lab.dashed s.data.toList
      · rw [e] at hne; exact absurd rfl hne
      · rfl
  · rw [if_neg (q0 (by omega)), if_neg (q1 (by omega)), if_neg (q2 (by omega)), if_neg (q3 (by omega))]
    exact ⟨rfl, hb⟩
theorem row_cell (w : World) {R : Nat} (hR : w.heap.size = R) (vs : Array Value) (T : TypeId) {k : Nat} {v : Value} (hv : vs[k]? = some v) : (w.alloc (.cells vs T)).cell? ((⟨R, 0, none⟩ : Addr).add k) = some v := by
  subst hR
  have h : (w.alloc (.cells vs T)).heap[((⟨w.heap.size, 0, none⟩ : Addr).add k).block]? = some (.cells vs T (0, 0)) := by rw [add_block]; exact heap_alloc_new w _
  unfold World.cell?
  rw [h]
  by_cases e : k = 0
  · subst e
    simpa [Addr.add] using hv
  · simpa [Addr.add, e] using hv
theorem whenKeeps {n : Nat} {x : Int} {g : Nat} {cb : Array Value} {e : Ending} {w w' : World} (hn : w.heap.size = n) (h : WhenPost n x g cb e w w') : Below w.heap.size w w' := by
  rw [hn]
  exact h.2.2.2.2
/-- An ask's function value. -/
def askV (n : Nat) : Value := .func (.func 128) #[] #[.pointer (some ⟨n + 1, 0, none⟩), .pointer (some ⟨n, 0, none⟩)]
theorem when_eg : ∀ args w, (callFunc 128 args).run Tryz.prog w = .ok (.enter 128 args) w := enters_of Tryz.func128 (by kernel_rfl) rfl
end Go.Proofs.YtmbammhkkcnoaaaGreat
namespace Go.Proofs.YtmbammhkkcnoaaaGreat
open Go.RowKit Utf
/-- The first that is not 0, of n from the k-th on. -/
def seqE (E : Nat → Int) (k : Nat) : Nat → Int
  | 0 => 0
  | n + 1 => if E k ≠ 0 then E k else seqE E (k + 1) n
theorem seq_hit (E : Nat → Int) {n : Nat} : ∀ {k d : Nat}, d < n → (∀ j, j < d → E (k + j) = 0) → E (k + d) ≠ 0 → seqE E k n = E (k + d) := by
  induction n with
  | zero => intro k d h; omega
  | succ n ih =>
    intro k d hd h0 hn
    unfold seqE
    cases d with
    | zero => rw [Nat.add_zero] at hn ⊢; exact if_pos hn
    | succ d =>
      rw [if_neg (by have := h0 0 (by omega); simpa using this), ih (d := d) (by omega) (fun j hj => by have := h0 (j + 1) (by omega); rwa [show k + (j + 1) = k + 1 + j by omega] at this) (by rwa [show k + 1 + d = k + (d + 1) by omega]), show k + 1 + d = k + (d + 1) by omega]
theorem seq_none (E : Nat → Int) {n : Nat} : ∀ {k : Nat}, (∀ j, j < n → E (k + j) = 0) → seqE E k n = 0 := by
  induction n with
  | zero => intro k _; rfl
  | succ n ih =>
    intro k h0
    unfold seqE
    rw [if_neg (by have := h0 0 (by omega); simpa using this)]
    exact ih (fun j hj => by have := h0 (j + 1) (by omega); rwa [show k + (j + 1) = k + 1 + j by omega] at this)
theorem FirstPost.seq {n : Nat} {E : Nat → Int} {I : Nat → World → Prop} {e : Ending} {w' : World} (h : FirstPost n E I e w') : e = .returned (.int .i64 (seqE E 0 n)) ∧ (seqE E 0 n = 0 → I n w') ∧ ∃ k, k ≤ n ∧ I k w' := by
  obtain ⟨k, hk, h0, ⟨hlt, hne, rfl, hi⟩ | ⟨rfl, rfl, hi⟩⟩ := h
  · have hq := seq_hit E (k := 0) hlt (fun j hj => by rw [Nat.zero_add]; exact h0 j hj) (by rwa [Nat.zero_add])
    rw [Nat.zero_add] at hq
    rw [hq]
    exact ⟨rfl, fun h => absurd h hne, k + 1, by omega, hi⟩
  · have hq := seq_none E (n := k) (k := 0) (fun j hj => by rw [Nat.zero_add]; exact h0 j hj)
    rw [hq]
    exact ⟨rfl, fun _ => hi, k, Nat.le_refl _, hi⟩
theorem ite_seq (b : Bool) {c : Int} (hc : c ≠ 0) (r : Int) : (if (if b then c else 0) ≠ 0 then (if b then c else 0) else r) = if b then c else r := by
  cases b
  · rfl
  · exact if_pos hc
/-- The errors that encode asks for, one behind the other. -/
def encE (s : ByteArray) (l : List Int) (z : Int) : Nat → Int
  | 0 => if decide (0 ≤ z) then 7 else 0
  | 1 => if (decide (eightOf s.data.toList < 0) || !(encZ (formOf false true l) == s.toList)) then 4 else 0
  | 2 => if Lab.dashed s.data.toList then 11 else 0
  | 3 => if catOf l[0]! == 4 then 10 else 0
  | 4 => if Lab.badAt l then 8 else 0
  | 5 => if (Bidi.has l && !Bidi.rule l) then 9 else 0
  | 6 => if !true then 12 else 0
  | _ => if decide (59 < (⟨(Puny.encB l).toArray⟩ : ByteArray).size) then 5 else 0
theorem enc_seq (s : ByteArray) (l : List Int) (z : Int) : seqE (encE s l z) 0 8 =
    if decide (0 ≤ z) then 7 else if (decide (eightOf s.data.toList < 0) || !(encZ (formOf false true l) == s.toList)) then 4 else if Lab.dashed s.data.toList then 11 else if catOf l[0]! == 4 then 10 else if Lab.badAt l then 8
    else if (Bidi.has l && !Bidi.rule l) then 9 else if !true then 12 else if decide (59 < (⟨(Puny.encB l).toArray⟩ : ByteArray).size) then 5 else 0 := by
  simp only [seqE, encE]
  rw [ite_seq _ (by decide), ite_seq _ (by decide), ite_seq _ (by decide), ite_seq _ (by decide), ite_seq _ (by decide), ite_seq _ (by decide), ite_seq _ (by decide), ite_seq _ (by decide)]
theorem wide_is {s : ByteArray} {m : List Nat} {z : Int} (hrd : rdOf s.data.toList = (m, z)) : seqE (encE s (ints m) z) 0 8 = Lab.wideE s.data.toList := by
  rw [enc_seq]
  unfold Lab.wideE
  rw [hrd]
  rcases (rd_cases hrd).2.2 with ⟨rfl, -⟩ | ⟨k, rfl, -, -⟩
  · rw [decide_eq_false (show ¬ (0 : Int) ≤ -1 by decide), if_pos rfl, if_neg (by decide)]
    obtain ⟨h1, h2⟩ := Lab.rd_is (s := s.data.toList) (by rw [hrd])
    rw [hrd] at h1 h2
    have h4 : s.data.toList = encZ (ints m) := h2
    have h1 : rightsZ (ints m) = true := h1
    rw [ByteArray.toList_eq, h4]
    generalize ints m = l at h1
    unfold Lab.wideL
    have hA : (decide (eightOf (encZ l) < 0) || !(encZ (formOf false true l) == encZ l)) = decide (Lab.ascii (encZ l) = true ∨ Lab.nfc l ≠ l) := by
      have hn : (encZ (formOf false true l) == encZ l) = decide (Lab.nfc l = l) := by
        have hd : formOf false true l = Lab.nfc l := rfl
        rw [hd]
        by_cases e : Lab.nfc l = l
        · rw [decide_eq_true e, e, beq_self_eq_true]
        · rw [decide_eq_false e, beq_eq_false_iff_ne]
          exact fun h => e (Lab.encZ_inj (by rw [← hd]; exact form_right false true h1) h1 h)
      rw [hn]
      rcases Lab.eight_cases (encZ l) with ⟨ha, he⟩ | ⟨ha, he⟩
      · rw [he, ha]; simp
      · rw [ha, decide_eq_false (show ¬ eightOf (encZ l) < 0 by omega)]; simp
    rw [hA]
    have hL : (⟨(Puny.encB l).toArray⟩ : ByteArray).size = (Puny.encB l).length := by simp [ByteArray.size]
    rw [hL]
    simp only [Bool.not_true, Bool.false_eq_true, if_false, decide_eq_true_eq, beq_iff_eq]
  · rw [decide_eq_true (show (0 : Int) ≤ (k : Int) by omega), if_pos rfl, if_neg (show ¬ ((k : Int) = -1) by omega)]
def codeAt (l : List Int) (k : Nat) : List UInt8 := if k ≤ 6 then [] else Puny.encB l
/-- What is known when the k-th is asked. -/
def EncK (C : Nat) (l : List Int) (w0 : World) (k : Nat) (W : World) : Prop := EncI C ⟨(codeAt l k).toArray⟩ (decide (6 < k)) w0 W
theorem EncK.next {C : Nat} {l : List Int} {w0 W W' : World} {k : Nat} (h : EncK C l w0 k W) (hk : k ≠ 6) (hb : Below W.heap.size W W') : EncK C l w0 (k + 1) W' := by
  have e1 : codeAt l (k + 1) = codeAt l k := by
    unfold codeAt
    by_cases h6 : k ≤ 6
    · rw [if_pos h6, if_pos (by omega)]
    · rw [if_neg h6, if_neg (by omega)]
  have e2 : decide (6 < k + 1) = decide (6 < k) := by rw [Bool.eq_iff_iff, decide_eq_true_eq, decide_eq_true_eq]; omega
  unfold EncK at h ⊢
  rw [e1, e2]
  exact h.keep hb
theorem EncI.cell {C : Nat} {code : ByteArray} {is : Bool} {w0 W : World} (h : EncI C code is w0 W) {n : Nat} (hn : n < C + 2) (o : Nat) : W.cell? ⟨n, o, none⟩ = w0.cell? ⟨n, o, none⟩ := h.1.cell (p := ⟨n, o, none⟩) hn
theorem EncI.held {C : Nat} {code : ByteArray} {is : Bool} {w0 W : World} (h : EncI C code is w0 W) {B b0 b1 b2 b3 : Nat} (hn : B < C + 2) (hH : Held B b0 b1 b2 b3 w0) : Held B b0 b1 b2 b3 W :=
  ⟨Nat.lt_of_lt_of_le hH.1 h.1.size, (h.cell hn 0).trans hH.2.1, (h.cell hn 1).trans hH.2.2.1, (h.cell hn 2).trans hH.2.2.2.1, (h.cell hn 3).trans hH.2.2.2.2⟩
theorem EncI.ask {C : Nat} {code : ByteArray} {is : Bool} {w0 W : World} (h : EncI C code is w0 W) {n : Nat} {x : Int} {g : Nat} {cb : Array Value} (hn : C + 4 ≤ n) (hA : AskAt n x g cb w0) : AskAt n x g cb W :=
  hA.same h.1.size (h.2.1 n hn (by have := hA.2.2; omega)) (h.2.1 (n + 1) (by omega) hA.2.2)
theorem EncI.row {C : Nat} {code : ByteArray} {is : Bool} {w0 W : World} (h : EncI C code is w0 W) {R : Nat} (hn : C + 4 ≤ R) (hR : R < w0.heap.size) (k : Nat) : W.cell? ((⟨R, 0, none⟩ : Addr).add k) = w0.cell? ((⟨R, 0, none⟩ : Addr).add k) :=
  World.cell?_of_block (by rw [add_block]; exact h.2.1 R hn hR)
set_option maxHeartbeats 4000000 in
set_option maxRecDepth 100000 in
theorem enc_first (B C R n0 n1 n2 n3 n4 n5 n6 n7 b0 b1 b2 b3 : Nat) (A : Option Addr) (c : Nat) (s : ByteArray) (m : List Nat) (l : List Int) (z : Int) (w1 w : World) (hlm : ints m = l) (hC : w1.heap.size = C) (hBC : B + 1 < C) (hw : Below w1.heap.size w1 w)
    (hT : Table w1 (.agg #[.slice (some ⟨b0, 0, none⟩) 74 74, .slice (some ⟨b1, 0, none⟩) 10 10, .slice (some ⟨b2, 0, none⟩) 11 11, .slice (some ⟨b3, 0, none⟩) 42 42])) (hl : Runes (.slice A l.length c) l w1) (hs : WideFits s) (hrd : rdOf s.data.toList = (m, z))
    (hH : Held B b0 b1 b2 b3 w) (hS : w.cell? ⟨B + 1, 0, none⟩ = some (.string s)) (hL : w.cell? ⟨C, 0, none⟩ = some (.slice A l.length c)) (hZ : w.cell? ⟨C + 1, 0, none⟩ = some (.int .i64 z))
    (h2 : w.heap[C + 2]? = some (.cells #[.string ⟨#[]⟩] 9 (0, 0))) (h3 : w.heap[C + 3]? = some (.cells #[.bool false] 4 (0, 0))) (hR : C + 4 ≤ R) (hRl : R < w.heap.size)
    (g0 : C + 4 ≤ n0) (A0 : AskAt n0 7 83 #[.pointer (some ⟨C + 1, 0, none⟩)] w) (r0 : w.cell? ((⟨R, 0, none⟩ : Addr).add 0) = some (askV n0))
    (g1 : C + 4 ≤ n1) (A1 : AskAt n1 4 84 #[.pointer (some ⟨B + 1, 0, none⟩), .pointer (some ⟨B, 0, none⟩)] w) (r1 : w.cell? ((⟨R, 0, none⟩ : Addr).add 1) = some (askV n1))
    (g2 : C + 4 ≤ n2) (A2 : AskAt n2 11 86 #[.pointer (some ⟨B + 1, 0, none⟩)] w) (r2 : w.cell? ((⟨R, 0, none⟩ : Addr).add 2) = some (askV n2))
    (g3 : C + 4 ≤ n3) (A3 : AskAt n3 10 88 #[.pointer (some ⟨B, 0, none⟩), .pointer (some ⟨C, 0, none⟩)] w) (r3 : w.cell? ((⟨R, 0, none⟩ : Addr).add 3) = some (askV n3))
    (g4 : C + 4 ≤ n4) (A4 : AskAt n4 8 89 #[.pointer (some ⟨B, 0, none⟩), .pointer (some ⟨C, 0, none⟩)] w) (r4 : w.cell? ((⟨R, 0, none⟩ : Addr).add 4) = some (askV n4))
    (g5 : C + 4 ≤ n5) (A5 : AskAt n5 9 91 #[.pointer (some ⟨B, 0, none⟩), .pointer (some ⟨C, 0, none⟩)] w) (r5 : w.cell? ((⟨R, 0, none⟩ : Addr).add 5) = some (askV n5))
    (g6 : C + 4 ≤ n6) (A6 : AskAt n6 12 92 #[.pointer (some ⟨C, 0, none⟩), .pointer (some ⟨C + 2, 0, none⟩), .pointer (some ⟨C + 3, 0, none⟩)] w) (r6 : w.cell? ((⟨R, 0, none⟩ : Addr).add 6) = some (askV n6))
    (g7 : C + 4 ≤ n7) (A7 : AskAt n7 5 94 #[.pointer (some ⟨C + 2, 0, none⟩)] w) (r7 : w.cell? ((⟨R, 0, none⟩ : Addr).add 7) = some (askV n7))
    : Calls Tryz.prog 81 #[.slice (some ⟨R, 0, none⟩) 8 8] w fun e w' => e = .returned (.int .i64 (Lab.wideE s.data.toList)) ∧ (Lab.wideE s.data.toList = 0 → w'.cell? ⟨C + 2, 0, none⟩ = some (.string ⟨(Puny.encB l).toArray⟩)) ∧ Below w1.heap.size w1 w' := by
  have hI0 : EncK C l w 0 w := ⟨Below.refl _ _, fun _ _ _ => rfl, h2, h3⟩
  refine (first_any ⟨R, 0, none⟩ 8 (encE s l z) (EncK C l w) w (by omega) hI0 ?_).mono (fun e w' h => ?_)
  · intro k hk h0 W hW
    have hI : EncI C ⟨(codeAt l k).toArray⟩ (decide (6 < k)) w W := hW
    have hlW : Below w1.heap.size w1 W := hw.trans (hI.1.mono (by omega))
    have hTW := hT.below hlW
    have hRW := hl.keep hlW
    have hHW := hI.held (show B < C + 2 by omega) hH
    have hSW := (hI.cell (show B + 1 < C + 2 by omega) 0).trans hS
    have hLW := (hI.cell (show C < C + 2 by omega) 0).trans hL
    have hZW := (hI.cell (show C + 1 < C + 2 by omega) 0).trans hZ
    have hCW : C < W.heap.size := by have := hI.lt; omega
    have hz : 0 < k → z = -1 := fun hk => by
      have := h0 0 hk
      rcases (rd_cases hrd).2.2 with ⟨rfl, -⟩ | ⟨j, rfl, -, -⟩
      · rfl
      · unfold encE at this
        rw [decide_eq_true (show (0 : Int) ≤ (j : Int) by omega)] at this
        exact absurd this (by simp)
    have hfit : 0 < k → Fits false s m ∧ l.length ≤ 420 := fun hk => by
      have := hs.2 m (by rw [hrd, hz hk])
      exact ⟨this.1, by rw [← hlm]; unfold ints; rw [List.length_map]; exact this.2⟩
    have hright : 0 < k → rightsZ l = true ∧ s.data.toList = encZ l := fun hk => by
      obtain ⟨h1, h2⟩ := Lab.rd_is (s := s.data.toList) (by rw [hrd]; exact hz hk)
      rw [hrd] at h1 h2
      rw [← hlm]
      exact ⟨h1, h2⟩
    have hpos : 1 < k → 0 < l.length := fun hk => by
      have h1 := h0 1 hk
      by_cases e : l = []
      · exfalso
        have h2 := (hright (by omega)).2
        unfold encE at h1
        rw [h2, e, decide_eq_true (show eightOf (encZ []) < 0 by decide)] at h1
        exact absurd h1 (by simp)
      · exact List.length_pos_iff.2 e
    obtain rfl | rfl | rfl | rfl | rfl | rfl | rfl | rfl : k = 0 ∨ k = 1 ∨ k = 2 ∨ k = 3 ∨ k = 4 ∨ k = 5 ∨ k = 6 ∨ k = 7 := by omega
    · have K0 := enc1_any (C + 1) z W hZW
      exact ⟨_, _, (hI.row hR hRl 0).trans r0, when_eg, ((hI.ask g0 A0).calls (enters_of Tryz.func83 (by kernel_rfl) rfl) K0 rfl).mono fun e w' ⟨h1, h2⟩ => ⟨h1, hW.next (by omega) h2⟩⟩
    · exact ⟨_, _, (hI.row hR hRl 1).trans r1, when_eg, ((hI.ask g1 A1).calls (enters_of Tryz.func84 (by kernel_rfl) rfl) (enc2_any (B + 1) B b0 b1 b2 b3 s _ W hs.1 hSW hHW (is_yes _ s W hTW (hfit (by omega)).1 (by rw [hlm]))) rfl).mono fun e w' ⟨h1, h2⟩ => ⟨h1, hW.next (by omega) h2⟩⟩
    · exact ⟨_, _, (hI.row hR hRl 2).trans r2, when_eg, ((hI.ask g2 A2).calls (enters_of Tryz.func86 (by kernel_rfl) rfl) (enc3_any (B + 1) s W hs.1 hSW) rfl).mono fun e w' ⟨h1, h2⟩ => ⟨h1, hW.next (by omega) h2⟩⟩
    · exact ⟨_, _, (hI.row hR hRl 3).trans r3, when_eg, ((hI.ask g3 A3).calls (enters_of Tryz.func88 (by kernel_rfl) rfl) (enc4_any B C b0 b1 b2 b3 A c l W hTW hHW hLW hCW hRW (hpos (by omega))) rfl).mono fun e w' ⟨h1, h2⟩ => ⟨h1, hW.next (by omega) h2⟩⟩
    · exact ⟨_, _, (hI.row hR hRl 4).trans r4, when_eg, ((hI.ask g4 A4).calls (enters_of Tryz.func89 (by kernel_rfl) rfl) (enc5_any B C b0 b1 b2 b3 A c l W hTW hHW hLW hRW (by have := (hfit (by omega)).2; omega)) rfl).mono fun e w' ⟨h1, h2⟩ => ⟨h1, hW.next (by omega) h2⟩⟩
    · exact ⟨_, _, (hI.row hR hRl 5).trans r5, when_eg, ((hI.ask g5 A5).calls (enters_of Tryz.func91 (by kernel_rfl) rfl) (enc6_any B C b0 b1 b2 b3 A c l W hTW hHW hLW hCW hRW (by have := (hfit (by omega)).2; omega)) rfl).mono fun e w' ⟨h1, h2⟩ => ⟨h1, hW.next (by omega) h2⟩⟩
    · have hA := hI.ask g6 A6
      have KE := encodeP_yes _ l W hRW (hfit (by omega)).2 (hright (by omega)).1
      have K6 := enc7_any C A l.length c _ _ _ true W hLW hI.2.2.1 hI.2.2.2 KE
      refine ⟨_, _, (hI.row hR hRl 6).trans r6, when_eg, (when1_any n6 _ _ 12 (!true) (fun w' => EncI C ⟨(Puny.encB l).toArray⟩ true W w') W hA.2.1 (enters_of Tryz.func92 (by kernel_rfl) rfl) K6 (fun w' h => ?_)).mono fun e w' ⟨h1, h2⟩ => ⟨h1, ?_⟩⟩
      · exact ((h.ask g6 hA).1)
      · exact ⟨hI.1.trans h2.1, fun j j1 j2 => (h2.2.1 j j1 (by have := hI.1.size; omega)).trans (hI.2.1 j j1 j2), h2.2.2.1, h2.2.2.2⟩
    · exact ⟨_, _, (hI.row hR hRl 7).trans r7, when_eg, ((hI.ask g7 A7).calls (enters_of Tryz.func94 (by kernel_rfl) rfl) (enc8_any (C + 2) ⟨(Puny.encB l).toArray⟩ W (by have := hI.2.2.1; simp only [World.cell?, this]; rfl)) rfl).mono fun e w' ⟨h1, h2⟩ => ⟨h1, hW.next (by omega) h2⟩⟩
  · obtain ⟨h1, h2, k, hk, hI⟩ := h.seq
    have hw := (show seqE (encE s l z) 0 8 = Lab.wideE s.data.toList by rw [← hlm]; exact wide_is hrd)
    rw [hw] at h1 h2
    have hI : EncI C ⟨(codeAt l k).toArray⟩ (decide (6 < k)) w w' := hI
    refine ⟨h1, fun h => ?_, ‹Below w1.heap.size w1 w›.trans (hI.1.mono (by omega))⟩
    have hI8 : EncI C ⟨(codeAt l 8).toArray⟩ (decide (6 < 8)) w w' := h2 h
    have := hI8.2.2.1
    simp only [World.cell?, this]
    rfl
end Go.Proofs.YtmbammhkkcnoaaaGreat
namespace Go.Proofs.YtmbammhkkcnoaaaGreat
open Go.RowKit Utf
/-- What is behind the sign, if nothing is wrong. -/
def codeE (bs : List UInt8) : List UInt8 := if Lab.wideE bs = 0 then Puny.encB (ints (rdOf bs).1) else []
theorem heap_more {w : World} {n : Nat} {o o2 : Obj} (h : w.heap[n]? = some o) : (w.alloc o2).heap[n]? = some o := (Below.heap_alloc w o2 n (Array.getElem?_eq_some_iff.1 h).1).trans h
set_option maxHeartbeats 8000000 in
set_option maxRecDepth 100000 in
theorem encode_any (t : Value) (s : ByteArray) (w : World) (hT : Table w t) (hs : WideFits s) :
    Calls Tryz.prog 48 #[t, .string s] w fun e w' => e = .returned (.tuple #[.string ⟨(codeE s.data.toList).toArray⟩, .int .i64 (Lab.wideE s.data.toList)]) ∧ Below w.heap.size w w' := by
  have hT0 := hT
  obtain ⟨b0, b1, b2, b3, rfl, -, -, -, -⟩ := hT0
  obtain ⟨⟨m, z⟩, hrd⟩ : ∃ q, rdOf s.data.toList = q := ⟨_, rfl⟩
  obtain ⟨l, hlm⟩ : ∃ l, ints m = l := ⟨_, rfl⟩
  have hln : l.length = m.length := by rw [← hlm]; unfold ints; rw [List.length_map]
  have hcode : codeE s.data.toList = if Lab.wideE s.data.toList = 0 then Puny.encB l else [] := by unfold codeE; rw [hrd, ← hlm]
  rw [hcode]
  have KR := Lib.hid (fun W => runes_at s W hs.1 hrd)
  obtain ⟨B, hB⟩ : ∃ B, w.heap.size = B := ⟨_, rfl⟩
  have hv1 := below_one w (.cells #[.slice (some ⟨b0, 0, none⟩) 74 74, .slice (some ⟨b1, 0, none⟩) 10 10, .slice (some ⟨b2, 0, none⟩) 11 11, .slice (some ⟨b3, 0, none⟩) 42 42] 28)
  have hH0 := held_new w b0 b1 b2 b3 28
  have hv2 := below_one (w.alloc (.cells #[.slice (some ⟨b0, 0, none⟩) 74 74, .slice (some ⟨b1, 0, none⟩) 10 10, .slice (some ⟨b2, 0, none⟩) 11 11, .slice (some ⟨b3, 0, none⟩) 42 42] 28)) (.cells #[.string s] 9)
  have hS0 := cell_new1 (w.alloc (.cells #[.slice (some ⟨b0, 0, none⟩) 74 74, .slice (some ⟨b1, 0, none⟩) 10 10, .slice (some ⟨b2, 0, none⟩) 11 11, .slice (some ⟨b3, 0, none⟩) 42 42] 28)) (.string s) 9
  have hsz0 : ((w.alloc (.cells #[.slice (some ⟨b0, 0, none⟩) 74 74, .slice (some ⟨b1, 0, none⟩) 10 10, .slice (some ⟨b2, 0, none⟩) 11 11, .slice (some ⟨b3, 0, none⟩) 42 42] 28)).alloc (.cells #[.string s] 9)).heap.size = B + 2 := by simp [hB]
  have hszA : (w.alloc (.cells #[.slice (some ⟨b0, 0, none⟩) 74 74, .slice (some ⟨b1, 0, none⟩) 10 10, .slice (some ⟨b2, 0, none⟩) 11 11, .slice (some ⟨b3, 0, none⟩) 42 42] 28)).heap.size = B + 1 := by simp [hB]
  rw [hszA] at hS0
  rw [hB] at hH0
  have HV := Lib.hid (below_then hv1 hv2)
  have HH0 := Lib.hid (hH0.below hv2)
  have HS0 := Lib.hid hS0
  have HSZ0 := Lib.hid hsz0
  have HT := Lib.hid hT
  have HWF := Lib.hid hs
  have HRD := Lib.hid hrd
  have HLM := Lib.hid hlm
  have HLN := Lib.hid hln
  obtain ⟨x, hx⟩ : ∃ x, x = Lab.wideE s.data.toList := ⟨_, rfl⟩
  rw [← hx]
  have HX := Lib.hid hx
  obtain ⟨q, hq⟩ : ∃ q, q = if x = 0 then Puny.encB l else [] := ⟨_, rfl⟩
  rw [← hq]
  have HQ := Lib.hid hq
  clear hq hx hT hs hrd hlm hln hcode hv1 hH0 hv2 hS0 hsz0 hszA
  go_enter Tryz.func48, Tryz.ntmps48
  go_wp2_with fail
  refine (KR.out _).mono ?_
  rintro e w1 ⟨A, c, rfl, hl, hb1⟩
  rw [HLM.out, ← HLN.out] at hl
  rw [← HLN.out]
  obtain ⟨C, hC⟩ : ∃ C, w1.heap.size = C := ⟨_, rfl⟩
  have HB1 := Lib.hid hb1
  have HL := Lib.hid hl
  clear hb1 hl
  have s0 : ((((w1.alloc (.cells #[.slice A l.length c] 51)).alloc (.cells #[.int .i64 z] 3)).alloc (.cells #[.string ⟨#[]⟩] 9)).alloc (.cells #[.bool false] 4)).heap.size = C + 1 + 1 + 1 + 1 := by simp [hC]
  go_wp2_with fail
  refine (when_any (C + 1 + 1 + 1 + 1) 7 _ _ _ s0).mono ?_
  rintro e v1 h1
  have A1 := Lib.hid h1.ask
  have B1 := Lib.hid (whenKeeps s0 h1)
  obtain ⟨rfl, s1, -, -, -⟩ := h1
  go_wp2_with fail
  refine (when_any (C + 1 + 1 + 1 + 1 + 2) 4 _ _ _ s1).mono ?_
  rintro e v2 h2
  have A2 := Lib.hid h2.ask
  have B2 := Lib.hid (whenKeeps s1 h2)
  obtain ⟨rfl, s2, -, -, -⟩ := h2
  go_wp2_with fail
  refine (when_any (C + 1 + 1 + 1 + 1 + 2 + 2) 11 _ _ _ s2).mono ?_
  rintro e v3 h3
  have A3 := Lib.hid h3.ask
  have B3 := Lib.hid (whenKeeps s2 h3)
  obtain ⟨rfl, s3, -, -, -⟩ := h3
  go_wp2_with fail
  refine (when_any (C + 1 + 1 + 1 + 1 + 2 + 2 + 2) 10 _ _ _ s3).mono ?_
  rintro e v4 h4
  have A4 := Lib.hid h4.ask
  have B4 := Lib.hid (whenKeeps s3 h4)
  obtain ⟨rfl, s4, -, -, -⟩ := h4
  go_wp2_with fail
  refine (when_any (C + 1 + 1 + 1 + 1 + 2 + 2 + 2 + 2) 8 _ _ _ s4).mono ?_
  rintro e v5 h5
  have A5 := Lib.hid h5.ask
  have B5 := Lib.hid (whenKeeps s4 h5)
  obtain ⟨rfl, s5, -, -, -⟩ := h5
  go_wp2_with fail
  refine (when_any (C + 1 + 1 + 1 + 1 + 2 + 2 + 2 + 2 + 2) 9 _ _ _ s5).mono ?_
  rintro e v6 h6
  have A6 := Lib.hid h6.ask
  have B6 := Lib.hid (whenKeeps s5 h6)
  obtain ⟨rfl, s6, -, -, -⟩ := h6
  go_wp2_with fail
  refine (when_any (C + 1 + 1 + 1 + 1 + 2 + 2 + 2 + 2 + 2 + 2) 12 _ _ _ s6).mono ?_
  rintro e v7 h7
  have A7 := Lib.hid h7.ask
  have B7 := Lib.hid (whenKeeps s6 h7)
  obtain ⟨rfl, s7, -, -, -⟩ := h7
  go_wp2_with fail
  refine (when_any (C + 1 + 1 + 1 + 1 + 2 + 2 + 2 + 2 + 2 + 2 + 2) 5 _ _ _ s7).mono ?_
  rintro e v8 h8
  have A8 := Lib.hid h8.ask
  have B8 := Lib.hid (whenKeeps s7 h8)
  obtain ⟨rfl, s8, -, -, -⟩ := h8
  go_wp2_with fail
  obtain ⟨o, ho⟩ : ∃ o, o = v8.alloc (.cells #[askV (C + 1 + 1 + 1 + 1), askV (C + 1 + 1 + 1 + 1 + 2), askV (C + 1 + 1 + 1 + 1 + 2 + 2), askV (C + 1 + 1 + 1 + 1 + 2 + 2 + 2), askV (C + 1 + 1 + 1 + 1 + 2 + 2 + 2 + 2), askV (C + 1 + 1 + 1 + 1 + 2 + 2 + 2 + 2 + 2), askV (C + 1 + 1 + 1 + 1 + 2 + 2 + 2 + 2 + 2 + 2), askV (C + 1 + 1 + 1 + 1 + 2 + 2 + 2 + 2 + 2 + 2 + 2)] 104) := ⟨_, rfl⟩
  have B9 : Below v8.heap.size v8 o := by rw [ho]; exact below_one _ _
  obtain ⟨v0, hv0⟩ : ∃ v0, v0 = (((w1.alloc (.cells #[.slice A l.length c] 51)).alloc (.cells #[.int .i64 z] 3)).alloc (.cells #[.string ⟨#[]⟩] 9)).alloc (.cells #[.bool false] 4) := ⟨_, rfl⟩
  have B1 := B1.out
  rw [← hv0] at B1 s0
  have hw10 : Below w1.heap.size w1 v0 := by rw [hv0]; exact (((below_one w1 _).alloc (by simp) _).alloc (by simp; omega) _).alloc (by simp; omega) _
  have k0 : v0.heap[C]? = some (.cells #[.slice A l.length c] 51 (0, 0)) := by rw [hv0]; exact heap_more (heap_more (heap_more (by rw [← hC]; exact heap_alloc_new w1 _)))
  have k1 : v0.heap[C + 1]? = some (.cells #[.int .i64 z] 3 (0, 0)) := by rw [hv0]; exact heap_more (heap_more (by have h := heap_alloc_new (w1.alloc (.cells #[.slice A l.length c] 51)) (.cells #[.int .i64 z] 3); rwa [World.size_alloc, hC] at h))
  have k2 : v0.heap[C + 2]? = some (.cells #[.string ⟨#[]⟩] 9 (0, 0)) := by rw [hv0]; exact heap_more (by have h := heap_alloc_new ((w1.alloc (.cells #[.slice A l.length c] 51)).alloc (.cells #[.int .i64 z] 3)) (.cells #[.string ⟨#[]⟩] 9); rwa [World.size_alloc, World.size_alloc, hC] at h)
  have k3 : v0.heap[C + 3]? = some (.cells #[.bool false] 4 (0, 0)) := by rw [hv0]; have h := heap_alloc_new (((w1.alloc (.cells #[.slice A l.length c] 51)).alloc (.cells #[.int .i64 z] 3)).alloc (.cells #[.string ⟨#[]⟩] 9)) (.cells #[.bool false] 4); rwa [World.size_alloc, World.size_alloc, World.size_alloc, hC] at h
  have T1 : Below v0.heap.size v0 v1 := B1
  have T2 : Below v0.heap.size v0 v2 := below_then T1 B2.out
  have T3 : Below v0.heap.size v0 v3 := below_then T2 B3.out
  have T4 : Below v0.heap.size v0 v4 := below_then T3 B4.out
  have T5 : Below v0.heap.size v0 v5 := below_then T4 B5.out
  have T6 : Below v0.heap.size v0 v6 := below_then T5 B6.out
  have T7 : Below v0.heap.size v0 v7 := below_then T6 B7.out
  have T8 : Below v0.heap.size v0 v8 := below_then T7 B8.out
  have T9 : Below v0.heap.size v0 o := below_then T8 B9
  have hsz : v8.heap.size < o.heap.size := by rw [ho]; simp
  have hBC : B + 2 ≤ C := by have := HB1.out.size; rw [HSZ0.out, hC] at this; exact this
  have hAll1 : Below w.heap.size w w1 := below_then HV.out HB1.out
  have hAllo : Below w1.heap.size w1 o := below_then hw10 T9
  have hHo := (HH0.out.below HB1.out).below hAllo
  have hSo : o.cell? ⟨B + 1, 0, none⟩ = some (.string s) := by
    have h1 := HB1.out.cell (p := ⟨B + 1, 0, none⟩) (show B + 1 < _ by rw [HSZ0.out]; omega)
    have h2 := hAllo.cell (p := ⟨B + 1, 0, none⟩) (show B + 1 < _ by rw [hC]; omega)
    rw [h2, h1]
    exact HS0.out
  have hLo : o.cell? ⟨C, 0, none⟩ = some (.slice A l.length c) := by
    have := (T9.block C (by omega)).trans k0
    simp [World.cell?, this]
  have hZo : o.cell? ⟨C + 1, 0, none⟩ = some (.int .i64 z) := by
    have := (T9.block (C + 1) (by omega)).trans k1
    simp [World.cell?, this]
  have h2o := (T9.block (C + 2) (by omega)).trans k2
  have h3o := (T9.block (C + 3) (by omega)).trans k3
  have K := enc_first B C (C + 1 + 1 + 1 + 1 + 2 + 2 + 2 + 2 + 2 + 2 + 2 + 2) (C + 1 + 1 + 1 + 1) (C + 1 + 1 + 1 + 1 + 2) (C + 1 + 1 + 1 + 1 + 2 + 2) (C + 1 + 1 + 1 + 1 + 2 + 2 + 2) (C + 1 + 1 + 1 + 1 + 2 + 2 + 2 + 2) (C + 1 + 1 + 1 + 1 + 2 + 2 + 2 + 2 + 2) (C + 1 + 1 + 1 + 1 + 2 + 2 + 2 + 2 + 2 + 2) (C + 1 + 1 + 1 + 1 + 2 + 2 + 2 + 2 + 2 + 2 + 2) b0 b1 b2 b3 A c s m l z w1 o HLM.out hC (by omega) hAllo (HT.out.below hAll1) HL.out HWF.out HRD.out hHo hSo hLo hZo h2o h3o (by omega) (by omega)
    (by omega) ((((((((A1.out.keep B2.out).keep B3.out).keep B4.out).keep B5.out).keep B6.out).keep B7.out).keep B8.out).keep B9) (by rw [ho]; exact row_cell v8 s8 _ _ rfl)
    (by omega) (((((((A2.out.keep B3.out).keep B4.out).keep B5.out).keep B6.out).keep B7.out).keep B8.out).keep B9) (by rw [ho]; exact row_cell v8 s8 _ _ rfl)
    (by omega) ((((((A3.out.keep B4.out).keep B5.out).keep B6.out).keep B7.out).keep B8.out).keep B9) (by rw [ho]; exact row_cell v8 s8 _ _ rfl)
    (by omega) (((((A4.out.keep B5.out).keep B6.out).keep B7.out).keep B8.out).keep B9) (by rw [ho]; exact row_cell v8 s8 _ _ rfl)
    (by omega) ((((A5.out.keep B6.out).keep B7.out).keep B8.out).keep B9) (by rw [ho]; exact row_cell v8 s8 _ _ rfl)
    (by omega) (((A6.out.keep B7.out).keep B8.out).keep B9) (by rw [ho]; exact row_cell v8 s8 _ _ rfl)
    (by omega) ((A7.out.keep B8.out).keep B9) (by rw [ho]; exact row_cell v8 s8 _ _ rfl)
    (by omega) (A8.out.keep B9) (by rw [ho]; exact row_cell v8 s8 _ _ rfl)
  have ALL := Lib.hid hAll1
  rw [ho] at K
  rw [← HX.out] at K
  refine K.mono ?_
  rintro e w6 ⟨rfl, hcell, hb6⟩
  have HB := Lib.hid (below_then ALL.out hb6)
  have HC := Lib.hid hcell
  clear hb6 hcell k0 k1 k2 k3 h2o h3o hLo hZo hSo hHo hAllo hAll1 hBC hsz T1 T2 T3 T4 T5 T6 T7 T8 T9 B9 ho hv0 hw10 B1
  by_cases h0 : x = 0
  · subst h0
    have hc6 := HC.out rfl
    have hqe : q = Puny.encB l := by rw [HQ.out, if_pos rfl]
    subst hqe
    go_wp2
    go_ret2
    exact ⟨rfl, HB.out⟩
  · have hx0 : (x == 0) = false := by rw [beq_eq_false_iff_ne]; exact h0
    have hqe : q = [] := by rw [HQ.out, if_neg h0]
    subst hqe
    clear h0
    go_wp2
    go_ret2
    exact ⟨rfl, HB.out⟩
end Go.Proofs.YtmbammhkkcnoaaaGreat
