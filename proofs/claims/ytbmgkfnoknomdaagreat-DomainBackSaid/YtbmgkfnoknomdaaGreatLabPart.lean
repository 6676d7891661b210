/-
  Proved here: label's small functions: a bad dash, letters, digits and dashes alone, the sign, Char, Plain. Conditions: strings of at most 100,000 bytes.
-/
import Derived.Test.YtbmgkfnoknomdaaGreatLabAsk
import Derived.Test.YtbmgkfnoknomdaaGreatLabFine
import Derived.Test.YtbmgkfnoknomdaaGreatFoldBytes
import Derived.Test.YtbmgkfnoknomdaaGreatPunyC
import Derived.Test.YtbmgkfnoknomdaaGreatBidiAll
import Derived.Laws.RangeAny
import Derived.Lib.DecodeN
import Derived.Lib.RuneCount
namespace Go.Proofs.YtbmgkfnoknomdaaGreat
open Go.RowKit Utf
namespace Lab
theorem one_is {s : ByteArray} {k : Nat} (h : k < s.size) (c : UInt8) : ((s.extract k (k + 1)).toList == [c]) = (byteAt s.data.toList k == (c.toNat : Int)) := by
  rw [byteAt_get h, ByteArray.toList_eq, ByteArray.data_extract, Array.toList_extract, List.extract_eq_take_drop, List.drop_eq_getElem_cons (by simpa using h), Nat.add_sub_cancel_left]
  simp only [List.take_succ_cons, List.take_zero]
  rw [Bool.eq_iff_iff]
  simp only [beq_iff_eq, List.cons.injEq, and_true]
  constructor
  · intro e
    have : s[k] = c := e
    rw [this]
  · intro e
    have : s[k] = c := UInt8.toNat_inj.1 (by omega)
    exact this
theorem two_is {s : ByteArray} (h : 3 < s.size) : ((s.extract 2 4).toList == [45, 45]) = (byteAt s.data.toList 2 == 45 && byteAt s.data.toList 3 == 45) := by
  rw [byteAt_get (show 2 < s.size by omega), byteAt_get h, ByteArray.toList_eq, ByteArray.data_extract, Array.toList_extract, List.extract_eq_take_drop, List.drop_eq_getElem_cons (by simp; omega), List.drop_eq_getElem_cons (by simp; omega)]
  simp only [Nat.reduceSub, List.take_succ_cons, List.take_zero]
  rw [Bool.eq_iff_iff]
  simp only [beq_iff_eq, List.cons.injEq, and_true, Bool.and_eq_true]
  constructor
  · rintro ⟨e, e'⟩
    have h1 : s[2] = 45 := e
    have h2 : s[3] = 45 := e'
    rw [h1, h2]
    exact ⟨rfl, rfl⟩
  · rintro ⟨e, e'⟩
    have h1 : s[2] = 45 := UInt8.toNat_inj.1 (by rw [show (45 : UInt8).toNat = 45 from rfl]; omega)
    have h2 : s[3] = 45 := UInt8.toNat_inj.1 (by rw [show (45 : UInt8).toNat = 45 from rfl]; omega)
    exact ⟨h1, h2⟩
/-- What a place that is not ASCII is read as is none of the plain characters. -/
theorem decode_wide {s : ByteArray} {k : Nat} (h : k < s.size) (hb : ¬ s[k].toNat < 128) : 128 ≤ (Utf8.decode s k).1 := by
  have e : s.get! k = s[k] := by
    simp [ByteArray.get!, getElem!_pos, h]
    rfl
  rw [Lib.decode_at, e]
  unfold Lib.decodeN
  rw [if_neg hb]
  repeat' split
  all_goals (first | omega | decide | (simp only []; omega))
end Lab
set_option maxHeartbeats 4000000 in
set_option maxRecDepth 100000 in
theorem hasBadDash_any (s : ByteArray) (w : World) (hs : s.size ≤ 100000) : Calls Tryz.prog 95 #[.string s] w fun e w' => e = .returned (.bool (Lab.dashed s.data.toList)) ∧ w = w' := by
  have hsl : s.data.toList.length = s.size := by simp
  by_cases h0 : s.size = 0
  · obtain rfl : s = ⟨#[]⟩ := ByteArray.ext (Array.eq_empty_of_size_eq_zero h0)
    clear hsl h0 hs
    go_enter Tryz.func95, Tryz.ntmps95
    go_wp2
    go_ret
    exact ⟨rfl, rfl⟩
  · have hz : (1 : Int) ≤ (s.size : Int) := by omega
    have hz1 : 1 ≤ s.size := by omega
    have a0 := Lab.one_is (s := s) (k := 0) (by omega) 45
    have a1 := Lab.one_is (s := s) (k := s.size - 1) (by omega) 45
    rw [show s.size - 1 + 1 = s.size by omega] at a1
    unfold Lab.dashed
    rw [hsl, ← show ((45 : UInt8).toNat : Int) = 45 from rfl, ← a0, ← a1]
    clear a0 a1
    cases e0 : ((s.extract 0 (0 + 1)).toList == [45])
    · cases e1 : ((s.extract (s.size - 1) s.size).toList == [45])
      · by_cases h3 : 3 < s.size
        · have h3z : (4 : Int) ≤ (s.size : Int) := by omega
          have a2 := Lab.two_is h3
          rw [decide_eq_true h3, Bool.true_and, Bool.false_or, Bool.false_or, show ((45 : UInt8).toNat : Int) = 45 from rfl, ← a2]
          clear a2
          cases e2 : ((s.extract 2 4).toList == [45, 45])
          all_goals
            go_enter Tryz.func95, Tryz.ntmps95
            go_wp2
            go_ret
            exact ⟨rfl, rfl⟩
        · have h3z : ¬ (4 : Int) ≤ (s.size : Int) := by omega
          rw [decide_eq_false h3]
          clear h3
          go_enter Tryz.func95, Tryz.ntmps95
          go_wp2
          go_ret
          exact ⟨rfl, rfl⟩
      · go_enter Tryz.func95, Tryz.ntmps95
        go_wp2
        go_ret
        exact ⟨rfl, rfl⟩
    · go_enter Tryz.func95, Tryz.ntmps95
      go_wp2
      go_ret
      exact ⟨rfl, rfl⟩
set_option maxHeartbeats 4000000 in
set_option maxRecDepth 100000 in
theorem isPlain1_any (x : Int) (w : World) (h0 : 0 ≤ x) : Calls Tryz.prog 140 #[.int .i32 x] w fun e w' => e = .returned (.bool (!Bidi.plainC x)) ∧ w = w' := by
  rcases plain_kinds h0 with ⟨hp, hcs⟩ | ⟨hp, hcs⟩
  · rw [hp]
    clear hp
    have e45 : (x == 45) = false := by rw [beq_eq_false_iff_ne]; omega
    rcases hcs with h | ⟨h, h'⟩ | ⟨h, h'⟩ | ⟨h, h'⟩ | h
    all_goals
      first | have d97 : decide (97 ≤ x) = true := decide_eq_true (by omega) | have d97 : decide (97 ≤ x) = false := decide_eq_false (by omega)
      first | have d122 : decide (x ≤ 122) = true := decide_eq_true (by omega) | have d122 : decide (x ≤ 122) = false := decide_eq_false (by omega)
      first | have d65 : decide (65 ≤ x) = true := decide_eq_true (by omega) | have d65 : decide (65 ≤ x) = false := decide_eq_false (by omega)
      first | have d90 : decide (x ≤ 90) = true := decide_eq_true (by omega) | have d90 : decide (x ≤ 90) = false := decide_eq_false (by omega)
      first | have d48 : decide (48 ≤ x) = true := decide_eq_true (by omega) | have d48 : decide (48 ≤ x) = false := decide_eq_false (by omega)
      first | have d57 : decide (x ≤ 57) = true := decide_eq_true (by omega) | have d57 : decide (x ≤ 57) = false := decide_eq_false (by omega)
      clear h0
      go_enter Tryz.func140, Tryz.ntmps140
      go_wp2
      go_ret
      exact ⟨rfl, rfl⟩
  · rw [hp]
    clear hp
    rcases hcs with h | ⟨h, h'⟩ | ⟨h, h'⟩ | ⟨h, h'⟩
    all_goals
      first | have d97 : decide (97 ≤ x) = true := decide_eq_true (by omega) | have d97 : decide (97 ≤ x) = false := decide_eq_false (by omega)
      first | have d122 : decide (x ≤ 122) = true := decide_eq_true (by omega) | have d122 : decide (x ≤ 122) = false := decide_eq_false (by omega)
      first | have d65 : decide (65 ≤ x) = true := decide_eq_true (by omega) | have d65 : decide (65 ≤ x) = false := decide_eq_false (by omega)
      first | have d90 : decide (x ≤ 90) = true := decide_eq_true (by omega) | have d90 : decide (x ≤ 90) = false := decide_eq_false (by omega)
      first | have d48 : decide (48 ≤ x) = true := decide_eq_true (by omega) | have d48 : decide (48 ≤ x) = false := decide_eq_false (by omega)
      first | have d57 : decide (x ≤ 57) = true := decide_eq_true (by omega) | have d57 : decide (x ≤ 57) = false := decide_eq_false (by omega)
      first | have e45 : (x == 45) = true := (by rw [beq_iff_eq]; omega) | have e45 : (x == 45) = false := (by rw [beq_eq_false_iff_ne]; omega)
      clear h0
      go_enter Tryz.func140, Tryz.ntmps140
      go_wp2
      go_ret
      exact ⟨rfl, rfl⟩
/-- What strings.IndexFunc tells of isPlain's question: a place, if there is one that is not plain. -/
def StrangePost (p : Bool) (w : World) (e : Ending) (w' : World) : Prop := ∃ z : Int, e = .returned (.int .i64 z) ∧ decide (0 ≤ z) = !p ∧ Below w.heap.size w w'
set_option maxHeartbeats 4000000 in
set_option maxRecDepth 100000 in
theorem strange_any (s : ByteArray) (w : World) (hs : s.size ≤ 100000) :
    Calls Tryz.prog 207 #[.string s, .func (.func 140) #[] #[], .bool true] w (StrangePost (s.data.toList.all fun c => Bidi.plainC (c.toNat : Int)) w) := by
  have hsl : s.data.toList.length = s.size := by simp
  obtain ⟨p, hpp⟩ : ∃ p, p = (s.data.toList.all fun c => Bidi.plainC (c.toNat : Int)) := ⟨_, rfl⟩
  rw [← hpp]
  have HP := Lib.hid hpp
  have HSL := Lib.hid hsl
  clear hpp hsl
  have hit : ∀ pos, decide (0 ≤ ((pos : Nat) : Int)) = true := fun pos => decide_eq_true (by omega)
  have HIT := Lib.hid hit
  clear hit
  go_enter Tryz.func207, Tryz.ntmps207
  go_wp2
  go_loopg [7, 8] (s.size + 1) (fun gk _ _ wr => ∃ k : Nat, k ≤ s.size ∧ s.size - k < gk ∧ wr = w.iter s k ∧ Hid (∀ j, j < k → Bidi.plainC (Lab.byteAt s.data.toList j) = true))
  case atStart => exact ⟨0, Nat.zero_le _, by omega, rfl, fun j hj => absurd hj (Nat.not_lt_zero _)⟩
  case round =>
    obtain ⟨k, hk, hg, rfl, I⟩ := hrel
    have hB := Lib.hid (show ∀ k, Below w.heap.size w (w.iter s k) from fun k => (Below.refl _ w).alloc (Nat.le_refl _) _)
    by_cases hlt : k < s.size
    · by_cases ha : s[k].toNat < 128
      · have hb := Lab.byteAt_get hlt
        have hnx := fun ty => run_next_ascii (P := Tryz.prog) w s k ty hlt ha
        cases hp : Bidi.plainC (s[k].toNat : Int)
        · have KC := isPlain1_any (s[k].toNat : Int) (w.iter s (k + 1)) (by omega)
          rw [hp] at KC
          have KC := Lib.hid KC
          have R := Lib.hid (show p = false by rw [HP.out]; exact plain_not (k := k) (by have := HSL.out; omega) (by rw [hb]; exact hp))
          clear hp hb
          go_wp2_with fail
          refine KC.out.mono ?_
          rintro e w3 ⟨rfl, rfl⟩
          go_wp2
          go_ret
          exact ⟨_, rfl, by rw [R.out]; exact HIT.out _, hB.out _⟩
        · have KC := isPlain1_any (s[k].toNat : Int) (w.iter s (k + 1)) (by omega)
          rw [hp] at KC
          have KC := Lib.hid KC
          have I2 : Hid (∀ j, j < k + 1 → Bidi.plainC (Lab.byteAt s.data.toList j) = true) := Lib.hid (fun j hj => by
            by_cases e : j = k
            · subst e; rw [hb]; exact hp
            · exact I.out j (by omega))
          clear hp hb
          go_wp2_with fail
          refine KC.out.mono ?_
          rintro e w3 ⟨rfl, rfl⟩
          go_wp2
          go_roundg (s.size - k)
          case measure => omega
          case rel => exact ⟨k + 1, by omega, by omega, rfl, I2.out⟩
      · have hb := Lab.byteAt_get hlt
        have hnx := fun ty => run_next_any (P := Tryz.prog) w s k ty hlt
        have hd := Lab.decode_wide hlt ha
        obtain ⟨⟨x, n⟩, hxn⟩ : ∃ q, q = Utf8.decode s k := ⟨_, rfl⟩
        rw [← hxn] at hnx hd
        have hd : 128 ≤ x := hd
        have KC := isPlain1_any (x : Int) (w.iter s (k + n)) (by omega)
        rw [show Bidi.plainC (x : Int) = false by unfold Bidi.plainC; rw [decide_eq_false (show ¬ (x : Int) ≤ 122 by omega), decide_eq_false (show ¬ (x : Int) ≤ 90 by omega), decide_eq_false (show ¬ (x : Int) ≤ 57 by omega), beq_eq_false_iff_ne.2 (show (x : Int) ≠ 45 by omega)]; simp] at KC
        have KC := Lib.hid KC
        have R := Lib.hid (show p = false by
          rw [HP.out]
          refine plain_not (k := k) (by have := HSL.out; omega) ?_
          rw [hb]
          unfold Bidi.plainC
          rw [decide_eq_false (show ¬ (s[k].toNat : Int) ≤ 122 by omega), decide_eq_false (show ¬ (s[k].toNat : Int) ≤ 90 by omega), decide_eq_false (show ¬ (s[k].toNat : Int) ≤ 57 by omega), beq_eq_false_iff_ne.2 (show (s[k].toNat : Int) ≠ 45 by omega)]
          simp)
        clear hb hd hxn ha
        go_wp2_with fail
        refine KC.out.mono ?_
        rintro e w3 ⟨rfl, rfl⟩
        go_wp2
        go_ret
        exact ⟨_, rfl, by rw [R.out]; exact HIT.out _, hB.out _⟩
    · obtain rfl : k = s.size := by omega
      have hnx := fun ty => run_next_end (P := Tryz.prog) w s s.size ty hlt
      have R := Lib.hid (show p = true by rw [HP.out]; exact plain_all (fun j hj => I.out j (by have := HSL.out; omega)))
      go_wp2
      go_ret
      exact ⟨_, rfl, by rw [R.out]; rfl, hB.out _⟩
set_option maxHeartbeats 4000000 in
set_option maxRecDepth 100000 in
theorem isPlain_any (s : ByteArray) (w : World) (hs : s.size ≤ 100000) : Calls Tryz.prog 93 #[.string s] w fun e w' => e = .returned (.bool (s.data.toList.all fun c => Bidi.plainC (c.toNat : Int))) ∧ Below w.heap.size w w' := by
  have K := Lib.hid (strange_any s w hs)
  generalize (s.data.toList.all fun c => Bidi.plainC (c.toNat : Int)) = p at K ⊢
  clear hs
  cases p
  all_goals
    go_enter Tryz.func93, Tryz.ntmps93
    go_wp2_with (first | (go_at_call 139; go_in) | (go_at_call 182; go_in))
    refine K.out.mono ?_
    rintro e w3 ⟨z, rfl, hz, hb⟩
    have HB := Lib.hid hb
    clear hb
    go_wp2
    go_ret
    exact ⟨rfl, HB.out⟩
namespace Lab
theorem sign_is (s : ByteArray) : ((⟨((s.extract 0 4).data.toList.map smallB).toArray⟩ : ByteArray).toList == [120, 110, 45, 45]) = (((s.data.toList.take 4).map smallB) == sign) := by
  rw [ByteArray.toList_eq, extract_take]
  rfl
end Lab
set_option maxHeartbeats 4000000 in
set_option maxRecDepth 100000 in
theorem hasSign_any (s : ByteArray) (w : World) (hs : s.size ≤ 100000) : Calls Tryz.prog 55 #[.string s] w fun e w' => e = .returned (.bool ((s.data.toList.take 4).map smallB == Lab.sign)) ∧ Below w.heap.size w w' := by
  by_cases h4 : 4 ≤ s.size
  · have h4z : (4 : Int) ≤ (s.size : Int) := by omega
    have KP := plain_any (s.extract 0 4) w (by simp; omega)
    have hq := Lab.sign_is s
    generalize hz : (⟨((s.extract 0 4).data.toList.map smallB).toArray⟩ : ByteArray) = z at KP hq
    generalize ((s.data.toList.take 4).map smallB == Lab.sign) = b at hq ⊢
    have KP := Lib.hid KP
    clear hz hs
    cases b
    all_goals
      go_enter Tryz.func55, Tryz.ntmps55
      go_wp2_with fail
      refine KP.out.mono ?_
      rintro e w3 ⟨rfl, hb⟩
      have HB := Lib.hid hb
      clear hb
      go_wp2
      go_ret
      exact ⟨rfl, HB.out⟩
  · have h4z : ¬ (4 : Int) ≤ (s.size : Int) := by omega
    have : ((s.data.toList.take 4).map smallB == Lab.sign) = false := by
      rw [beq_eq_false_iff_ne]
      intro e
      have := congrArg List.length e
      rw [List.length_map, List.length_take] at this
      simp [Lab.sign] at this
      omega
    rw [this]
    clear this h4 hs
    go_enter Tryz.func55, Tryz.ntmps55
    go_wp2
    go_ret
    exact ⟨rfl, Below.refl _ _⟩
set_option maxHeartbeats 4000000 in
set_option maxRecDepth 100000 in
theorem charL_any (t : Value) (r : Int) (w : World) (hT : Table w t) : Calls Tryz.prog 162 #[t, .int .i32 r] w fun e w' => e = .returned (.bool (Lab.charOk r)) ∧ Below w.heap.size w w' := by
  have KC := Lib.hid (fun W (h : Below w.heap.size w W) => cat_any t r W (hT.below h))
  have KS := fun W (h : Below w.heap.size w W) => split_any t r W (hT.below h)
  have hch : Lab.charOk r = (r == 45 || (decide (2 ≤ catOf r) && decide (catOf r ≤ 5) && (!((splitOf r).getD default).soft && !((splitOf r).getD default).out))) := by
    unfold Lab.charOk
    cases splitOf r <;> rfl
  have h45c : r = 45 → catOf r ≠ 2 ∧ catOf r ≠ 3 ∧ catOf r ≠ 4 ∧ catOf r ≠ 5 := by rintro rfl; decide +kernel
  rw [hch]
  clear hch
  obtain ⟨b0, b1, b2, b3, rfl, -, -, -, -⟩ := hT
  generalize catOf r = c at KC h45c ⊢
  unfold TellsSp at KS
  generalize (splitOf r).getD default = y at KS ⊢
  generalize (splitOf r).isSome = is at KS
  obtain ⟨v0, v1, v2, v3, v4⟩ := y
  simp only [encSp] at KS ⊢
  have KS := Lib.hid KS
  by_cases hcs : 2 ≤ c ∧ c ≤ 5
  · rw [decide_eq_true hcs.1, decide_eq_true hcs.2, beq_eq_false_iff_ne.2 (show r ≠ 45 by intro e; have := h45c e; omega), Bool.false_or, Bool.true_and, Bool.true_and]
    clear h45c
    have hc4 : c = 2 ∨ c = 3 ∨ c = 4 ∨ c = 5 := by omega
    clear hcs
    rcases hc4 with rfl | rfl | rfl | rfl <;> cases v3 <;> cases v4
    all_goals
      go_enter Tryz.func162, Tryz.ntmps162
      go_wp2_with fail
      refine (KC.out _ (below_one _ _)).mono ?_
      rintro e w2 ⟨rfl, hb2⟩
      have BX := Lib.hid (boxT hb2)
      obtain ⟨hS5, d0, d1, d2, d3⟩ := BX.out.2
      clear hb2
      go_wp2_with fail
      refine (KS.out w2 BX.out.1).mono ?_
      rintro e w3 ⟨rfl, hb3⟩
      have B3 := Lib.hid (below_then BX.out.1 hb3)
      clear hb3 d0 d1 d2 d3 hS5
      go_wp2
      go_ret
      exact ⟨rfl, below_new B3.out (Nat.le_refl _) _⟩
  · have hcf : (decide (2 ≤ c) && decide (c ≤ 5)) = false := by
      rw [Bool.and_eq_false_iff, decide_eq_false_iff_not, decide_eq_false_iff_not]; omega
    rw [hcf, Bool.false_and, Bool.or_false]
    clear h45c hcf
    have e2 : (c == 2) = false := by rw [beq_eq_false_iff_ne]; omega
    have e3 : (c == 3) = false := by rw [beq_eq_false_iff_ne]; omega
    have e4 : (c == 4) = false := by rw [beq_eq_false_iff_ne]; omega
    have e5 : (c == 5) = false := by rw [beq_eq_false_iff_ne]; omega
    cases h45 : (r == 45)
    all_goals
      go_enter Tryz.func162, Tryz.ntmps162
      go_wp2_with fail
      refine (KC.out _ (below_one _ _)).mono ?_
      rintro e w2 ⟨rfl, hb2⟩
      have BX := Lib.hid (boxT hb2)
      clear hb2
      go_wp2
      go_ret
      exact ⟨rfl, BX.out.1⟩
end Go.Proofs.YtbmgkfnoknomdaaGreat
