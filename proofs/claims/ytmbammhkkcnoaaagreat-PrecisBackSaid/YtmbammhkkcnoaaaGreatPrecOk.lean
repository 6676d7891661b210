/-
  Proved here: the program's four functions of layer 10. Conditions: what can be asked of ('LabFits', 'WideFits').
-/
import Derived.Test.YtmbammhkkcnoaaaGreatPrecFits
import Derived.Test.YtmbammhkkcnoaaaGreatCtxEnd
import Derived.Test.YtmbammhkkcnoaaaGreatLabPart
import Derived.Test.YtmbammhkkcnoaaaGreatFoldAll
namespace Go.Proofs.YtmbammhkkcnoaaaGreat
open Go.RowKit Utf
namespace Prec
/-- A great letter that stands for no other character. -/
def great (r : Int) : Bool := catOf r == 1 && (match splitOf r with | none => true | some y => !y.soft && !y.out)
def strange (r : Int) : Bool := !charOk r && !Ctx.needs r
theorem bad_is (l : List Int) : badAt l = (l.any strange || !Ctx.all l) := by
  have hi : ∀ (k : Nat), k < l.length → (Ctx.need l (k : Nat) == 2 || (Ctx.need l (k : Nat) == 0 && !charOk l[k]!)) = (strange l[k]! || (Ctx.needs l[k]! && !Ctx.met l k)) := fun k hk => by
    rw [Ctx.need_in hk]
    unfold strange
    cases Ctx.needs l[k]! <;> cases Ctx.met l k <;> cases charOk l[k]! <;> rfl
  rw [Bool.eq_iff_iff]
  unfold badAt
  rw [List.any_eq_true, Bool.or_eq_true, List.any_eq_true, Bool.not_eq_true']
  constructor
  · rintro ⟨k, hk, h⟩
    have hk := List.mem_range.1 hk
    rw [hi k hk, Bool.or_eq_true, Bool.and_eq_true, Bool.not_eq_true'] at h
    rcases h with h | ⟨h1, h2⟩
    · exact .inl ⟨l[k]!, by rw [getElem!_pos l k hk]; exact List.getElem_mem hk, h⟩
    · exact .inr (Ctx.all_no hk h1 h2)
  · rintro (⟨x, hx, h⟩ | h)
    · obtain ⟨k, hk, rfl⟩ := List.getElem_of_mem hx
      refine ⟨k, List.mem_range.2 hk, ?_⟩
      rw [hi k hk, getElem!_pos l k hk, h, Bool.true_or]
    · have hn : ¬ ∀ k, k < l.length → Ctx.needs l[k]! = true → Ctx.met l k = true := fun hh => by rw [(Ctx.all_iff l).2 hh] at h; cases h
      rw [Classical.not_forall] at hn
      obtain ⟨k, hn⟩ := hn
      rw [Classical.not_imp, Classical.not_imp] at hn
      obtain ⟨hk, h1, h2⟩ := hn
      refine ⟨k, List.mem_range.2 hk, ?_⟩
      rw [hi k hk, h1, Bool.eq_false_iff.2 h2]
      simp
end Prec
set_option maxHeartbeats 4000000 in
set_option maxRecDepth 100000 in
theorem isGreat_any (t : Value) (r : Int) (w : World) (hT : Table w t) : Calls Tryz.prog 37 #[t, .int .i32 r] w fun e w' => e = .returned (.bool (Prec.great r)) ∧ Below w.heap.size w w' := by
  have KC := Lib.hid (fun W (h : Below w.heap.size w W) => cat_any t r W (hT.below h))
  have KS := fun W (h : Below w.heap.size w W) => split_any t r W (hT.below h)
  have hch : Prec.great r = (catOf r == 1 && (!((splitOf r).getD default).soft && !((splitOf r).getD default).out)) := by
    unfold Prec.great
    cases splitOf r <;> rfl
  rw [hch]
  clear hch
  obtain ⟨b0, b1, b2, b3, rfl, -, -, -, -⟩ := hT
  generalize catOf r = c at KC ⊢
  unfold TellsSp at KS
  generalize (splitOf r).getD default = y at KS ⊢
  generalize (splitOf r).isSome = is at KS
  obtain ⟨v0, v1, v2, v3, v4⟩ := y
  simp only [encSp] at KS ⊢
  have KS := Lib.hid KS
  by_cases h1 : c = 1
  · subst h1
    rw [beq_self_eq_true, Bool.true_and]
    cases v3 <;> cases v4
    all_goals
      go_enter Tryz.func37, Tryz.ntmps37
      go_wp2_with fail
      refine (KC.out _ (below_one _ _)).mono ?_
      rintro e w2 ⟨rfl, hb2⟩
      have BX := Lib.hid (boxT hb2)
      obtain ⟨hS5, d0, d1, d2, d3⟩ := BX.out.2
      clear hb2
      go_wp2_with fail
      refine (KS.out w2 BX.out.1).mono ?_
      rintro e w3 ⟨rfl, hb3⟩
      have B3 := Lib.hid (below_then BX.out.1 hb3)
      clear hb3 d0 d1 d2 d3 hS5
      go_wp2
      go_ret
      exact ⟨rfl, below_new B3.out (Nat.le_refl _) _⟩
  · have e1 : (c == 1) = false := by rw [beq_eq_false_iff_ne]; exact h1
    rw [e1, Bool.false_and]
    clear h1
    go_enter Tryz.func37, Tryz.ntmps37
    go_wp2_with fail
    refine (KC.out _ (below_one _ _)).mono ?_
    rintro e w2 ⟨rfl, hb2⟩
    have BX := Lib.hid (boxT hb2)
    clear hb2
    go_wp2
    go_ret
    exact ⟨rfl, BX.out.1⟩
set_option maxHeartbeats 4000000 in
set_option maxRecDepth 100000 in
theorem charP_any (t : Value) (r : Int) (w : World) (hT : Table w t) : Calls Tryz.prog 14 #[t, .int .i32 r] w fun e w' => e = .returned (.bool (Prec.charOk r)) ∧ Below w.heap.size w w' := by
  have KG := fun W (h : Below w.heap.size w W) => isGreat_any t r W (hT.below h)
  have KL := fun W (h : Below w.heap.size w W) => charL_any t r W (hT.below h)
  rw [show Prec.charOk r = ((decide (33 ≤ r) && decide (r ≤ 126)) || Prec.great r || Lab.charOk r) from rfl]
  generalize Prec.great r = g at KG ⊢
  generalize Lab.charOk r = k at KL ⊢
  have KG := Lib.hid KG
  have KL := Lib.hid KL
  obtain ⟨b0, b1, b2, b3, rfl, -, -, -, -⟩ := hT
  by_cases hp : 33 ≤ r ∧ r ≤ 126
  · have h1 : decide (33 ≤ r) = true := decide_eq_true hp.1
    have h2 : decide (r ≤ 126) = true := decide_eq_true hp.2
    rw [h1, h2, Bool.true_and, Bool.true_or, Bool.true_or]
    clear hp
    go_enter Tryz.func14, Tryz.ntmps14
    go_wp2
    go_ret
    exact ⟨rfl, below_one _ _⟩
  · have hpf : (decide (33 ≤ r) && decide (r ≤ 126)) = false := by
      rw [Bool.and_eq_false_iff, decide_eq_false_iff_not, decide_eq_false_iff_not]; omega
    rw [hpf, Bool.false_or]
    cases h1 : decide (33 ≤ r)
    case' true =>
      have h2 : decide (r ≤ 126) = false := by rw [h1, Bool.true_and] at hpf; exact hpf
    all_goals
      clear hp hpf
      cases g
      · go_enter Tryz.func14, Tryz.ntmps14
        go_wp2_with fail
        refine (KG.out _ (below_one _ _)).mono ?_
        rintro e w2 ⟨rfl, hb2⟩
        have BX := Lib.hid (boxT hb2)
        obtain ⟨hS5, d0, d1, d2, d3⟩ := BX.out.2
        clear hb2
        go_wp2_with fail
        refine (KL.out w2 BX.out.1).mono ?_
        rintro e w3 ⟨rfl, hb3⟩
        have B3 := Lib.hid (below_then BX.out.1 hb3)
        clear hb3 d0 d1 d2 d3 hS5
        go_wp2
        go_ret
        exact ⟨rfl, B3.out⟩
      · go_enter Tryz.func14, Tryz.ntmps14
        go_wp2_with fail
        refine (KG.out _ (below_one _ _)).mono ?_
        rintro e w2 ⟨rfl, hb2⟩
        have BX := Lib.hid (boxT hb2)
        clear hb2
        go_wp2
        go_ret
        exact ⟨rfl, BX.out.1⟩
set_option maxHeartbeats 2000000 in
set_option maxRecDepth 100000 in
theorem strangeClosure (t : Value) (b0 b1 b2 b3 B : Nat) (ht : t = .agg #[.slice (some ⟨b0, 0, none⟩) 74 74, .slice (some ⟨b1, 0, none⟩) 10 10, .slice (some ⟨b2, 0, none⟩) 11 11, .slice (some ⟨b3, 0, none⟩) 42 42]) (x : Int) (w : World) (hT : Table w t) (hH : Held B b0 b1 b2 b3 w) :
    Calls Tryz.prog 32 #[.int .i32 x, .pointer (some ⟨B, 0, none⟩)] w fun e w' => e = .returned (.bool (Prec.strange x)) ∧ Below w.heap.size w w' := by
  have KC := fun W (h : Below w.heap.size w W) => charP_any t x W (hT.below h)
  have KN := fun W => needs7_prog x W
  unfold Prec.strange
  generalize Prec.charOk x = c at KC ⊢
  generalize Ctx.needs x = n at KN ⊢
  subst ht
  have KC := Lib.hid KC
  have KN := Lib.hid KN
  obtain ⟨hS, d0, d1, d2, d3⟩ := hH
  clear hT
  cases c <;> cases n
  all_goals
    go_enter Tryz.func32, Tryz.ntmps32
    go_wp2_with fail
    refine (KC.out _ (Below.refl _ w)).mono ?_
    rintro e w2 ⟨rfl, hb2⟩
    have B2 := Lib.hid hb2
    clear hb2
    first
      | (go_wp2
         go_ret
         exact ⟨rfl, B2.out⟩)
      | (go_wp2_with fail
         refine (KN.out w2).mono ?_
         rintro e w3 ⟨rfl, hb3⟩
         have B3 := Lib.hid (below_then B2.out hb3)
         clear hb3
         go_wp2
         go_ret
         exact ⟨rfl, B3.out⟩)
set_option maxHeartbeats 4000000 in
set_option maxRecDepth 100000 in
theorem classP_any (t : Value) (s : ByteArray) (w : World) (hT : Table w t) (hs : WideFits s) : Calls Tryz.prog 12 #[t, .string s] w fun e w' => e = .returned (.int .i64 (Prec.classE s.data.toList)) ∧ Below w.heap.size w w' := by
  obtain ⟨⟨m, z⟩, hrd⟩ : ∃ q, rdOf s.data.toList = q := ⟨_, rfl⟩
  obtain ⟨l, hlm⟩ : ∃ l, ints m = l := ⟨_, rfl⟩
  have hln : m.length = l.length := by rw [← hlm]; unfold ints; rw [List.length_map]
  have KR := Lib.hid (fun W => runes_at s W hs.1 hrd)
  have hp : Prec.classE s.data.toList = if z = -1 then Prec.classL l else 7 := by unfold Prec.classE; rw [hrd, ← hlm]
  rw [hp]
  have hT0 := hT
  obtain ⟨b0, b1, b2, b3, rfl, -, -, -, -⟩ := hT0
  have HT := Lib.hid hT
  rcases (rd_cases hrd).2.2 with ⟨rfl, hes⟩ | ⟨k, rfl, -, -⟩
  case inr =>
    have hk0 : (0 : Int) ≤ (k : Int) := by omega
    rw [if_neg (by omega)]
    clear hp hT hs hrd hlm hln
    go_enter Tryz.func12, Tryz.ntmps12
    go_wp2_with fail
    refine (KR.out _).mono ?_
    rintro e w1 ⟨A, c, rfl, -, hb1⟩
    have BX := Lib.hid (boxT hb1)
    clear hb1
    go_wp2
    go_ret
    exact ⟨rfl, BX.out.1⟩
  rw [if_pos rfl]
  have hl420 : l.length ≤ 420 := by have := (hs.2 m hrd).2; omega
  have hnil : s.size = 0 ↔ l = [] := by
    constructor
    · intro h
      have e : s.data.toList = [] := by
        have : s.data.toList.length = 0 := by simpa using h
        exact List.eq_nil_of_length_eq_zero this
      rw [e, show rdOf ([] : List UInt8) = ([], -1) by decide +kernel] at hrd
      rw [← hlm, ← (Prod.mk.inj hrd).1]
      rfl
    · rintro rfl
      have h2 := (Lab.rd_is (s := s.data.toList) (by rw [hrd])).2
      rw [hrd] at h2
      replace h2 : s.data.toList = encZ (ints m) := h2
      rw [hlm] at h2
      have : s.data.toList.length = 0 := by rw [h2]; rfl
      simpa using this
  have HLM := Lib.hid hlm
  have HLN := Lib.hid hln
  have KT := Lib.hid (fun (v : Value) (B : Nat) (W : World) (hb : Below w.heap.size w W) (hl : Runes v l W) (hH : Held B b0 b1 b2 b3 W) =>
    rcontains_any 32 #[.pointer (some ⟨B, 0, none⟩)] v l Prec.strange W hl (by omega) (enters_of Tryz.func32 (by kernel_rfl) rfl)
      (fun V x h => strangeClosure _ b0 b1 b2 b3 B rfl x V ((HT.out.below hb).below h) (hH.below h)))
  have KA := Lib.hid (fun (v : Value) (W : World) (hb : Below w.heap.size w W) (hl : Runes v l W) => all7_prog _ v l W (HT.out.below hb) hl (by omega))
  have hbad := Prec.bad_is l
  have HB := Lib.hid hbad
  have hcl : Prec.classL l = if l = [] then 13 else if Prec.badAt l then 8 else 0 := rfl
  rw [hbad] at hcl
  obtain ⟨X, hX⟩ : ∃ X, X = Prec.classL l := ⟨_, rfl⟩
  rw [← hX] at hcl ⊢
  generalize l.any Prec.strange = st at KT hcl
  generalize Ctx.all l = al at KA hcl
  have HCL := Lib.hid hcl
  clear hp hT hs hrd hlm hln hX hcl hbad HB
  by_cases h0 : s.size = 0
  · have R := Lib.hid (show X = 13 by rw [HCL.out, if_pos (hnil.1 h0)])
    obtain rfl : s = ⟨#[]⟩ := ByteArray.ext (Array.eq_empty_of_size_eq_zero h0)
    clear hnil h0 hes
    go_enter Tryz.func12, Tryz.ntmps12
    go_wp2_with fail
    refine (KR.out _).mono ?_
    rintro e w1 ⟨A, c, rfl, -, hb1⟩
    have BX := Lib.hid (boxT hb1)
    clear hb1
    go_wp2
    go_ret
    exact ⟨by rw [R.out]; rfl, BX.out.1⟩
  have hst : (s.toList == []) = false := by
    rw [beq_eq_false_iff_ne, ByteArray.toList_eq]
    intro h
    exact h0 (by simpa using congrArg List.length h)
  have hsi : s.toList.isEmpty = false := by
    rw [ByteArray.toList_eq, List.isEmpty_eq_false_iff]
    intro h
    exact h0 (by simpa using congrArg List.length h)
  have R := Lib.hid (show X = if (st || !al) = true then 8 else 0 by rw [HCL.out, if_neg (fun h => h0 (hnil.2 h))])
  clear hnil h0 HCL hes
  cases st <;> cases al
  all_goals
    go_enter Tryz.func12, Tryz.ntmps12
    go_wp2_with fail
    refine (KR.out _).mono ?_
    rintro e w1 ⟨A, c, rfl, hl, hb1⟩
    rw [HLM.out] at hl
    rw [HLN.out]
    rw [HLN.out] at hl
    have BX := Lib.hid (boxT hb1)
    have HL := Lib.hid hl
    obtain ⟨hS5, d0, d1, d2, d3⟩ := BX.out.2
    clear hb1 hl
    go_wp2_with fail
    refine (KT.out _ w.heap.size w1 BX.out.1 HL.out BX.out.2).mono ?_
    rintro e w2 ⟨rfl, hb2⟩
    have B2 := Lib.hid (below_then BX.out.1 hb2)
    have L2 := Lib.hid (HL.out.keep hb2)
    obtain ⟨hS6, f0, f1, f2, f3⟩ := BX.out.2.below hb2
    clear hb2 d0 d1 d2 d3 hS5
    first
      | (go_wp2
         go_ret
         exact ⟨by rw [R.out]; rfl, B2.out⟩)
      | (go_wp2_with fail
         refine (KA.out _ w2 B2.out L2.out).mono ?_
         rintro e w3 ⟨rfl, hb3⟩
         have B3 := Lib.hid (below_then B2.out hb3)
         clear hb3
         go_wp2
         go_ret
         exact ⟨by rw [R.out]; rfl, B3.out⟩)
set_option maxHeartbeats 4000000 in
set_option maxRecDepth 100000 in
theorem nameP_any (t : Value) (s : ByteArray) (w : World) (hT : Table w t) (hs : LabFits s) : Calls Tryz.prog 10 #[t, .string s] w fun e w' => e = .returned (.tuple #[.string ⟨(Prec.nameE s.data.toList).2.toArray⟩, .int .i64 (Prec.nameE s.data.toList).1]) ∧ Below w.heap.size w w' := by
  have KF := fun W (h : Below w.heap.size w W) => hs.fold t W (hT.below h)
  obtain ⟨P, hP⟩ : ∃ P, P = Prec.nameE s.data.toList := ⟨_, rfl⟩
  rw [← hP]
  unfold Prec.nameE at hP
  have hT0 := hT
  by_cases hz : (rdOf s.data.toList).2 = -1
  case neg =>
    rw [if_neg hz] at KF hP
    rw [decide_eq_false hz] at KF
    have KF := Lib.hid KF
    have R := Lib.hid hP
    obtain ⟨b0, b1, b2, b3, rfl, -, -, -, -⟩ := hT0
    clear hP hz hs hT
    go_enter Tryz.func10, Tryz.ntmps10
    go_wp2_with fail
    refine (KF.out _ (below_one _ _)).mono ?_
    rintro e w2 ⟨rfl, hb2⟩
    have BX := Lib.hid (boxT hb2)
    clear hb2
    go_wp2
    go_ret2
    exact ⟨by rw [R.out]; rfl, BX.out.1⟩
  rw [if_pos hz] at KF hP
  rw [decide_eq_true hz] at KF
  obtain ⟨hr0, -⟩ := Lab.rd_is hz
  have hlen : (Fold.fold (ints (rdOf s.data.toList).1)).length ≤ 420 := (hs.2 (rdOf s.data.toList).1 (by rw [← hz])).2
  have hr := fold_right hr0
  obtain ⟨L, hL⟩ : ∃ L, Fold.fold (ints (rdOf s.data.toList).1) = L := ⟨_, rfl⟩
  rw [hL] at KF hP hlen hr
  have hwide := wide_enc' hr hlen
  have hcl := Prec.classE_enc hr
  have hrx := rd_enc hr
  obtain ⟨i1, i2, -⟩ := ints_back hr
  have hel := encZ_len L
  unfold Prec.nameL at hP
  obtain ⟨X, hX⟩ : ∃ X, encZ L = X := ⟨_, rfl⟩
  rw [hX] at KF hP hwide hcl hrx hel
  have KC := fun W (h : Below w.heap.size w W) => classP_any t ⟨X.toArray⟩ W (hT.below h) hwide
  change ∀ W, Below w.heap.size w W → Calls _ _ _ W fun e w' => e = .returned (.int .i64 (Prec.classE X)) ∧ Below W.heap.size W w' at KC
  rw [hcl] at KC
  have KR0 : ∀ W, Calls Tryz.prog 25 #[.string ⟨X.toArray⟩] W fun e w' => ∃ A c, e = .returned (.tuple #[.slice A L.length c, .int .i64 (-1)]) ∧ Runes (.slice A L.length c) L w' ∧ Below W.heap.size W w' :=
    fun W => (runes_at ⟨X.toArray⟩ W hwide.1 hrx).mono fun e w' ⟨A, c, he, hr, hb⟩ => ⟨A, c, by rw [he, List.length_map], by rw [List.length_map, i1] at hr; exact hr, hb⟩
  have KR := Lib.hid KR0
  clear KR0
  have KH := fun v W (h : Below w.heap.size w W) (hl : Runes v L W) => bidiHas_any t v L W (hT.below h) hl (by omega)
  have KU := fun v W (h : Below w.heap.size w W) (hl : Runes v L W) => bidiRule_any t v L W (hT.below h) hl (by omega)
  generalize Prec.classL L = cl at KC hP
  generalize Bidi.has L = hh at KH hP
  generalize Bidi.rule L = ru at KU hP
  have HP := Lib.hid hP
  have KF := Lib.hid KF
  have KC := Lib.hid KC
  have KH := Lib.hid KH
  have KU := Lib.hid KU
  obtain ⟨b0, b1, b2, b3, rfl, -, -, -, -⟩ := hT0
  clear hP hz hs hT hr0 hlen hr hL hwide hcl hrx i1 i2 hel hX
  by_cases h0 : cl = 0
  case neg =>
    have R := Lib.hid (show P = (cl, []) by rw [HP.out, if_pos h0])
    have hx0 : (cl == 0) = false := by rw [beq_eq_false_iff_ne]; exact h0
    clear h0 HP
    go_enter Tryz.func10, Tryz.ntmps10
    go_wp2_with fail
    refine (KF.out _ (below_one _ _)).mono ?_
    rintro e w2 ⟨rfl, hb2⟩
    have BX := Lib.hid (boxT hb2)
    obtain ⟨hS5, d0, d1, d2, d3⟩ := BX.out.2
    clear hb2
    go_wp2_with fail
    refine (KC.out w2 BX.out.1).mono ?_
    rintro e w3 ⟨rfl, hb3⟩
    have B3 := Lib.hid (below_then BX.out.1 hb3)
    clear hb3 d0 d1 d2 d3 hS5
    go_wp2
    go_ret2
    exact ⟨by rw [R.out]; rfl, B3.out⟩
  subst h0
  have R := Lib.hid (show P = if (hh && !ru) = true then (9, []) else (0, X) by rw [HP.out, if_neg (by decide)])
  clear HP
  cases hh <;> cases ru
  all_goals
    go_enter Tryz.func10, Tryz.ntmps10
    go_wp2_with fail
    refine (KF.out _ (below_one _ _)).mono ?_
    rintro e w2 ⟨rfl, hb2⟩
    have BX := Lib.hid (boxT hb2)
    have HD := Lib.hid BX.out.2
    obtain ⟨hS5, d0, d1, d2, d3⟩ := BX.out.2
    clear hb2
    go_wp2_with fail
    refine (KC.out w2 BX.out.1).mono ?_
    rintro e w3 ⟨rfl, hb3⟩
    have B3 := Lib.hid (below_then BX.out.1 hb3)
    have D3 := Lib.hid (HD.out.below hb3)
    clear hb3 d0 d1 d2 d3 hS5
    go_wp2_with fail
    refine (KR.out w3).mono ?_
    rintro e w4 ⟨A, c, rfl, hl, hb4⟩
    have B4 := Lib.hid (below_then B3.out hb4)
    have D4 := Lib.hid (D3.out.below hb4)
    have L4 := Lib.hid hl
    obtain ⟨hS6, f0, f1, f2, f3⟩ := D4.out
    clear hb4 hl
    go_wp2_with fail
    refine (KH.out _ w4 B4.out L4.out).mono ?_
    rintro e w5 ⟨rfl, hb5⟩
    have B5 := Lib.hid (below_then B4.out hb5)
    have L5 := Lib.hid (L4.out.keep hb5)
    obtain ⟨hS7, g0, g1, g2, g3⟩ := D4.out.below hb5
    clear hb5 f0 f1 f2 f3 hS6
    first
      | (go_wp2
         go_ret2
         exact ⟨by rw [R.out]; rfl, B5.out⟩)
      | (go_wp2_with fail
         refine (KU.out _ w5 B5.out L5.out).mono ?_
         rintro e w6 ⟨rfl, hb6⟩
         have B6 := Lib.hid (below_then B5.out hb6)
         clear hb6
         go_wp2
         go_ret2
         exact ⟨by rw [R.out]; rfl, B6.out⟩)
set_option maxHeartbeats 4000000 in
set_option maxRecDepth 100000 in
theorem alikeP_any (t : Value) (a b : ByteArray) (w : World) (hT : Table w t) (ha : LabFits a) (hb : LabFits b) : Calls Tryz.prog 16 #[t, .string a, .string b] w fun e w' => e = .returned (.bool (Prec.alike a.data.toList b.data.toList)) ∧ Below w.heap.size w w' := by
  have KA := fun W (h : Below w.heap.size w W) => nameP_any t a W (hT.below h) ha
  have KB := fun W (h : Below w.heap.size w W) => nameP_any t b W (hT.below h) hb
  unfold Prec.alike
  generalize Prec.nameE a.data.toList = P at KA ⊢
  generalize Prec.nameE b.data.toList = Q at KB ⊢
  obtain ⟨e1, n1⟩ := P
  obtain ⟨e2, n2⟩ := Q
  have KA := Lib.hid KA
  have KB := Lib.hid KB
  obtain ⟨r, hr⟩ : ∃ r, r = ((e1 == 0) && (e2 == 0) && (n1 == n2)) := ⟨_, rfl⟩
  show Calls _ _ _ _ fun e w' => e = .returned (.bool ((e1 == 0) && (e2 == 0) && (n1 == n2))) ∧ _
  rw [← hr]
  have HR := Lib.hid hr
  obtain ⟨b0, b1, b2, b3, rfl, -, -, -, -⟩ := hT
  clear ha hb hr
  by_cases h1 : e1 = 0
  case neg =>
    have hx1 : (e1 == 0) = false := by rw [beq_eq_false_iff_ne]; exact h1
    have R := Lib.hid (show r = false by rw [HR.out, hx1]; rfl)
    clear h1 HR
    go_enter Tryz.func16, Tryz.ntmps16
    go_wp2_with fail
    refine (KA.out _ (below_one _ _)).mono ?_
    rintro e w2 ⟨rfl, hb2⟩
    have BX := Lib.hid (boxT hb2)
    clear hb2
    go_wp2
    go_ret
    exact ⟨by rw [R.out]; rfl, BX.out.1⟩
  subst h1
  by_cases h2 : e2 = 0
  case neg =>
    have hx2 : (e2 == 0) = false := by rw [beq_eq_false_iff_ne]; exact h2
    have R := Lib.hid (show r = false by rw [HR.out, hx2]; rfl)
    clear h2 HR
    go_enter Tryz.func16, Tryz.ntmps16
    go_wp2_with fail
    refine (KA.out _ (below_one _ _)).mono ?_
    rintro e w2 ⟨rfl, hb2⟩
    have BX := Lib.hid (boxT hb2)
    obtain ⟨hS5, d0, d1, d2, d3⟩ := BX.out.2
    clear hb2
    go_wp2_with fail
    refine (KB.out w2 BX.out.1).mono ?_
    rintro e w3 ⟨rfl, hb3⟩
    have B3 := Lib.hid (below_then BX.out.1 hb3)
    clear hb3 d0 d1 d2 d3 hS5
    go_wp2
    go_ret
    exact ⟨by rw [R.out]; rfl, B3.out⟩
  subst h2
  have hq : ((⟨n1.toArray⟩ : ByteArray).toList == (⟨n2.toArray⟩ : ByteArray).toList) = (n1 == n2) := by rw [ByteArray.toList_eq, ByteArray.toList_eq]
  have R := Lib.hid (show r = (n1 == n2) by rw [HR.out]; rfl)
  clear HR
  cases hn : (n1 == n2)
  all_goals
    rw [hn] at hq R
    go_enter Tryz.func16, Tryz.ntmps16
    go_wp2_with fail
    refine (KA.out _ (below_one _ _)).mono ?_
    rintro e w2 ⟨rfl, hb2⟩
    have BX := Lib.hid (boxT hb2)
    obtain ⟨hS5, d0, d1, d2, d3⟩ := BX.out.2
    clear hb2
    go_wp2_with fail
    refine (KB.out w2 BX.out.1).mono ?_
    rintro e w3 ⟨rfl, hb3⟩
    have B3 := Lib.hid (below_then BX.out.1 hb3)
    clear hb3 d0 d1 d2 d3 hS5
    go_wp2
    go_ret
    exact ⟨by rw [R.out]; rfl, B3.out⟩
theorem precOk : PrecOk := ⟨charP_any, classP_any, nameP_any, alikeP_any⟩
end Go.Proofs.YtmbammhkkcnoaaaGreat
