/-
  Proved here: the document's own 'Form' of layer 3: a string's normal forms, by characters; all that a form has are characters. Conditions: the string has at most 100,000 bytes, and 200 characters.
-/
import Derived.Test.YtpmcmbkilcpleaaNormRefOrder
import Derived.Test.YtpmcmbkilcpleaaNormRefJoin
import Derived.Test.YtpmcmbkilcpleaaUtfLawC
import Derived.Test.YtpmcmbkilcpleaaUtfLawE
namespace Go.Proofs.Ytpmcmbkilcpleaa
open Go.RowKit Utf
theorem rows_right : ∀ y ∈ splits, (rightZ y.rune && (Norm.pieces false y.rune).all rightZ && (Norm.pieces true y.rune).all rightZ) = true := by decide +kernel
theorem wide_right : ∀ i ∈ List.range 94, (rightZ (65281 + i) && (Norm.pieces false (65281 + i)).all rightZ && (Norm.pieces true (65281 + i)).all rightZ) = true := by decide +kernel
theorem split_right (soft : Bool) {x : Int} {y : Sp} (h : splitOf x = some y) : rightZ x = true ∧ ∀ c ∈ Norm.pieces soft x, rightZ c = true := by
  have key : (rightZ x && (Norm.pieces false x).all rightZ && (Norm.pieces true x).all rightZ) = true := by
    rcases split_cases h with ⟨hy, rfl⟩ | ⟨hw, rfl⟩
    · exact rows_right y hy
    · simp only [wideOf, Bool.and_eq_true, decide_eq_true_eq] at hw
      have := wide_right (x - 65281).toNat (by rw [List.mem_range]; omega)
      rwa [show (65281 : Int) + ((x - 65281).toNat : Int) = x by omega] at this
  simp only [Bool.and_eq_true] at key
  refine ⟨key.1.1, ?_⟩
  cases soft
  · exact List.all_eq_true.1 key.1.2
  · exact List.all_eq_true.1 key.2
theorem pieces_right (soft : Bool) {r : Int} (h : rightZ r = true) : ∀ c ∈ Norm.pieces soft r, rightZ c = true := by
  cases hs : Norm.syl r with
  | true =>
    rw [Norm.pieces_eq, hs]
    intro c hc
    have := (Norm.jamo_iff c).1 (Norm.syl_jamo hs c hc)
    exact (rightZ_iff c).2 (by omega)
  | false =>
    cases hp : splitOf r with
    | none =>
      intro c hc
      rw [Norm.pieces_eq, hs, hp] at hc
      simp only [Bool.false_eq_true, if_false, List.mem_singleton] at hc
      rw [hc]; exact h
    | some y => exact (split_right soft hp).2
theorem down_right (soft : Bool) {l : List Int} (h : rightsZ l = true) : rightsZ (Norm.down soft l) = true := by
  unfold rightsZ at h ⊢
  rw [List.all_eq_true] at h ⊢
  intro c hc
  obtain ⟨r, hr, hcr⟩ := Norm.down_mem soft l c hc
  exact pieces_right soft (h r hr) c hcr
theorem make2_right {a b x : Int} (h : Norm.make2 a b = some x) : rightZ x = true := by
  unfold Norm.make2 at h
  split at h
  · obtain rfl := Option.some.inj h
    exact (rightZ_iff _).2 (by omega)
  · split at h
    · rename_i h2
      obtain rfl := Option.some.inj h
      have := (Norm.syl_iff a).1 h2.1
      exact (rightZ_iff _).2 (by omega)
    · obtain ⟨y, hy, -⟩ := pair_split h
      exact (split_right false hy).1
theorem step_right {R : List Int} {c : Int} (hR : ∀ y ∈ R, rightZ y = true) (hc : rightZ c = true) : ∀ y ∈ Norm.step R c, rightZ y = true := by
  have plain : ∀ y ∈ c :: R, rightZ y = true := fun y hy => by
    rcases List.mem_cons.1 hy with rfl | hy
    · exact hc
    · exact hR y hy
  unfold Norm.step
  split
  · exact plain
  · rename_i s A hA
    split
    · split
      · rename_i x hx
        intro y hy
        rw [List.mem_append, List.mem_cons] at hy
        rcases hy with hy | rfl | hy
        · exact hR y ((List.takeWhile_sublist _).subset hy)
        · exact make2_right hx
        · exact hR y ((List.dropWhile_sublist (fun y => decide (0 < clsOf y))).subset (by rw [hA]; simp [hy]))
      · exact plain
    · exact plain
theorem join_right {l : List Int} (h : rightsZ l = true) : rightsZ (Norm.join l) = true := by
  have key : ∀ (l R : List Int), (∀ y ∈ l, rightZ y = true) → (∀ y ∈ R, rightZ y = true) → ∀ y ∈ l.foldl Norm.step R, rightZ y = true := by
    intro l
    induction l with
    | nil => exact fun R _ hR => hR
    | cons c l ih => exact fun R hl hR => ih (Norm.step R c) (fun y hy => hl y (by simp [hy])) (step_right hR (hl c (by simp)))
  unfold rightsZ at h ⊢
  rw [List.all_eq_true] at h ⊢
  intro c hc
  unfold Norm.join at hc
  rw [List.mem_reverse] at hc
  exact key l [] h (fun y hy => by cases hy) c hc
/-- The characters of a form. -/
def formOf (soft join : Bool) (l : List Int) : List Int := if join then Norm.join (Norm.down soft l) else Norm.down soft l
theorem form_right (soft join : Bool) {l : List Int} (h : rightsZ l = true) : rightsZ (formOf soft join l) = true := by
  unfold formOf
  split
  · exact join_right (down_right soft h)
  · exact down_right soft h
theorem sim_len {x y : List Int} (h : Norm.Sim x y) : x.length = y.length := by
  induction h with
  | refl l => rfl
  | swap p a b q _ _ _ => simp
  | trans _ _ ih1 ih2 => exact ih1.trans ih2
theorem down_len (soft : Bool) (l : List Int) : (Norm.down soft l).length ≤ 48 * l.length := by
  have := sim_len (Norm.sim_order (Norm.split soft l))
  have := split_len soft l
  show (Norm.order (Norm.split soft l)).length ≤ _
  omega
theorem join_len' (l : List Int) : (Norm.join l).length ≤ l.length := by
  have := Norm.join_len l l.length (Nat.le_refl _)
  rwa [List.take_length] at this
theorem strB_right {l : List Int} (h : rightsZ l = true) : strB l = encZ l := by unfold strB; rw [h, if_pos rfl]
set_option maxHeartbeats 2000000 in
set_option maxRecDepth 100000 in
theorem form3_yes (s : ByteArray) (soft join : Bool) (w : World) (hs : s.size ≤ 100000) {m : List Nat} (hm : m.length ≤ 200) (hrd : rdOf s.data.toList = (m, -1)) :
    Calls Try.prog 23 #[.string s, .bool soft, .bool join] w (StrAt (encZ (formOf soft join (ints m))) true w) := by
  obtain ⟨hm1, -, -⟩ := rd_cases hrd
  obtain ⟨hm3, -⟩ := ints_right m hm1
  have hml : (ints m).length ≤ 200 := by simp only [ints, List.length_map]; omega
  have h1 := fun W => refRunes_at s W (by omega) hrd
  have h2 := fun v W (h : Runes v (ints m) W) => split3_any v (ints m) soft W h (by omega)
  have hsl := split_len soft (ints m)
  have h3 := fun v W (h : Runes v (Norm.split soft (ints m)) W) => order3_any v _ W h (by omega)
  have hdl := down_len soft (ints m)
  have h4 := fun v W (h : Runes v (Norm.down soft (ints m)) W) => join3_any v _ W h (by omega)
  have hfr := form_right soft join hm3
  have hfl : (formOf soft join (ints m)).length ≤ 9600 := by
    unfold formOf
    split
    · have := join_len' (Norm.down soft (ints m)); omega
    · omega
  have h5 := fun v W (h : Runes v (formOf soft join (ints m)) W) => refString_at v _ W h (by omega) hfr (strB_right hfr)
  have H1 := Lib.hid h1
  have H2 := Lib.hid h2
  have H3 := Lib.hid h3
  have H4 := Lib.hid h4
  have H5 := Lib.hid h5
  clear h1 h2 h3 h4 h5 hm1 hm3 hml hsl hdl hfr hfl hrd hm
  cases join
  all_goals
    go_enter Try.func23, Try.ntmps23
    go_wp2_with fail
    refine (H1.out _).mono ?_
    rintro e w1 ⟨A1, c1, rfl, hr1, hb1⟩
    have R1 := Lib.hid hr1
    have B1 := Lib.hid hb1
    clear hr1 hb1
    go_wp2_with fail
    refine (H2.out _ _ R1.out).mono ?_
    rintro e w2 ⟨v2, rfl, ho2, hb2⟩
    have R2 := Lib.hid ho2.runes
    have B2 := Lib.hid (below_then B1.out hb2)
    clear ho2 hb2 R1 B1
    go_wp2_with fail
    refine (H3.out _ _ R2.out).mono ?_
    rintro e w3 ⟨v3, rfl, ho3, hb3⟩
    have R3 := Lib.hid ho3.runes
    have B3 := Lib.hid (below_then B2.out hb3)
    clear ho3 hb3 R2 B2
    go_wp2_with fail
  · refine (H5.out _ _ R3.out).mono ?_
    rintro e w4 ⟨rfl, hb4⟩
    have B4 := Lib.hid (below_then B3.out hb4)
    clear hb4 B3
    go_wp2
    go_ret2
    exact ⟨rfl, B4.out⟩
  · refine (H4.out _ _ R3.out).mono ?_
    rintro e w4 ⟨v4, rfl, ho4, hb4⟩
    have R4 := Lib.hid ho4.runes
    have B4 := Lib.hid (below_then B3.out hb4)
    clear ho4 hb4 R3 B3
    go_wp2_with fail
    refine (H5.out _ _ R4.out).mono ?_
    rintro e w5 ⟨rfl, hb5⟩
    have B5 := Lib.hid (below_then B4.out hb5)
    clear hb5 B4
    go_wp2
    go_ret2
    exact ⟨rfl, B5.out⟩
set_option maxHeartbeats 2000000 in
set_option maxRecDepth 100000 in
theorem form3_no (s : ByteArray) (soft join : Bool) (w : World) (hs : s.size ≤ 100000) {m : List Nat} {k : Nat} (hrd : rdOf s.data.toList = (m, (k : Int))) :
    Calls Try.prog 23 #[.string s, .bool soft, .bool join] w (StrAt [] false w) := by
  have h1 := fun W => refRunes_at s W (by omega) hrd
  have H1 := Lib.hid h1
  have hk0 : (0 : Int) ≤ (k : Int) := by omega
  clear h1 hrd
  go_enter Try.func23, Try.ntmps23
  go_wp2_with fail
  refine (H1.out _).mono ?_
  rintro e w1 ⟨A1, c1, rfl, -, hb1⟩
  have B1 := Lib.hid hb1
  clear hb1
  go_wp2
  go_ret2
  exact ⟨rfl, B1.out⟩
end Go.Proofs.Ytpmcmbkilcpleaa
