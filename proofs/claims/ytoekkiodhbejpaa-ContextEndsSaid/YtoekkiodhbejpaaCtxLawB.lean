/-
  Proved here: the law ContextEnds, given what the program's Need, All and Needs tell. Conditions: the slice can be read.
-/
import Derived.Test.YtoekkiodhbejpaaCtxSmall
import Derived.BigRegion
import Derived.BigQuiet
import Derived.Deep.RegionWith
import Derived.Deep.DeepCutAuto
import Derived.StillTailTactics
namespace Go.Proofs.Ytoekkiodhbejpaa
open Go.RowKit
theorem match_undef7 {α : Type} (h1 : Bool → α) (h2 : Option Value → α) : Go.yielded.match_1 (fun _ => α) (some undef) h1 h2 = h2 (some undef) := rfl
attribute [local go_sem] match_undef7
section
variable {P : Program} {ops : Array Oper} {Q : Exit → Act → World → Prop} {md : Region.Mode} {S : World → Prop}
/-- The library's law, with the operation's slot named. -/
theorem take7 (i : Nat) (d : Tmp) {oi : Oper} {v : Value} {fuel : Nat} {listed : Array Bool} {a : Act} {w : World} (hi : ops[i]? = some oi) (hd : oi.dst = some d)
    (hs : Region.noSelect ops = true) (hf : Region.free md ops listed i = true) (hr : (Region.ready md ops listed).contains i = true)
    (hQ : ∀ c a w, Q (.panic c) (a.put oi.dst v) w → Q (.panic c) a w) (hy : YieldsIf P ops S oi v a) (hS : S w)
    (h : wpAnyH P md ops Q S fuel (listed.setIfInBounds i true) (a.put (some d) v) w) : wpAnyH P md ops Q S (fuel + 1) listed a w :=
  wpAnyH_take hi hs hf hr hQ hy hS (by rw [hd]; exact h)
end
namespace Ctx
def anyNeeds (l : List Int) : Bool := l.any needs
theorem anyNeeds_next (l : List Int) (k : Nat) (h : k < l.length) : anyNeeds (l.take (k + 1)) = (anyNeeds (l.take k) || needs l[k]!) := by
  unfold anyNeeds
  rw [List.take_succ_eq_append_getElem h, List.any_append, getElem!_pos l k h]
  simp
theorem anyNeeds_none {l : List Int} (h : anyNeeds l = false) : all l = true := all_none fun k hk => by
  unfold anyNeeds at h
  rw [List.any_eq_false] at h
  rw [getElem!_pos l k hk]
  exact eq_false_of_ne_true (h _ (List.getElem_mem hk))
theorem need_parts {l : List Int} {k : Nat} (h : k < l.length) : (needs l[k]! = false ∧ need l k = 0) ∨ (needs l[k]! = true ∧ (need l k = 1 ∨ need l k = 2)) := by
  rw [need_in h]
  cases hn : needs l[k]! with
  | false => exact .inl ⟨rfl, rfl⟩
  | true =>
    refine .inr ⟨rfl, ?_⟩
    rw [if_pos rfl]
    cases met l k with
    | false => exact .inr rfl
    | true => exact .inl rfl
def joiner (x : Int) : Bool := x == 8204 || x == 8205 || x == 183
def tail (y : Int) (b : Bool) : Bool := y == 183 || y == 885 || ((y == 8204 || y == 8205) && b)
theorem joiner_no {l : List Int} (hl : 0 < l.length) (h : joiner l[0]! = true) : all l = false := first_no hl (by unfold joiner at h; simpa [or_assoc] using h)
theorem tail_no {l : List Int} {k : Nat} {b : Bool} (hk : k + 1 = l.length) (hb : b = true → k = 0 ∨ clsOf l[k - 1]! ≠ 9) (h : tail l[k]! b = true) : all l = false := by
  refine last_no hk ?_
  unfold tail at h
  simp only [Bool.or_eq_true, Bool.and_eq_true, beq_iff_eq] at h
  rcases h with (h | h) | ⟨h, h2⟩
  · exact .inl h
  · exact .inr (.inl h)
  · exact .inr (.inr ⟨h, hb h2⟩)
end Ctx
set_option maxHeartbeats 8000000 in
set_option maxRecDepth 100000 in
theorem ends7_walk (B : CtxOk) (S7 : Small7) (v : Value) (l : List Int) (w : World) (hl : Runes v l w) : Calls Try.prog 4 #[v] w fun e w' => e = .returned (.bool true) ∧ Below w.heap.size w w' := by
  have HL := Lib.hid hl
  obtain ⟨A, c, rfl, -, hcell⟩ := hl.form
  have HC := Lib.hid hcell
  clear hl hcell
  by_cases h0 : l.length = 0
  · have hz : ((l.length : Int) == 0) = true := by rw [h0]; rfl
    clear h0
    go_enter Try.func4, Try.ntmps4
    go_wp2_with fail
    refine (S7 _).mono ?_
    rintro e w0 ⟨rfl, hb0⟩
    have B0 := Lib.hid hb0
    clear hb0
    go_wp2
    go_ret
    exact ⟨rfl, B0.out⟩
  have hz : ((l.length : Int) == 0) = false := by rw [beq_eq_false_iff_ne]; omega
  have hl0 : 0 < l.length := by omega
  have hl0z : (0 : Int) < (l.length : Int) := by omega
  by_cases hn : l.length ≤ 200
  · have hnz : ¬ (200 : Int) < (l.length : Int) := by omega
    obtain ⟨al, hal⟩ : ∃ al, Ctx.all l = al := ⟨_, rfl⟩
    have HAL := Lib.hid hal
    clear hal h0
    go_enter Try.func4, Try.ntmps4
    go_wp2_with fail
    refine (S7 _).mono ?_
    rintro e w0 ⟨rfl, hb0⟩
    have B0 := Lib.hid hb0
    clear hb0
    go_wp2_with fail
    refine (new_any _).mono ?_
    rintro e w1 ⟨tt, rfl, hT, hb1⟩
    have hT' := hT
    obtain ⟨b0, b1, b2, b3, rfl, -, -, -, -⟩ := hT'
    have K1 := Lib.hid (kept_new (b0 := b0) (b1 := b1) (b2 := b2) (b3 := b3) (below_then B0.out hb1) hT 29)
    clear hT hb1 B0
    go_wp2
    go_loopg [5, 6, 7] (l.length + 1) (fun gk s5 s6 _ wr => ∃ (k : Nat) (nd : Bool), s5 = .bool nd ∧ k ≤ l.length ∧ s6 = .int .i64 k ∧ l.length - k < gk ∧ Hid (Ctx.anyNeeds (l.take k) = nd ∧ Kept w w1.heap.size b0 b1 b2 b3 wr))
    case atStart => exact ⟨0, false, rfl, Nat.zero_le _, rfl, by omega, ⟨rfl, K1.out⟩⟩
    case round =>
      obtain ⟨k, nd, rfl, hk, rfl, hg, I⟩ := hrel
      obtain ⟨hS, c0, c1, c2, c3⟩ := I.out.2.held
      by_cases hlt : k < l.length
      · have hkz : (k : Int) < (l.length : Int) := by omega
        obtain ⟨ad, rfl, hb, hx⟩ := HC.out k hlt
        have hbz : ad.block < wr.heap.size := Nat.lt_of_lt_of_le hb I.out.2.below.size
        have hx' := (I.out.2.below.cell (by rw [add_block]; exact hb)).trans hx
        have hp := Ctx.need_parts hlt
        have hnx := Ctx.anyNeeds_next l k hlt
        rw [I.out.1] at hnx
        obtain ⟨x, hxe⟩ : ∃ x, l[k]! = x := ⟨_, rfl⟩
        rw [hxe] at hx' hp hnx
        obtain ⟨n, hne⟩ : ∃ n, Ctx.needs x = n := ⟨_, rfl⟩
        obtain ⟨y, hye⟩ : ∃ y, Ctx.need l (k : Int) = y := ⟨_, rfl⟩
        rw [hne] at hp hnx
        rw [hye] at hp
        have HNE := Lib.hid hne
        have HYE := Lib.hid hye
        have HNX := Lib.hid hnx
        clear hx hb hxe hne hye hnx
        have hq : (n = false ∧ y = 0 ∧ (y == 0) = true ∧ (y != 0) = false) ∨ (n = true ∧ (y == 0) = false ∧ (y != 0) = true) := by
          rcases hp with ⟨h, rfl⟩ | ⟨h, rfl | rfl⟩
          · exact .inl ⟨h, rfl, rfl, rfl⟩
          · exact .inr ⟨h, rfl, rfl⟩
          · exact .inr ⟨h, rfl, rfl⟩
        clear hp
        go_wp2_with fail
        refine (B.need_at (.agg #[.slice (some ⟨b0, 0, none⟩) 74 74, .slice (some ⟨b1, 0, none⟩) 10 10, .slice (some ⟨b2, 0, none⟩) 11 11, .slice (some ⟨b3, 0, none⟩) 42 42]) _ l (k : Int) _ I.out.2.table (HL.out.keep I.out.2.below) (by omega) HYE.out).mono ?_
        rintro e w2 ⟨rfl, hb2⟩
        have K2 := Lib.hid (I.out.2.next hb2)
        have hx2 := (hb2.cell (by rw [add_block]; exact hbz)).trans hx'
        clear hb2 hS c0 c1 c2 c3 I hx' hbz
        rcases hq with ⟨rfl, rfl, -, -⟩ | ⟨rfl, h1, h2⟩
        all_goals
          go_wp2_with fail
          refine (B.needs_at x _ HNE.out).mono ?_
          rintro e w3 ⟨rfl, hb3⟩
          have K3 := Lib.hid (K2.out.next hb3)
          clear hb3 hx2
          cases nd
          all_goals
            go_wp2
            go_roundg (l.length - k)
            case measure => omega
            case rel => exact ⟨k + 1, _, rfl, by omega, by go_num, by omega, ⟨HNX.out, K3.out⟩⟩
      · obtain rfl : k = l.length := by omega
        have hnd := I.out.1
        rw [List.take_length] at hnd
        have K2 := Lib.hid I.out.2
        have HND := Lib.hid hnd
        clear hnd I
        go_upto_region 13 with (fail)
        go_cut [52] (fun s52 wx => s52 = .bool false ∧ Hid (Kept w w1.heap.size b0 b1 b2 b3 wx))
        case first =>
          cases nd
          · go_wp2_with fail
            refine (B.all_at (.agg #[.slice (some ⟨b0, 0, none⟩) 74 74, .slice (some ⟨b1, 0, none⟩) 10 10, .slice (some ⟨b2, 0, none⟩) 11 11, .slice (some ⟨b3, 0, none⟩) 42 42]) _ l _ K2.out.table (HL.out.keep K2.out.below) (by omega) (Ctx.anyNeeds_none HND.out)).mono ?_
            rintro e w3 ⟨rfl, hb3⟩
            have K3 := Lib.hid (K2.out.next hb3)
            clear hb3
            go_wp2_with fail
            go_meet
            exact ⟨rfl, K3⟩
          · go_wp2_with fail
            go_meet
            exact ⟨rfl, K2⟩
        case rest =>
          obtain ⟨rfl, KC⟩ := hcut
          clear K2 hS c0 c1 c2 c3
          obtain ⟨ad, rfl, hb, hx⟩ := HC.out 0 (by omega)
          rw [show ad.add 0 = ad by unfold Addr.add; rw [if_pos rfl]] at hx
          have hx' := (KC.out.below.cell hb).trans hx
          obtain ⟨x, hxe⟩ : ∃ x, l[0]! = x := ⟨_, rfl⟩
          rw [hxe] at hx'
          obtain ⟨jn, hjn⟩ : ∃ jn, Ctx.joiner x = jn := ⟨_, rfl⟩
          have HJ : Hid (jn = true → al = false) := Lib.hid (fun h => by rw [← HAL.out]; exact Ctx.joiner_no hl0 (by rw [hxe, hjn, h]))
          have hjc : (x = 8204 ∧ jn = true) ∨ ((x == 8204) = false ∧ x = 8205 ∧ jn = true) ∨ ((x == 8204) = false ∧ (x == 8205) = false ∧ (x == 183) = jn) := by
            rw [← hjn]
            unfold Ctx.joiner
            by_cases h1 : x = 8204
            · exact .inl ⟨h1, by rw [h1]; rfl⟩
            · by_cases h2 : x = 8205
              · exact .inr (.inl ⟨by simpa using h1, h2, by rw [h2]; rfl⟩)
              · rw [show (x == 8204) = false by simpa using h1, show (x == 8205) = false by simpa using h2]
                exact .inr (.inr ⟨rfl, rfl, rfl⟩)
          clear hx hb hxe hjn
          go_upto_region 15 with (fail)
          go_cut [8] (fun s8 wx => s8 = .bool jn ∧ Hid (Kept w w1.heap.size b0 b1 b2 b3 wx))
          case first =>
            rcases hjc with ⟨rfl, rfl⟩ | ⟨h1, rfl, rfl⟩ | ⟨h1, h2, h3⟩
            all_goals
              go_wp2_with fail
              go_meet
              exact ⟨rfl, KC⟩
          case rest =>
            obtain ⟨rfl, KD⟩ := hcut
            clear KC hx' hjc
            obtain ⟨hS, c0, c1, c2, c3⟩ := KD.out.held
            obtain ⟨m, hml⟩ : ∃ m, m + 1 = l.length := ⟨l.length - 1, by omega⟩
            obtain ⟨ad2, hae, hb, hm⟩ := HC.out m (by omega)
            obtain rfl : ad = ad2 := by injection hae
            replace hm := (KD.out.below.cell (by rw [add_block]; exact hb)).trans hm
            have hbz : ad.block < wc.heap.size := Nat.lt_of_lt_of_le hb KD.out.below.size
            have hlm : (l.length : Int) - 1 = (m : Int) := by omega
            have hmz : (m : Int) < (l.length : Int) := by omega
            obtain ⟨y, hye⟩ : ∃ y, l[m]! = y := ⟨_, rfl⟩
            obtain ⟨j, hje⟩ : ∃ j, m - 1 = j := ⟨_, rfl⟩
            obtain ⟨ad3, hae3, -, hj⟩ := HC.out j (by omega)
            obtain rfl : ad = ad3 := by injection hae3
            replace hj := (KD.out.below.cell (by rw [add_block]; exact hb)).trans hj
            obtain ⟨z, hze⟩ : ∃ z, l[j]! = z := ⟨_, rfl⟩
            obtain ⟨zc, hzc⟩ : ∃ zc, clsOf z = zc := ⟨_, rfl⟩
            obtain ⟨b, hbe⟩ : ∃ b, b = ((m : Int) == 0 || zc != 9) := ⟨_, rfl⟩
            obtain ⟨tl, htl⟩ : ∃ tl, Ctx.tail y b = tl := ⟨_, rfl⟩
            have HTL : Hid (tl = true → al = false) := Lib.hid (fun h => by
              rw [← HAL.out]
              refine Ctx.tail_no (k := m) (b := b) hml (fun hb => ?_) (by rw [hye, htl, h])
              rw [hbe, Bool.or_eq_true, beq_iff_eq, bne_iff_ne] at hb
              rw [hje, hze, hzc]
              rcases hb with hb | hb
              · exact .inl (by omega)
              · exact .inr hb)
            have HZC := Lib.hid hzc
            rw [hye] at hm
            rw [hze] at hj
            have hcs : (y = 183 ∧ tl = true) ∨ ((y == 183) = false ∧ y = 885 ∧ tl = true) ∨ (y = 8204 ∧ tl = b) ∨ (y = 8205 ∧ tl = b) ∨ ((y == 183) = false ∧ (y == 885) = false ∧ (y == 8204) = false ∧ (y == 8205) = false ∧ tl = false) := by
              rw [← htl]
              unfold Ctx.tail
              by_cases h1 : y = 183
              · exact .inl ⟨h1, by rw [h1]; rfl⟩
              by_cases h2 : y = 885
              · exact .inr (.inl ⟨by simpa using h1, h2, by rw [h2]; rfl⟩)
              by_cases h3 : y = 8204
              · exact .inr (.inr (.inl ⟨h3, by rw [h3]; rfl⟩))
              by_cases h4 : y = 8205
              · exact .inr (.inr (.inr (.inl ⟨h4, by rw [h4]; rfl⟩)))
              · rw [show (y == 183) = false by simpa using h1, show (y == 885) = false by simpa using h2, show (y == 8204) = false by simpa using h3, show (y == 8205) = false by simpa using h4]
                exact .inr (.inr (.inr (.inr ⟨rfl, rfl, rfl, rfl, rfl⟩)))
            have hmc : (((m : Int) == 0) = true ∧ b = true) ∨ (((m : Int) == 0) = false ∧ (m : Int) - 1 = (j : Int) ∧ (j : Int) < (l.length : Int) ∧ b = (zc != 9)) := by
              rw [hbe]
              by_cases h1 : m = 0
              · exact .inl ⟨by rw [h1]; rfl, by rw [h1]; rfl⟩
              · have h2 : ((m : Int) == 0) = false := by rw [beq_eq_false_iff_ne]; omega
                exact .inr ⟨h2, by omega, by omega, by rw [h2]; rfl⟩
            clear htl hbe hye hze hzc hje hae hae3 hml hb
            go_upto_region 17 with (fail)
            go_cut [10] (fun s10 wx => s10 = .bool tl ∧ Hid (Kept w w1.heap.size b0 b1 b2 b3 wx))
            case first =>
              rcases hcs with ⟨rfl, rfl⟩ | ⟨h1, rfl, rfl⟩ | ⟨rfl, rfl⟩ | ⟨rfl, rfl⟩ | ⟨h1, h2, h3, h4, rfl⟩
              · clear hmc
                go_wp2_with fail
                go_quiet (fail)
                go_wp2_with fail
                go_meet
                exact ⟨rfl, Lib.hid (KD.out.next (below_drewN (Below.refl _ _) _))⟩
              · clear hmc
                go_wp2_with fail
                go_quiet (fail)
                go_wp2_with fail
                go_meet
                exact ⟨rfl, Lib.hid (KD.out.next (below_drewN (Below.refl _ _) _))⟩
              · rcases hmc with ⟨h0, rfl⟩ | ⟨h5, h6, h7, rfl⟩
                · go_wp2_with fail
                  go_quiet (fail)
                  go_wp2_with fail
                  go_meet
                  exact ⟨rfl, Lib.hid (KD.out.next (below_drewN (Below.refl _ _) _))⟩
                · have hwj : IntKind.i64.wrap (j : Int) = (j : Int) := by rw [IntKind.wrap_i64]; omega
                  go_wp2_with fail
                  -- 8204 begins
                  refine wp_region_held_drew (S := (fun w' : World => w'.cell? (ad.add m) = some (.int .i32 8204) ∧ w'.cell? (ad.add j) = some (.int .i32 z) ∧ w'.cell? ⟨w1.heap.size, 0, none⟩ = some (.slice (some ⟨b0, 0, none⟩) 74 74) ∧ w'.cell? ⟨w1.heap.size, 1, none⟩ = some (.slice (some ⟨b1, 0, none⟩) 10 10) ∧ w'.cell? ⟨w1.heap.size, 2, none⟩ = some (.slice (some ⟨b2, 0, none⟩) 11 11) ∧ w'.cell? ⟨w1.heap.size, 3, none⟩ = some (.slice (some ⟨b3, 0, none⟩) 42 42))) (by kernel_rfl) ?_ (fun hHeld => ?_)
                  · (try dsimp only)
                    go_keep
                  refine take7 0 72 (v := ?_) rfl rfl (by kernel_rfl) (by kernel_rfl) (by kernel_rfl) (fun _ _ _ h => h) (Or.inl ⟨by rfl, ?_⟩) (by assumption) ?_
                  rotate_left
                  · intro w hSw
                    (try dsimp only at hSw)
                    go_simp
                    first | done | with_reducible rfl
                  simp only [Act.put, List.setIfInBounds_toArray, List.set_cons_zero, List.set_cons_succ]
                  refine take7 1 73 (v := ?_) rfl rfl (by kernel_rfl) (by kernel_rfl) (by kernel_rfl) (fun _ _ _ h => h) (Or.inl ⟨by rfl, ?_⟩) (by assumption) ?_
                  rotate_left
                  · intro w hSw
                    (try dsimp only at hSw)
                    go_simp
                    first | done | with_reducible rfl
                  simp only [Act.put, List.setIfInBounds_toArray, List.set_cons_zero, List.set_cons_succ]
                  refine take7 2 74 (v := ?_) rfl rfl (by kernel_rfl) (by kernel_rfl) (by kernel_rfl) (fun _ _ _ h => h) (Or.inl ⟨by rfl, ?_⟩) (by assumption) ?_
                  rotate_left
                  · intro w hSw
                    (try dsimp only at hSw)
                    go_simp
                    first | done | with_reducible rfl
                  simp only [Act.put, List.setIfInBounds_toArray, List.set_cons_zero, List.set_cons_succ]
                  refine take7 3 75 (v := ?_) rfl rfl (by kernel_rfl) (by kernel_rfl) (by kernel_rfl) (fun _ _ _ h => h) (Or.inl ⟨by rfl, ?_⟩) (by assumption) ?_
                  rotate_left
                  · intro w hSw
                    (try dsimp only at hSw)
                    go_simp
                    first | done | with_reducible rfl
                  simp only [Act.put, List.setIfInBounds_toArray, List.set_cons_zero, List.set_cons_succ]
                  refine take7 4 76 (v := ?_) rfl rfl (by kernel_rfl) (by kernel_rfl) (by kernel_rfl) (fun _ _ _ h => h) (Or.inl ⟨by rfl, ?_⟩) (by assumption) ?_
                  rotate_left
                  · intro w hSw
                    (try dsimp only at hSw)
                    go_simp
                    first | done | with_reducible rfl
                  simp only [Act.put, List.setIfInBounds_toArray, List.set_cons_zero, List.set_cons_succ]
                  refine take7 5 77 (v := ?_) rfl rfl (by kernel_rfl) (by kernel_rfl) (by kernel_rfl) (fun _ _ _ h => h) (Or.inl ⟨by rfl, ?_⟩) (by assumption) ?_
                  rotate_left
                  · intro w hSw
                    (try dsimp only at hSw)
                    go_simp
                    first | done | with_reducible rfl
                  simp only [Act.put, List.setIfInBounds_toArray, List.set_cons_zero, List.set_cons_succ]
                  refine take7 6 78 (v := ?_) rfl rfl (by kernel_rfl) (by kernel_rfl) (by kernel_rfl) (fun _ _ _ h => h) (Or.inl ⟨by rfl, ?_⟩) (by assumption) ?_
                  rotate_left
                  · intro w hSw
                    (try dsimp only at hSw)
                    go_simp
                    first | done | with_reducible rfl
                  simp only [Act.put, List.setIfInBounds_toArray, List.set_cons_zero, List.set_cons_succ]
                  refine take7 7 79 (v := ?_) rfl rfl (by kernel_rfl) (by kernel_rfl) (by kernel_rfl) (fun _ _ _ h => h) (Or.inl ⟨by rfl, ?_⟩) (by assumption) ?_
                  rotate_left
                  · intro w hSw
                    (try dsimp only at hSw)
                    go_simp
                    first | done | with_reducible rfl
                  simp only [Act.put, List.setIfInBounds_toArray, List.set_cons_zero, List.set_cons_succ]
                  refine take7 8 80 (v := ?_) rfl rfl (by kernel_rfl) (by kernel_rfl) (by kernel_rfl) (fun _ _ _ h => h) (Or.inl ⟨by rfl, ?_⟩) (by assumption) ?_
                  rotate_left
                  · intro w hSw
                    (try dsimp only at hSw)
                    go_simp
                    first | done | with_reducible rfl
                  simp only [Act.put, List.setIfInBounds_toArray, List.set_cons_zero, List.set_cons_succ]
                  refine take7 9 81 (v := ?_) rfl rfl (by kernel_rfl) (by kernel_rfl) (by kernel_rfl) (fun _ _ _ h => h) (Or.inl ⟨by rfl, ?_⟩) (by assumption) ?_
                  rotate_left
                  · intro w hSw
                    (try dsimp only at hSw)
                    go_simp
                    first | done | with_reducible rfl
                  simp only [Act.put, List.setIfInBounds_toArray, List.set_cons_zero, List.set_cons_succ]
                  refine take7 10 82 (v := ?_) rfl rfl (by kernel_rfl) (by kernel_rfl) (by kernel_rfl) (fun _ _ _ h => h) (Or.inl ⟨by rfl, ?_⟩) (by assumption) ?_
                  rotate_left
                  · intro w hSw
                    (try dsimp only at hSw)
                    go_simp
                    first | done | with_reducible rfl
                  simp only [Act.put, List.setIfInBounds_toArray, List.set_cons_zero, List.set_cons_succ]
                  refine take7 11 83 (v := ?_) rfl rfl (by kernel_rfl) (by kernel_rfl) (by kernel_rfl) (fun _ _ _ h => h) (Or.inl ⟨by rfl, ?_⟩) (by assumption) ?_
                  rotate_left
                  · intro w hSw
                    (try dsimp only at hSw)
                    go_simp
                    first | done | with_reducible rfl
                  simp only [Act.put, List.setIfInBounds_toArray, List.set_cons_zero, List.set_cons_succ]
                  refine take7 12 84 (v := ?_) rfl rfl (by kernel_rfl) (by kernel_rfl) (by kernel_rfl) (fun _ _ _ h => h) (Or.inl ⟨by rfl, ?_⟩) (by assumption) ?_
                  rotate_left
                  · intro w hSw
                    (try dsimp only at hSw)
                    go_simp
                    first | done | with_reducible rfl
                  simp only [Act.put, List.setIfInBounds_toArray, List.set_cons_zero, List.set_cons_succ]
                  refine take7 13 85 (v := ?_) rfl rfl (by kernel_rfl) (by kernel_rfl) (by kernel_rfl) (fun _ _ _ h => h) (Or.inl ⟨by rfl, ?_⟩) (by assumption) ?_
                  rotate_left
                  · intro w hSw
                    (try dsimp only at hSw)
                    go_simp
                    first | done | with_reducible rfl
                  simp only [Act.put, List.setIfInBounds_toArray, List.set_cons_zero, List.set_cons_succ]
                  refine take7 14 86 (v := ?_) rfl rfl (by kernel_rfl) (by kernel_rfl) (by kernel_rfl) (fun _ _ _ h => h) (Or.inl ⟨by rfl, ?_⟩) (by assumption) ?_
                  rotate_left
                  · intro w hSw
                    (try dsimp only at hSw)
                    go_simp
                    first | done | with_reducible rfl
                  simp only [Act.put, List.setIfInBounds_toArray, List.set_cons_zero, List.set_cons_succ]
                  refine take7 15 87 (v := ?_) rfl rfl (by kernel_rfl) (by kernel_rfl) (by kernel_rfl) (fun _ _ _ h => h) (Or.inl ⟨by rfl, ?_⟩) (by assumption) ?_
                  rotate_left
                  · intro w hSw
                    (try dsimp only at hSw)
                    go_simp
                    first | done | with_reducible rfl
                  simp only [Act.put, List.setIfInBounds_toArray, List.set_cons_zero, List.set_cons_succ]
                  refine take7 16 88 (v := ?_) rfl rfl (by kernel_rfl) (by kernel_rfl) (by kernel_rfl) (fun _ _ _ h => h) (Or.inl ⟨by rfl, ?_⟩) (by assumption) ?_
                  rotate_left
                  · intro w hSw
                    (try dsimp only at hSw)
                    go_simp
                    first | done | with_reducible rfl
                  simp only [Act.put, List.setIfInBounds_toArray, List.set_cons_zero, List.set_cons_succ]
                  refine take7 17 89 (v := ?_) rfl rfl (by kernel_rfl) (by kernel_rfl) (by kernel_rfl) (fun _ _ _ h => h) (Or.inl ⟨by rfl, ?_⟩) (by assumption) ?_
                  rotate_left
                  · intro w hSw
                    (try dsimp only at hSw)
                    go_simp
                    first | done | with_reducible rfl
                  simp only [Act.put, List.setIfInBounds_toArray, List.set_cons_zero, List.set_cons_succ]
                  refine take7 18 90 (v := ?_) rfl rfl (by kernel_rfl) (by kernel_rfl) (by kernel_rfl) (fun _ _ _ h => h) (Or.inl ⟨by rfl, ?_⟩) (by assumption) ?_
                  rotate_left
                  · intro w hSw
                    (try dsimp only at hSw)
                    go_simp
                    first | done | with_reducible rfl
                  simp only [Act.put, List.setIfInBounds_toArray, List.set_cons_zero, List.set_cons_succ]
                  refine take7 19 91 (v := undef) rfl rfl (by kernel_rfl) (by kernel_rfl) (by kernel_rfl) (fun _ _ _ h => h) (Or.inr ⟨by rfl, rfl⟩) (by assumption) ?_
                  simp only [Act.put, List.setIfInBounds_toArray, List.set_cons_zero, List.set_cons_succ]
                  refine take7 20 92 (v := undef) rfl rfl (by kernel_rfl) (by kernel_rfl) (by kernel_rfl) (fun _ _ _ h => h) (Or.inr ⟨by rfl, rfl⟩) (by assumption) ?_
                  simp only [Act.put, List.setIfInBounds_toArray, List.set_cons_zero, List.set_cons_succ]
                  refine take7 21 93 (v := undef) rfl rfl (by kernel_rfl) (by kernel_rfl) (by kernel_rfl) (fun _ _ _ h => h) (Or.inr ⟨by rfl, rfl⟩) (by assumption) ?_
                  simp only [Act.put, List.setIfInBounds_toArray, List.set_cons_zero, List.set_cons_succ]
                  refine take7 22 94 (v := undef) rfl rfl (by kernel_rfl) (by kernel_rfl) (by kernel_rfl) (fun _ _ _ h => h) (Or.inr ⟨by rfl, rfl⟩) (by assumption) ?_
                  simp only [Act.put, List.setIfInBounds_toArray, List.set_cons_zero, List.set_cons_succ]
                  refine take7 23 95 (v := undef) rfl rfl (by kernel_rfl) (by kernel_rfl) (by kernel_rfl) (fun _ _ _ h => h) (Or.inr ⟨by rfl, rfl⟩) (by assumption) ?_
                  simp only [Act.put, List.setIfInBounds_toArray, List.set_cons_zero, List.set_cons_succ]
                  refine take7 24 96 (v := ?_) rfl rfl (by kernel_rfl) (by kernel_rfl) (by kernel_rfl) (fun _ _ _ h => h) (Or.inl ⟨by rfl, ?_⟩) (by assumption) ?_
                  rotate_left
                  · intro w hSw
                    (try dsimp only at hSw)
                    go_simp
                    first | done | with_reducible rfl
                  simp only [Act.put, List.setIfInBounds_toArray, List.set_cons_zero, List.set_cons_succ]
                  refine take7 25 97 (v := ?_) rfl rfl (by kernel_rfl) (by kernel_rfl) (by kernel_rfl) (fun _ _ _ h => h) (Or.inl ⟨by rfl, ?_⟩) (by assumption) ?_
                  rotate_left
                  · intro w hSw
                    (try dsimp only at hSw)
                    go_simp
                    first | done | with_reducible rfl
                  simp only [Act.put, List.setIfInBounds_toArray, List.set_cons_zero, List.set_cons_succ]
                  refine take7 26 98 (v := ?_) rfl rfl (by kernel_rfl) (by kernel_rfl) (by kernel_rfl) (fun _ _ _ h => h) (Or.inl ⟨by rfl, ?_⟩) (by assumption) ?_
                  rotate_left
                  · intro w hSw
                    (try dsimp only at hSw)
                    go_simp
                    first | done | with_reducible rfl
                  simp only [Act.put, List.setIfInBounds_toArray, List.set_cons_zero, List.set_cons_succ]
                  refine take7 27 99 (v := ?_) rfl rfl (by kernel_rfl) (by kernel_rfl) (by kernel_rfl) (fun _ _ _ h => h) (Or.inl ⟨by rfl, ?_⟩) (by assumption) ?_
                  rotate_left
                  · intro w hSw
                    (try dsimp only at hSw)
                    go_simp
                    first | done | with_reducible rfl
                  simp only [Act.put, List.setIfInBounds_toArray, List.set_cons_zero, List.set_cons_succ]
                  refine take7 28 100 (v := ?_) rfl rfl (by kernel_rfl) (by kernel_rfl) (by kernel_rfl) (fun _ _ _ h => h) (Or.inl ⟨by rfl, ?_⟩) (by assumption) ?_
                  rotate_left
                  · intro w hSw
                    (try dsimp only at hSw)
                    go_simp
                    first | done | with_reducible rfl
                  simp only [Act.put, List.setIfInBounds_toArray, List.set_cons_zero, List.set_cons_succ]
                  refine take7 29 101 (v := ?_) rfl rfl (by kernel_rfl) (by kernel_rfl) (by kernel_rfl) (fun _ _ _ h => h) (Or.inl ⟨by rfl, ?_⟩) (by assumption) ?_
                  rotate_left
                  · intro w hSw
                    (try dsimp only at hSw)
                    go_simp
                    first | done | with_reducible rfl
                  simp only [Act.put, List.setIfInBounds_toArray, List.set_cons_zero, List.set_cons_succ]
                  refine take7 30 102 (v := ?_) rfl rfl (by kernel_rfl) (by kernel_rfl) (by kernel_rfl) (fun _ _ _ h => h) (Or.inl ⟨by rfl, ?_⟩) (by assumption) ?_
                  rotate_left
                  · intro w hSw
                    (try dsimp only at hSw)
                    go_simp
                    first | done | with_reducible rfl
                  simp only [Act.put, List.setIfInBounds_toArray, List.set_cons_zero, List.set_cons_succ]
                  refine take7 31 103 (v := ?_) rfl rfl (by kernel_rfl) (by kernel_rfl) (by kernel_rfl) (fun _ _ _ h => h) (Or.inl ⟨by rfl, ?_⟩) (by assumption) ?_
                  rotate_left
                  · intro w hSw
                    (try dsimp only at hSw)
                    go_simp
                    first | done | with_reducible rfl
                  simp only [Act.put, List.setIfInBounds_toArray, List.set_cons_zero, List.set_cons_succ]
                  refine take7 32 104 (v := ?_) rfl rfl (by kernel_rfl) (by kernel_rfl) (by kernel_rfl) (fun _ _ _ h => h) (Or.inl ⟨by rfl, ?_⟩) (by assumption) ?_
                  rotate_left
                  · intro w hSw
                    (try dsimp only at hSw)
                    go_simp
                    first | done | with_reducible rfl
                  simp only [Act.put, List.setIfInBounds_toArray, List.set_cons_zero, List.set_cons_succ]
                  refine take7 33 105 (v := ?_) rfl rfl (by kernel_rfl) (by kernel_rfl) (by kernel_rfl) (fun _ _ _ h => h) (Or.inl ⟨by rfl, ?_⟩) (by assumption) ?_
                  rotate_left
                  · intro w hSw
                    (try dsimp only at hSw)
                    go_simp
                    first | done | with_reducible rfl
                  simp only [Act.put, List.setIfInBounds_toArray, List.set_cons_zero, List.set_cons_succ]
                  refine take7 34 106 (v := ?_) rfl rfl (by kernel_rfl) (by kernel_rfl) (by kernel_rfl) (fun _ _ _ h => h) (Or.inl ⟨by rfl, ?_⟩) (by assumption) ?_
                  rotate_left
                  · intro w hSw
                    (try dsimp only at hSw)
                    go_simp
                    first | done | with_reducible rfl
                  simp only [Act.put, List.setIfInBounds_toArray, List.set_cons_zero, List.set_cons_succ]
                  refine wpAnyH_ready (rs := [35]) (by kernel_rfl) (by simp) ?_
                  refine AllReadyH.cons (o := { dst := some 107, op := .call { callee := .value (.func 16), args := #[.tmp 101, .tmp 106], argTypes := #[29, 21] }, type := 3, pos := "law.go:53", after := _, guard := some (28, false) }) rfl (fun K hK => ?_) AllReadyH.nil
                  (try go_simp)
                  go_at_call 16
                  with_reducible refine (class_at KD.out.drew HZC.out).mono ?_
                  rintro e w5 ⟨rfl, K5, L5⟩
                  have hB5 := below_of_drew L5.out
                  have hm5 := (hB5.cell (by rw [add_block]; exact hbz)).trans hm
                  have hj5 := (hB5.cell (by rw [add_block]; exact hbz)).trans hj
                  obtain ⟨hS5, d0, d1, d2, d3⟩ := K5.out.held
                  clear L5 hB5
                  go_wp2_with fail
                  clear hHeld
                  refine hK.out _ _ ?_ (fun hHeld => ?_)
                  · exact ⟨hm5, hj5, d0, d1, d2, d3⟩
                  clear hK K
                  refine take7 36 108 (v := ?_) rfl rfl (by kernel_rfl) (by kernel_rfl) (by kernel_rfl) (fun _ _ _ h => h) (Or.inl ⟨by rfl, ?_⟩) (by assumption) ?_
                  rotate_left
                  · intro w hSw
                    (try dsimp only at hSw)
                    go_simp
                    first | done | with_reducible rfl
                  simp only [Act.put, List.setIfInBounds_toArray, List.set_cons_zero, List.set_cons_succ]
                  refine take7 37 109 (v := ?_) rfl rfl (by kernel_rfl) (by kernel_rfl) (by kernel_rfl) (fun _ _ _ h => h) (Or.inl ⟨by rfl, ?_⟩) (by assumption) ?_
                  rotate_left
                  · intro w hSw
                    (try dsimp only at hSw)
                    go_simp
                    first | done | with_reducible rfl
                  simp only [Act.put, List.setIfInBounds_toArray, List.set_cons_zero, List.set_cons_succ]
                  refine take7 38 110 (v := ?_) rfl rfl (by kernel_rfl) (by kernel_rfl) (by kernel_rfl) (fun _ _ _ h => h) (Or.inl ⟨by rfl, ?_⟩) (by assumption) ?_
                  rotate_left
                  · intro w hSw
                    (try dsimp only at hSw)
                    go_simp
                    first | done | with_reducible rfl
                  simp only [Act.put, List.setIfInBounds_toArray, List.set_cons_zero, List.set_cons_succ]
                  refine take7 39 111 (v := ?_) rfl rfl (by kernel_rfl) (by kernel_rfl) (by kernel_rfl) (fun _ _ _ h => h) (Or.inl ⟨by rfl, ?_⟩) (by assumption) ?_
                  rotate_left
                  · intro w hSw
                    (try dsimp only at hSw)
                    go_simp
                    first | done | with_reducible rfl
                  simp only [Act.put, List.setIfInBounds_toArray, List.set_cons_zero, List.set_cons_succ]
                  refine take7 40 10 (v := ?_) rfl rfl (by kernel_rfl) (by kernel_rfl) (by kernel_rfl) (fun _ _ _ h => h) (Or.inl ⟨by rfl, ?_⟩) (by assumption) ?_
                  rotate_left
                  · intro w hSw
                    (try dsimp only at hSw)
                    go_simp
                    first | done | with_reducible rfl
                  simp only [Act.put, List.setIfInBounds_toArray, List.set_cons_zero, List.set_cons_succ]
                  refine wpAnyH_done (by kernel_rfl) ?_ _
                  -- 8204 ends
                  all_goals go_wp2_with fail
                  all_goals go_meet
                  all_goals exact ⟨rfl, K5⟩
              · rcases hmc with ⟨h0, rfl⟩ | ⟨h5, h6, h7, rfl⟩
                · go_wp2_with fail
                  go_quiet (fail)
                  go_wp2_with fail
                  go_meet
                  exact ⟨rfl, Lib.hid (KD.out.next (below_drewN (Below.refl _ _) _))⟩
                · have hwj : IntKind.i64.wrap (j : Int) = (j : Int) := by rw [IntKind.wrap_i64]; omega
                  go_wp2_with fail
                  first | (go_region_held3 (fun w' => w'.cell? (ad.add m) = some (.int .i32 8205) ∧ w'.cell? (ad.add j) = some (.int .i32 z) ∧ w'.cell? ⟨w1.heap.size, 0, none⟩ = some (.slice (some ⟨b0, 0, none⟩) 74 74) ∧ w'.cell? ⟨w1.heap.size, 1, none⟩ = some (.slice (some ⟨b1, 0, none⟩) 10 10) ∧ w'.cell? ⟨w1.heap.size, 2, none⟩ = some (.slice (some ⟨b2, 0, none⟩) 11 11) ∧ w'.cell? ⟨w1.heap.size, 3, none⟩ = some (.slice (some ⟨b3, 0, none⟩) 42 42)) (go_keep) ((go_at_call 16; (with_reducible refine (class_at KD.out.drew HZC.out).mono ?_); rintro e w5 ⟨rfl, K5, L5⟩; have hB5 := below_of_drew L5.out; have hm5 := (hB5.cell (by rw [add_block]; exact hbz)).trans hm; have hj5 := (hB5.cell (by rw [add_block]; exact hbz)).trans hj; obtain ⟨hS5, d0, d1, d2, d3⟩ := K5.out.held; clear L5 hB5))) | fail
                  all_goals go_wp2_with fail
                  all_goals go_meet
                  all_goals exact ⟨rfl, K5⟩
              · clear hmc
                go_wp2_with fail
                go_quiet (fail)
                go_wp2_with fail
                go_meet
                exact ⟨rfl, Lib.hid (KD.out.next (below_drewN (Below.refl _ _) _))⟩
            case rest =>
              obtain ⟨rfl, KE⟩ := hcut
              obtain ⟨hSe, e0, e1, e2, e3⟩ := KE.out.held
              clear KD hS c0 c1 c2 c3 hcs hmc hm hj hbz
              cases jn <;> cases tl
              · go_wp2
                go_ret
                exact ⟨rfl, KE.out.below⟩
              · obtain rfl := HTL.out rfl
                go_wp2_with fail
                refine (B.all_at (.agg #[.slice (some ⟨b0, 0, none⟩) 74 74, .slice (some ⟨b1, 0, none⟩) 10 10, .slice (some ⟨b2, 0, none⟩) 11 11, .slice (some ⟨b3, 0, none⟩) 42 42]) _ l _ KE.out.table (HL.out.keep KE.out.below) (by omega) HAL.out).mono ?_
                rintro e w6 ⟨rfl, hb6⟩
                have K6 := Lib.hid (KE.out.next hb6)
                clear hb6
                go_wp2
                go_ret
                exact ⟨rfl, K6.out.below⟩
              · obtain rfl := HJ.out rfl
                go_wp2_with fail
                refine (B.all_at (.agg #[.slice (some ⟨b0, 0, none⟩) 74 74, .slice (some ⟨b1, 0, none⟩) 10 10, .slice (some ⟨b2, 0, none⟩) 11 11, .slice (some ⟨b3, 0, none⟩) 42 42]) _ l _ KE.out.table (HL.out.keep KE.out.below) (by omega) HAL.out).mono ?_
                rintro e w6 ⟨rfl, hb6⟩
                have K6 := Lib.hid (KE.out.next hb6)
                clear hb6
                go_wp2
                go_ret
                exact ⟨rfl, K6.out.below⟩
              · obtain rfl := HJ.out rfl
                go_wp2_with fail
                refine (B.all_at (.agg #[.slice (some ⟨b0, 0, none⟩) 74 74, .slice (some ⟨b1, 0, none⟩) 10 10, .slice (some ⟨b2, 0, none⟩) 11 11, .slice (some ⟨b3, 0, none⟩) 42 42]) _ l _ KE.out.table (HL.out.keep KE.out.below) (by omega) HAL.out).mono ?_
                rintro e w6 ⟨rfl, hb6⟩
                have K6 := Lib.hid (KE.out.next hb6)
                clear hb6 hSe e0 e1 e2 e3
                obtain ⟨hS6, e0, e1, e2, e3⟩ := K6.out.held
                go_wp2_with fail
                refine (B.all_at (.agg #[.slice (some ⟨b0, 0, none⟩) 74 74, .slice (some ⟨b1, 0, none⟩) 10 10, .slice (some ⟨b2, 0, none⟩) 11 11, .slice (some ⟨b3, 0, none⟩) 42 42]) _ l _ K6.out.table (HL.out.keep K6.out.below) (by omega) HAL.out).mono ?_
                rintro e w7 ⟨rfl, hb7⟩
                have K7 := Lib.hid (K6.out.next hb7)
                clear hb7
                go_wp2
                go_ret
                exact ⟨rfl, K7.out.below⟩
  · have hnz : (200 : Int) < (l.length : Int) := by omega
    go_enter Try.func4, Try.ntmps4
    go_wp2_with fail
    refine (S7 _).mono ?_
    rintro e w0 ⟨rfl, hb0⟩
    have B0 := Lib.hid hb0
    clear hb0
    go_wp2
    go_ret
    exact ⟨rfl, B0.out⟩
end Go.Proofs.Ytoekkiodhbejpaa
