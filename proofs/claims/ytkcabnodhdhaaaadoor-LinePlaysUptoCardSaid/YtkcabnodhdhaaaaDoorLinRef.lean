/-
  Proved here: the document's own answers of layer 16: rows of lines that are the same, a line as it is told, lines as they are printed. Conditions: as they stand in each.
-/
import Derived.Test.YtkcabnodhdhaaaaDoorLinTake
import Derived.Test.YtkcabnodhdhaaaaDoorLinPrint
namespace Go.Proofs.YtkcabnodhdhaaaaDoor
open Go.RowKit
set_option maxRecDepth 100000 in
theorem fr_ne (s : ByteArray) (a b : Bool) (W : World) : (binOp .neq 42 (.agg #[.string s, .bool a, .bool b]) (.agg #[.string s, .bool a, .bool b])).run Tryd.prog W = .ok (.bool false) W := by
  cases a <;> cases b <;> go_simp
set_option maxHeartbeats 2000000 in
set_option maxRecDepth 100000 in
theorem same16_yes (v1 v2 : Value) (ts : List Lin.Fr) (w : World) (h1 : Frs v1 ts w) (h2 : Frs v2 ts w) (hn : ts.length ≤ 1000000) : Calls Tryd.prog 13 #[v1, v2] w fun e w' => e = .returned (.bool true) ∧ Below w.heap.size w w' := by
  obtain ⟨A1, c1, rfl, hc1, -, ha1⟩ := h1
  obtain ⟨A2, c2, rfl, hc2, -, ha2⟩ := h2
  have H1 := Lib.hid ha1
  have H2 := Lib.hid ha2
  clear ha1 ha2
  generalize hlen : ts.length = n at *
  have HN := Lib.hid hlen
  clear hlen
  have hne : ((n : Int) != (n : Int)) = false := by simp
  go_enter Tryd.func13, Tryd.ntmps13
  go_wp2
  go_loopg [5] (n + 1) (fun gk s5 wr => ∃ k : Nat, k ≤ n ∧ s5 = .int .i64 k ∧ n - k < gk ∧ Hid (Below w.heap.size w wr))
  case atStart => exact ⟨0, Nat.zero_le _, rfl, by omega, Lib.hid (Below.refl _ _)⟩
  case round =>
    obtain ⟨k, hk, rfl, hg, I⟩ := hrel
    by_cases hlt : k < n
    · obtain ⟨g1, o1, rfl, hg1, h1⟩ := H1.out (by omega)
      obtain ⟨g2, o2, rfl, hg2, h2⟩ := H2.out (by omega)
      obtain ⟨a0, a1, a2⟩ := (h1 k hlt).keep (I.out.block g1 hg1)
      obtain ⟨b0, b1, b2⟩ := (h2 k hlt).keep (I.out.block g2 hg2)
      obtain ⟨K, hK⟩ : ∃ K, Lin.nthF ts k = K := ⟨_, rfl⟩
      rw [hK] at a0 a1 a2 b0 b1 b2
      obtain ⟨s, hs⟩ : ∃ s, (⟨K.text.toArray⟩ : ByteArray) = s := ⟨_, rfl⟩
      rw [hs] at a0 b0
      have E := fr_ne s K.long K.bare
      generalize K.long = x at *
      generalize K.bare = y at *
      clear h1 h2 hK hs
      go_wp2_with fail
      go_quiet (fail)
      go_wp2
      go_roundg (n - k)
      case measure => omega
      case rel => exact ⟨k + 1, by omega, by simp, by omega, Lib.hid (below_drewN I.out _)⟩
    · obtain rfl : k = n := by omega
      go_wp2
      go_ret
      exact ⟨rfl, I.out⟩
set_option maxHeartbeats 2000000 in
set_option maxRecDepth 100000 in
theorem one16_any (s : ByteArray) (most : Int) (w : World) (hs : s.size ≤ 1000000) : Calls Tryd.prog 22 #[.string s, .int .i64 most] w fun e w' => e = .returned (Lin.frame most s.data.toList).v ∧ Below w.heap.size w w' := by
  have HS := Lib.hid hs
  obtain ⟨fr, hfr⟩ : ∃ fr, Lin.frame most s.data.toList = fr := ⟨_, rfl⟩
  have HF := Lib.hid hfr
  rw [hfr]
  clear hfr
  go_enter Tryd.func22, Tryd.ntmps22
  go_wp2
  go_loopg [5, 6] (s.size + 1) (fun gk s5 s6 wr => ∃ (k : Nat) (b : Bool), k ≤ s.size ∧ s5 = .bool b ∧ s6 = .int .i64 k ∧ s.size - k < gk ∧ wr = w.alloc (.cells #[.string ⟨#[]⟩, .bool false, .bool false] 42) ∧ Hid (b = Lin.bare (s.data.toList.take k)))
  case atStart => exact ⟨0, false, Nat.zero_le _, rfl, rfl, by omega, rfl, Lib.hid rfl⟩
  case round =>
    obtain ⟨k, b, hk, rfl, rfl, hg, rfl, I⟩ := hrel
    by_cases hlt : k < s.size
    · obtain ⟨x, hx⟩ : ∃ x, s[k]'hlt = x := ⟨_, rfl⟩
      have hb : Lin.bare (s.data.toList.take (k + 1)) = (b || Lin.bar x) := by
        rw [Lin.take_snoc _ _ (by rw [Lin.len_of]; exact hlt), Lin.byte_of s k hlt, hx, I.out]
        unfold Lin.bare
        rw [List.any_append]
        show (_ || (Lin.bar x || false)) = _
        rw [Bool.or_false]
      have HB := Lib.hid hb
      clear hb
      cases b with
      | true =>
        go_wp2_with fail
        go_roundg (s.size - k)
        case measure => omega
        case rel => exact ⟨k + 1, true, by omega, rfl, by simp, by omega, rfl, Lib.hid (by rw [HB.out]; rfl)⟩
      | false =>
        by_cases h13 : x.toNat = 13
        · have e13 : ((x.toNat : Int) == 13) = true := beq_iff_eq.2 (by omega)
          go_wp2_with fail
          go_roundg (s.size - k)
          case measure => omega
          case rel => exact ⟨k + 1, true, by omega, rfl, by simp, by omega, rfl, Lib.hid (by rw [HB.out]; unfold Lin.bar; rw [h13]; rfl)⟩
        · have e13 : ((x.toNat : Int) == 13) = false := beq_eq_false_iff_ne.2 (by omega)
          by_cases h10 : x.toNat = 10
          · have e10 : ((x.toNat : Int) == 10) = true := beq_iff_eq.2 (by omega)
            go_wp2_with fail
            go_roundg (s.size - k)
            case measure => omega
            case rel => exact ⟨k + 1, true, by omega, rfl, by simp, by omega, rfl, Lib.hid (by rw [HB.out]; unfold Lin.bar; rw [h10]; rfl)⟩
          · have e10 : ((x.toNat : Int) == 10) = false := beq_eq_false_iff_ne.2 (by omega)
            go_wp2_with fail
            go_roundg (s.size - k)
            case measure => omega
            case rel => exact ⟨k + 1, false, by omega, rfl, by simp, by omega, rfl, Lib.hid (by rw [HB.out]; unfold Lin.bar; rw [beq_eq_false_iff_ne.2 h13, beq_eq_false_iff_ne.2 h10]; rfl)⟩
    · obtain rfl : k = s.size := by omega
      have hfr : fr = if b || decide (most < (s.size : Int)) then ⟨[], decide (most < (s.size : Int)), b⟩ else ⟨s.data.toList, false, false⟩ := by
        rw [← HF.out, I.out, List.take_of_length_le (by rw [Lin.len_of]; exact Nat.le_refl _)]
        unfold Lin.frame
        rw [Lin.len_of]
      have HFR := Lib.hid hfr
      clear hfr
      obtain ⟨lg, hlg⟩ : ∃ lg, decide (most < (s.size : Int)) = lg := ⟨_, rfl⟩
      rw [hlg] at HFR
      cases b <;> cases lg
      all_goals
        go_wp2_with fail
        refine bodyPost_ret (v := fr.v) ?_ rfl ⟨rfl, below_new (below_one w _) (Nat.le_refl _) _⟩
        rw [HFR.out]
        simp [results, Tryd.results22, go_sem, Lin.Fr.v]
/-- 'append(v, 13, 10)' and the like: a literal of bytes behind a row. -/
theorem bytes_lit (l : List UInt8) : (l.map byteV).all (fun u => u.oneCell') = true := by
  rw [List.all_eq_true]
  intro u hu
  obtain ⟨b, -, rfl⟩ := List.mem_map.1 hu
  rfl
set_option maxHeartbeats 2000000 in
set_option maxRecDepth 100000 in
theorem refPrint16_any (v : Value) (l : List (List UInt8)) (w : World) (hv : Strs v l w) (hn : l.length ≤ 100000) (hl : (Lin.printL l).length ≤ 100000) : Calls Tryd.prog 19 #[v] w fun e w' => e = .returned (.string ⟨(Lin.printL l).toArray⟩) ∧ Below w.heap.size w w' := by
  obtain ⟨A, c, rfl, hc, hcell⟩ := hv.form
  have HC := Lib.hid hcell
  have HL := Lib.hid hl
  clear hv hcell hl
  generalize hlen : l.length = n at *
  have HN := Lib.hid hlen
  clear hlen
  go_enter Tryd.func19, Tryd.ntmps19
  go_wp2
  go_loopg [3, 4] (n + 1) (fun gk s3 s4 wr => ∃ k : Nat, k ≤ n ∧ s4 = .int .i64 k ∧ n - k < gk ∧ Hid (OwnB w.heap.size s3 (Lin.printL (l.take k)) wr ∧ Below w.heap.size w wr))
  case atStart => exact ⟨0, Nat.zero_le _, rfl, by omega, Lib.hid ⟨OwnB.nil _ _, Below.refl _ _⟩⟩
  case round =>
    obtain ⟨k, hk, rfl, hg, I⟩ := hrel
    by_cases hlt : k < n
    · obtain ⟨ad, rfl, hb, hx⟩ := HC.out k hlt
      obtain ⟨x, hxe⟩ : ∃ x, x = l[k]! := ⟨_, rfl⟩
      rw [← hxe] at hx
      have hx' := (I.out.2.cell (by rw [add_block]; exact hb)).trans hx
      unfold strV at hx'
      have hle1 := Lin.printL_le l (k + 1)
      have hpt := Lin.printL_take (l := l) (k := k) (by rw [HN.out]; exact hlt)
      rw [← hxe] at hpt
      rw [hpt, List.length_append, List.length_append] at hle1
      have hL := HL.out
      obtain ⟨p, hp⟩ : ∃ p, Lin.printL (l.take k) = p := ⟨_, rfl⟩
      rw [hp] at hpt hle1
      have hpl : p.length + x.length ≤ 100000 := by simp at hle1; omega
      have I1 : Hid (OwnB w.heap.size u3 p wr) := Lib.hid (by rw [← hp]; exact I.out.1)
      have HP := Lib.hid hpt
      have hs1 := I.out.2.size
      clear hx hb hxe hle1 hL hpt hp
      go_wp2_with (first
        | (at_builtin; refine append_bytes wr w.heap.size _ p I1.out hs1 x rfl (by omega) rfl _ _ rfl rfl rfl ?_; intro v3 w3 ho3 hg3; have O3 := Lib.hid ho3; have B3 := Lib.hid (I.out.2.trans (hg3.below hs1 I1.out.off)); have hs3 := B3.out.size; have hpx : (p ++ x).length = p.length + x.length := List.length_append; clear ho3 hg3)
        | (at_builtin; refine append_lit w3 43 5 (.int .u8 0) 1 Tryd.underlying43 info_u8 rfl (by omega) w.heap.size _ _ _ O3.out hs3 (by omega) 2 (by omega) [.int .u8 13, .int .u8 10] rfl rfl w3.heap.size rfl rfl _ _ rfl rfl rfl ?_; intro v4 w4 ho4 hg4; have O4 := Lib.hid (OwnB.more (ns := [13, 10]) ho4 rfl rfl); have B4 := Lib.hid (B3.out.trans (hg4.below hs3 O3.out.off)); clear ho4 hg4))
      go_roundg (n - k)
      case measure => omega
      case rel => exact ⟨k + 1, by omega, by simp, by omega, Lib.hid ⟨by rw [HP.out]; exact O4.out, B4.out⟩⟩
    · obtain rfl : k = n := by omega
      have hcv := string_of I.out.1.bytes
      rw [List.take_of_length_le (by rw [HN.out]; exact Nat.le_refl _)] at hcv
      go_wp2
      go_ret
      exact ⟨rfl, I.out.2⟩
end Go.Proofs.YtkcabnodhdhaaaaDoor
