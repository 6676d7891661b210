/-
  Proved here: the law BidiPlain, given what the program's Has, Side, End and Rule tell. Conditions: none.
-/
import Derived.Test.YtcngaekdjnompaaBidiSmall
import Derived.Deep.DeepCutAuto
namespace Go.Proofs.Ytcngaekdjnompaa
open Go.RowKit
def byteZs (s : ByteArray) (k : Nat) : List Int := (s.data.toList.take k).map fun b => (b.toNat : Int)
theorem byteZs_next (s : ByteArray) (k : Nat) (h : k < s.size) : byteZs s (k + 1) = byteZs s k ++ [(s[k].toNat : Int)] := by
  unfold byteZs
  rw [List.take_succ_eq_append_getElem (by simpa using h), List.map_append]
  rfl
theorem byteZs_len (s : ByteArray) (k : Nat) (h : k ≤ s.size) : (byteZs s k).length = k := by
  unfold byteZs
  rw [List.length_map, List.length_take]
  simp
  omega
theorem plainC_cases (c : Int) (h : 0 ≤ c) : (Bidi.plainC c = false ∧ (c < 45 ∨ (45 < c ∧ c < 48) ∨ (57 < c ∧ c < 65) ∨ (90 < c ∧ c < 97) ∨ 122 < c)) ∨ (Bidi.plainC c = true ∧ (c = 45 ∨ (48 ≤ c ∧ c ≤ 57) ∨ (65 ≤ c ∧ c ≤ 90) ∨ (97 ≤ c ∧ c ≤ 122))) := by
  cases hp : Bidi.plainC c with
  | false =>
    refine .inl ⟨rfl, ?_⟩
    unfold Bidi.plainC at hp
    simp at hp
    omega
  | true =>
    refine .inr ⟨rfl, ?_⟩
    unfold Bidi.plainC at hp
    simp at hp
    omega
set_option maxHeartbeats 8000000 in
set_option maxRecDepth 100000 in
theorem plain6_walk (B : BidiOk) (s : ByteArray) (w : World) : Calls Try.prog 6 #[.string s] w fun e w' => e = .returned (.bool true) ∧ Below w.heap.size w w' := by
  by_cases h0 : s.size = 0
  · have hz : ((s.size : Int) == 0) = true := by rw [h0]; rfl
    clear h0
    go_enter Try.func6, Try.ntmps6
    go_wp2_with fail
    refine (small6_any B _).mono ?_
    rintro e w0 ⟨rfl, hb0⟩
    have B0 := Lib.hid hb0
    clear hb0
    go_wp2
    go_ret
    exact ⟨rfl, B0.out⟩
  have hz : ((s.size : Int) == 0) = false := by rw [beq_eq_false_iff_ne]; omega
  by_cases hn : s.size ≤ 300
  · have hnz : ¬ (300 : Int) < (s.size : Int) := by omega
    go_enter Try.func6, Try.ntmps6
    go_wp2_with fail
    refine (small6_any B _).mono ?_
    rintro e w0 ⟨rfl, hb0⟩
    have B0 := Lib.hid hb0
    clear hb0
    go_wp2
    go_loopg [4, 5, 6, 7] (s.size + 1) (fun gk s4 i _ _ wr => ∃ k : Nat, k ≤ s.size ∧ i = .int .i64 k ∧ s.size - k < gk ∧ Hid (OwnR w.heap.size s4 (byteZs s k) wr ∧ (∀ c ∈ byteZs s k, Bidi.plainC c = true) ∧ Below w.heap.size w wr))
    case atStart => exact ⟨0, Nat.zero_le _, rfl, by omega, ⟨OwnR.nil _ _, (fun c hc => by cases hc), B0.out⟩⟩
    case round =>
      obtain ⟨k, hk, rfl, hg, I⟩ := hrel
      by_cases hlt : k < s.size
      · have hkz : (k : Int) < (s.size : Int) := by omega
        have hub : s[k].toNat < 256 := s[k].toNat_lt
        have hnx := byteZs_next s k hlt
        have hle : (byteZs s k).length ≤ 1000000 := by rw [byteZs_len s k (by omega)]; omega
        obtain ⟨c, hce⟩ : ∃ c : Int, (s[k].toNat : Int) = c := ⟨_, rfl⟩
        have c0 : 0 ≤ c := by omega
        have c1 : c ≤ 255 := by omega
        rw [hce] at hnx
        have HN := Lib.hid hnx
        rcases plainC_cases c c0 with ⟨hp, hc⟩ | ⟨hp, hc⟩
        · clear hnx hp hub
          have f0 : (c != 45) = true := by rw [bne_iff_ne]; omega
          rcases hc with hc | ⟨hc, hd⟩ | ⟨hc, hd⟩ | ⟨hc, hd⟩ | hc
          · have f1 : ¬ 97 ≤ c := by omega
            have f2 : ¬ 65 ≤ c := by omega
            have f3 : c < 48 := by omega
            clear hc
            go_wp2
            go_ret
            exact ⟨rfl, I.out.2.2⟩
          · have f1 : ¬ 97 ≤ c := by omega
            have f2 : ¬ 65 ≤ c := by omega
            have f3 : c < 48 := by omega
            clear hc hd
            go_wp2
            go_ret
            exact ⟨rfl, I.out.2.2⟩
          · have f1 : ¬ 97 ≤ c := by omega
            have f2 : ¬ 65 ≤ c := by omega
            have f3 : ¬ c < 48 := by omega
            have f4 : 57 < c := by omega
            clear hc hd
            go_wp2
            go_ret
            exact ⟨rfl, I.out.2.2⟩
          · have f1 : ¬ 97 ≤ c := by omega
            have f2 : 65 ≤ c := by omega
            have f3 : ¬ c ≤ 90 := by omega
            have f4 : ¬ c < 48 := by omega
            have f5 : 57 < c := by omega
            clear hc hd
            go_wp2
            go_ret
            exact ⟨rfl, I.out.2.2⟩
          · have f1 : 97 ≤ c := by omega
            have f2 : ¬ c ≤ 122 := by omega
            have f3 : 65 ≤ c := by omega
            have f4 : ¬ c ≤ 90 := by omega
            have f5 : ¬ c < 48 := by omega
            have f6 : 57 < c := by omega
            clear hc
            go_wp2
            go_ret
            exact ⟨rfl, I.out.2.2⟩
        · have HP := Lib.hid hp
          clear hnx hp hub
          rcases hc with hc | ⟨hc, hd⟩ | ⟨hc, hd⟩ | ⟨hc, hd⟩
          · have f1 : ¬ 97 ≤ c := by omega
            have f2 : ¬ 65 ≤ c := by omega
            have f3 : c < 48 := by omega
            have f0 : (c != 45) = false := by simpa using hc
            clear hc
            go_wp2_with (at_builtin; refine append_cells wr 22 21 (.int .i32 0) 4 Try.underlying22 info_i32 rfl (by omega) w.heap.size _ _ _ I.out.1 I.out.2.2.size hle 1 (by omega) _ rfl rfl rfl _ _ rfl rfl rfl ?_; intro v3 w3 ho3 hb3; have HO := Lib.hid ho3; have HB3 := Lib.hid hb3; clear ho3 hb3)
            go_roundg (s.size - k)
            case measure => omega
            case rel =>
              refine ⟨k + 1, by omega, by go_num, by omega, ⟨by rw [HN.out]; exact OwnR.more HO.out rfl rfl, fun z hz => ?_, I.out.2.2.trans HB3.out⟩⟩
              rw [HN.out] at hz
              rcases List.mem_append.1 hz with hz | hz
              · exact I.out.2.1 z hz
              · rw [List.mem_singleton] at hz; rw [hz]; exact HP.out
          · have f1 : ¬ 97 ≤ c := by omega
            have f2 : ¬ 65 ≤ c := by omega
            have f3 : ¬ c < 48 := by omega
            have f4 : ¬ 57 < c := by omega
            clear hc hd
            go_wp2_with (at_builtin; refine append_cells wr 22 21 (.int .i32 0) 4 Try.underlying22 info_i32 rfl (by omega) w.heap.size _ _ _ I.out.1 I.out.2.2.size hle 1 (by omega) _ rfl rfl rfl _ _ rfl rfl rfl ?_; intro v3 w3 ho3 hb3; have HO := Lib.hid ho3; have HB3 := Lib.hid hb3; clear ho3 hb3)
            go_roundg (s.size - k)
            case measure => omega
            case rel =>
              refine ⟨k + 1, by omega, by go_num, by omega, ⟨by rw [HN.out]; exact OwnR.more HO.out rfl rfl, fun z hz => ?_, I.out.2.2.trans HB3.out⟩⟩
              rw [HN.out] at hz
              rcases List.mem_append.1 hz with hz | hz
              · exact I.out.2.1 z hz
              · rw [List.mem_singleton] at hz; rw [hz]; exact HP.out
          · have f1 : ¬ 97 ≤ c := by omega
            have f2 : 65 ≤ c := by omega
            have f3 : c ≤ 90 := by omega
            clear hc hd
            go_wp2_with (at_builtin; refine append_cells wr 22 21 (.int .i32 0) 4 Try.underlying22 info_i32 rfl (by omega) w.heap.size _ _ _ I.out.1 I.out.2.2.size hle 1 (by omega) _ rfl rfl rfl _ _ rfl rfl rfl ?_; intro v3 w3 ho3 hb3; have HO := Lib.hid ho3; have HB3 := Lib.hid hb3; clear ho3 hb3)
            go_roundg (s.size - k)
            case measure => omega
            case rel =>
              refine ⟨k + 1, by omega, by go_num, by omega, ⟨by rw [HN.out]; exact OwnR.more HO.out rfl rfl, fun z hz => ?_, I.out.2.2.trans HB3.out⟩⟩
              rw [HN.out] at hz
              rcases List.mem_append.1 hz with hz | hz
              · exact I.out.2.1 z hz
              · rw [List.mem_singleton] at hz; rw [hz]; exact HP.out
          · have f1 : 97 ≤ c := by omega
            have f2 : c ≤ 122 := by omega
            clear hc hd
            go_wp2_with (at_builtin; refine append_cells wr 22 21 (.int .i32 0) 4 Try.underlying22 info_i32 rfl (by omega) w.heap.size _ _ _ I.out.1 I.out.2.2.size hle 1 (by omega) _ rfl rfl rfl _ _ rfl rfl rfl ?_; intro v3 w3 ho3 hb3; have HO := Lib.hid ho3; have HB3 := Lib.hid hb3; clear ho3 hb3)
            go_roundg (s.size - k)
            case measure => omega
            case rel =>
              refine ⟨k + 1, by omega, by go_num, by omega, ⟨by rw [HN.out]; exact OwnR.more HO.out rfl rfl, fun z hz => ?_, I.out.2.2.trans HB3.out⟩⟩
              rw [HN.out] at hz
              rcases List.mem_append.1 hz with hz | hz
              · exact I.out.2.1 z hz
              · rw [List.mem_singleton] at hz; rw [hz]; exact HP.out
      · obtain rfl : k = s.size := by omega
        obtain ⟨i1, i2, i3⟩ := I.out
        have hp0 : 0 < s.size := by omega
        have hp1 : s.size - 1 < s.size := by omega
        have hlen := byteZs_len s s.size (Nat.le_refl _)
        obtain ⟨q, hq⟩ : ∃ q, s.size = q + 1 := ⟨s.size - 1, by omega⟩
        have hsn := byteZs_next s q (by omega)
        rw [← hq] at hsn
        obtain ⟨r1, r2⟩ := Bidi.plain i2 hsn
        have hhd : (byteZs s s.size).head! = ((s[0]'hp0).toNat : Int) := by
          have h1 := byteZs_next s 0 (by omega)
          have h2 : byteZs s s.size = byteZs s 1 ++ (s.data.toList.drop 1).map fun b => (b.toNat : Int) := by
            unfold byteZs
            rw [← List.map_append]
            congr 1
            rw [List.take_of_length_le (by simp), List.take_append_drop]
          rw [h2, h1]
          rfl
        have hqq : q = s.size - 1 := by omega
        rw [hhd] at r1
        obtain ⟨A5, c5, hv5, -⟩ := i1.shape
        subst hv5
        rw [hlen]
        obtain ⟨L, hL⟩ : ∃ L, L = byteZs s s.size := ⟨_, rfl⟩
        rw [← hL] at r1 r2 i1 hlen
        have RU := i1.runes
        rw [hlen] at RU
        have HRU := Lib.hid RU
        have R1 := Lib.hid r1
        have R2 := Lib.hid r2
        have HLN := Lib.hid hlen
        have BI := Lib.hid i3
        have hqe : s[q]'(by omega) = s[s.size - 1]'hp1 := by
          have : ∀ (j : Nat) (hj : j < s.size) (hk : q < s.size), q = j → s[q]'hk = s[j]'hj := fun j hj hk e => by subst e; rfl
          exact this (s.size - 1) hp1 (by omega) hqq
        have R1' := R1.out
        rw [hqe] at R1'
        have b0z : (s[0]'hp0).toNat < 256 := UInt8.toNat_lt _
        have b1z : (s[s.size - 1]'hp1).toNat < 256 := UInt8.toNat_lt _
        have hs1 : (1 : Int) ≤ (s.size : Int) := by omega
        have hsw : IntKind.i64.wrap ((s.size : Int) - 1) = (s.size : Int) - 1 := by rw [IntKind.wrap_i64]; omega
        have hst : ((s.size : Int) - 1).toNat = s.size - 1 := by omega
        obtain ⟨rv, hrv⟩ : ∃ rv, Bidi.rule L = rv := ⟨_, rfl⟩
        have HRV := Lib.hid hrv
        rw [hrv] at R1'
        have HR1 := Lib.hid R1'
        clear i1 i2 i3 hlen hsn r1 r2 hhd hqq RU hL I hq R1 R1' hqe hrv
        go_wp2_with fail
        refine (new_any _).mono ?_
        rintro e w1 ⟨tt, rfl, hT, hb1⟩
        have hT' := hT
        obtain ⟨b0, b1, b2, b3, rfl, -, -, -, -⟩ := hT'
        have K1 := Lib.hid (kept_new (b0 := b0) (b1 := b1) (b2 := b2) (b3 := b3) (below_then BI.out hb1) hT 29)
        have RU1 := Lib.hid (HRU.out.keep (hb1.alloc hb1.size (.cells #[.slice (some ⟨b0, 0, none⟩) 74 74, .slice (some ⟨b1, 0, none⟩) 10 10, .slice (some ⟨b2, 0, none⟩) 11 11, .slice (some ⟨b3, 0, none⟩) 42 42] 29)))
        obtain ⟨hS, c0, c1, c2, c3⟩ := K1.out.held
        clear hT hb1 BI
        go_wp2_with fail
        refine (B.rule_at (.agg #[.slice (some ⟨b0, 0, none⟩) 74 74, .slice (some ⟨b1, 0, none⟩) 10 10, .slice (some ⟨b2, 0, none⟩) 11 11, .slice (some ⟨b3, 0, none⟩) 42 42]) _ L _ K1.out.table RU1.out (by rw [HLN.out]; omega) HRV.out).mono ?_
        rintro e w2 ⟨rfl, hb2⟩
        have K2 := Lib.hid (K1.out.next hb2)
        have RU2 := Lib.hid (RU1.out.keep hb2)
        clear hb2 K1 hS c0 c1 c2 c3 RU1
        obtain ⟨hS, c0, c1, c2, c3⟩ := K2.out.held
        have KH := Lib.hid (B.has_at (.agg #[.slice (some ⟨b0, 0, none⟩) 74 74, .slice (some ⟨b1, 0, none⟩) 10 10, .slice (some ⟨b2, 0, none⟩) 11 11, .slice (some ⟨b3, 0, none⟩) 42 42]) _ L _ K2.out.table RU2.out (by rw [HLN.out]; omega) R2.out)
        by_cases hA : 65 ≤ (s[0]'hp0).toNat
        · have hA1 : (65 : Int) ≤ ((s[0]'hp0).toNat : Int) := by omega
          by_cases hB : (s[s.size - 1]'hp1).toNat = 45
          · have hB1 : (((s[s.size - 1]'hp1).toNat : Int) != 45) = false := by rw [hB]; rfl
            have hv : rv = false := by rw [HR1.out, hB1, Bool.and_false]
            subst hv
            go_wp2_with fail
            refine KH.out.mono ?_
            rintro e w3 ⟨rfl, hb3⟩
            have K3 := Lib.hid (K2.out.next hb3)
            clear hb3
            go_wp2
            go_ret
            exact ⟨rfl, K3.out.below⟩
          · have hB1 : (((s[s.size - 1]'hp1).toNat : Int) != 45) = true := by rw [bne_iff_ne]; omega
            have hv : rv = true := by rw [HR1.out, hB1, decide_eq_true hA1]; rfl
            subst hv
            go_wp2_with fail
            refine KH.out.mono ?_
            rintro e w3 ⟨rfl, hb3⟩
            have K3 := Lib.hid (K2.out.next hb3)
            clear hb3
            go_wp2
            go_ret
            exact ⟨rfl, K3.out.below⟩
        · have hA1 : ¬ (65 : Int) ≤ ((s[0]'hp0).toNat : Int) := by omega
          have hv : rv = false := by rw [HR1.out, decide_eq_false hA1]; rfl
          subst hv
          go_wp2_with fail
          refine KH.out.mono ?_
          rintro e w3 ⟨rfl, hb3⟩
          have K3 := Lib.hid (K2.out.next hb3)
          clear hb3
          go_wp2
          go_ret
          exact ⟨rfl, K3.out.below⟩
  · have hnz : (300 : Int) < (s.size : Int) := by omega
    go_enter Try.func6, Try.ntmps6
    go_wp2_with fail
    refine (small6_any B _).mono ?_
    rintro e w0 ⟨rfl, hb0⟩
    have B0 := Lib.hid hb0
    clear hb0
    go_wp2
    go_ret
    exact ⟨rfl, B0.out⟩
end Go.Proofs.Ytcngaekdjnompaa
