/-
  Proved here: the replacer of a quote's two signs puts a \ ahead of each in a string, in new memory. Conditions: strings of at most 100,000 bytes.
-/
import Derived.Test.YtmcjgdajnppbhaaGreatDoorRepPut
import Derived.BigQuiet
namespace Go.Proofs.YtmcjgdajnppbhaaGreatDoor
open Go.RowKit Utf
/-- What a walk of the replacer knows: the table, and the two rows of what is put. -/
structure RepSees (B T : Nat) (f : Nat → Value) (W : World) : Prop where
  rep : RepAt B f (.slice (some ⟨T, 0, none⟩) 2 2) W
  strs : StrsAt T ⟨#[92]⟩ ⟨#[34]⟩ W
  want : ∀ c : UInt8, c.toNat = 34 ∨ c.toNat = 92 → ∃ r cc, f c.toNat = .slice (some ⟨r, 0, none⟩) 2 cc ∧ TwoAt r 92 (c.toNat : Int) W
  leave : ∀ c : UInt8, ¬ (c.toNat = 34 ∨ c.toNat = 92) → f c.toNat = .slice none 0 0
theorem RepSees.keep {B T : Nat} {f : Nat → Value} {W W' : World} (h : RepSees B T f W) (hb : Below W.heap.size W W') : RepSees B T f W' :=
  ⟨h.rep.keep hb, h.strs.keep hb.size (hb.block T h.strs.1), fun c hc => by
    obtain ⟨r, cc, e, h2⟩ := h.want c hc
    exact ⟨r, cc, e, h2.keep hb.size (hb.block r h2.1)⟩, h.leave⟩
theorem RepOk.sees {base B : Nat} {W : World} (h : RepOk base B W) : ∃ T f, RepSees B T f W := by
  obtain ⟨p, q, c1, c2, T, -, -, -, -, h1, h2, h3, h4⟩ := h
  refine ⟨T, _, h1, h4, fun c hc => ?_, fun c hc => ?_⟩
  · rcases hc with h | h
    · exact ⟨p, c1, by simp [h], by rw [h]; exact h2⟩
    · exact ⟨q, c2, by simp [h], by rw [h]; exact h3⟩
  · simp only [not_or] at hc
    simp [hc.1, hc.2]
theorem RepSees.byte {B T : Nat} {f : Nat → Value} {W : World} (h : RepSees B T f W) (c : UInt8) : W.cell? ⟨B, c.toNat, none⟩ = some (f c.toNat) := h.rep.at_ c.toNat (UInt8.toNat_lt c)
set_option maxHeartbeats 8000000 in
set_option maxRecDepth 100000 in
theorem repl_few (B T : Nat) (f : Nat → Value) (s : ByteArray) (w : World) (hs : s.size < 16) (hR : RepSees B T f w) :
    Calls Tryz.prog 116 #[.pointer (some ⟨B, 0, none⟩), .string s] w fun e w' => e = .returned (.string ⟨(Lex.esc s.data.toList).toArray⟩) ∧ Below w.heap.size w w' := by
  have hsl : s.data.toList.length = s.size := by simp
  have k256 := hR.rep.last
  have HS := Lib.hid hR
  have hfew : ¬ (16 : Int) ≤ (s.size : Int) := by omega
  clear hR
  go_enter Tryz.func116, Tryz.ntmps116
  go_wp2
  clear k256
  go_loopg [5, 6, 10] (s.size + 1) (fun gk s5 s6 s10 wr => ∃ (i M : Nat) (b : Bool), s10 = .int .i64 i ∧ s5 = .int .i64 M ∧ s6 = .bool b ∧ i ≤ s.size ∧ M ≤ 200000 ∧ s.size - i < gk ∧ Hid (M = s.size + Lex.ext (s.data.toList.take i) ∧ b = decide (0 < Lex.ext (s.data.toList.take i))) ∧ w = wr)
  case atStart => exact ⟨0, s.size, false, rfl, rfl, rfl, Nat.zero_le _, by omega, by omega, Lib.hid ⟨rfl, rfl⟩, rfl⟩
  case round =>
    obtain ⟨i, M, b, rfl, rfl, rfl, hi, hM, hg, HM, rfl⟩ := hrel
    by_cases hlt : i < s.size
    · have hiz : (i : Int) < (s.size : Int) := by omega
      have hcl : s[i].toNat < 256 := UInt8.toNat_lt _
      have kc := HS.out.byte s[i]
      have hmore := Lex.ext_more hlt
      have hfl := Lex.ext_le (s.data.toList.take (i + 1))
      rw [List.length_take] at hfl
      by_cases hc : s[i].toNat = 34 ∨ s[i].toNat = 92
      · obtain ⟨r, cc, hf, -⟩ := HS.out.want _ hc
        rw [hf] at kc
        rw [if_pos hc] at hmore
        have hsn := some_ne ⟨r, 0, none⟩ 2 cc
        have I2 : Hid (M + 1 = s.size + Lex.ext (s.data.toList.take (i + 1)) ∧ true = decide (0 < Lex.ext (s.data.toList.take (i + 1)))) := Lib.hid ⟨by have := HM.out.1; omega, by rw [hmore]; simp⟩
        have hM2 : M + 1 ≤ 200000 := by have := I2.out.1; omega
        clear hc hf hmore hfl HM
        go_wp2
        go_roundg (s.size - i)
        case measure => omega
        case rel => exact ⟨i + 1, M + 1, true, by go_num, by go_num, rfl, by omega, by omega, by omega, I2, rfl⟩
      · rw [HS.out.leave _ hc] at kc
        rw [if_neg hc, Nat.add_zero] at hmore
        have hnn := nil_ne
        have I2 : Hid (M = s.size + Lex.ext (s.data.toList.take (i + 1)) ∧ b = decide (0 < Lex.ext (s.data.toList.take (i + 1)))) := Lib.hid (by rw [hmore]; exact HM.out)
        clear hc hmore hfl HM
        go_wp2
        go_roundg (s.size - i)
        case measure => omega
        case rel => exact ⟨i + 1, M, b, by go_num, rfl, rfl, by omega, hM, by omega, I2, rfl⟩
    obtain rfl : i = s.size := by omega
    have hiz : ¬ (s.size : Int) < (s.size : Int) := by omega
    rw [List.take_of_length_le (by rw [hsl]; exact Nat.le_refl _)] at HM
    have HBel : Hid (Below w.heap.size w w) := Lib.hid (Below.refl _ _)

    -- what was counted is told
    cases b
    · have E : Hid ((⟨(Lex.esc s.data.toList).toArray⟩ : ByteArray) = s) := Lib.hid (by
        have h0 : Lex.ext s.data.toList = 0 := by have := HM.out.2; simpa using this
        rw [Lex.esc_same _ h0])
      have hbf : Hid (Below w.heap.size w w) := HBel
      go_wp2
      go_ret
      exact ⟨congrArg (fun x => Ending.returned (.string x)) E.out.symm, hbf.out⟩
    · have hmk := make_bytes M (by omega)
      have hml : (Lex.esc s.data.toList).length = M := by rw [Lex.esc_ext, HM.out.1]; simp
      have HML := Lib.hid hml
      clear hml
      go_wp2
      obtain ⟨G, hG⟩ : ∃ G, G = w.heap.size := ⟨_, rfl⟩
      obtain ⟨W0, hW0⟩ : ∃ W0, W0 = w.alloc (.cells (bufL M []).toArray 5) := ⟨_, rfl⟩
      rw [← hW0, ← hG]
      have I0 := Lib.hid (show BufAt G M [] W0 ∧ Below w.heap.size w W0 from by rw [hW0, hG]; exact ⟨bufAt_new w M, HBel.out.alloc HBel.out.size _⟩)
      have HGl := Lib.hid (show w.heap.size ≤ G by rw [hG]; exact HBel.out.size)
      clear hW0 hG hmk HBel
      go_loopg [13, 14] (s.size + 1) (fun gk s13 s14 wr => ∃ i j : Nat, s13 = .int .i64 j ∧ s14 = .int .i64 i ∧ i ≤ s.size ∧ j ≤ M ∧ s.size - i < gk ∧ Hid (∃ x, x = Lex.esc (s.data.toList.take i) ∧ x.length = j ∧ BufAt G M x wr ∧ Below w.heap.size w wr))
      case atStart => exact ⟨0, 0, rfl, rfl, Nat.zero_le _, Nat.zero_le _, by omega, Lib.hid ⟨[], rfl, rfl, I0.out.1, I0.out.2⟩⟩
      case round =>
        obtain ⟨i, j, rfl, rfl, hi, hj, hg, I⟩ := hrel
        by_cases hlt : i < s.size
        · have hiz : (i : Int) < (s.size : Int) := by omega
          obtain ⟨x, hx, hxl, hB, hb⟩ := I.out
          have hsee := (HS.out).keep hb
          have hcl : s[i].toNat < 256 := UInt8.toNat_lt _
          have hlen := Lex.esc_take_le s.data.toList (i + 1)
          rw [Lex.esc_more hlt, HML.out, List.length_append, ← hx, hxl] at hlen
          have hmore := Lex.esc_more hlt
          rw [← hx] at hmore
          by_cases hc : s[i].toNat = 34 ∨ s[i].toNat = 92
          · obtain ⟨r, cc, hf, h2⟩ := hsee.want _ hc
            have kc := hsee.byte s[i]
            rw [hf] at kc
            rw [if_pos hc] at hlen hmore
            have hj2 : j + 2 ≤ M := by simpa using hlen
            have hsn := some_ne ⟨r, 0, none⟩ 2 cc
            obtain ⟨W2, hcp, hB2, hb2⟩ := hB.drew.copy (by omega) r cc 92 s[i] h2
            rw [hxl] at hcp
            have kd : wr.drew.cell? ⟨B, s[i].toNat, none⟩ = some (.slice (some ⟨r, 0, none⟩) 2 cc) := kc
            have I2 : Hid (∃ x, x = Lex.esc (s.data.toList.take (i + 1)) ∧ x.length = j + 2 ∧ BufAt G M x W2 ∧ Below w.heap.size w W2) :=
              Lib.hid ⟨x ++ [92, s[i]], hmore.symm, by rw [List.length_append, hxl]; rfl, hB2, (hb.drew).trans (hb2 _ HGl.out)⟩
            have hjz : (j : Int) + 2 ≤ (M : Int) := by omega
            have hjm : (j : Int) ≤ (M : Int) := by omega
            clear hx hxl hB hb hsee hlen hmore hc hf h2 hB2 hb2 I
            go_wp2_with fail
            go_region
            go_wp2
            go_roundg (s.size - i)
            case measure => omega
            case rel => exact ⟨i + 1, j + 2, by go_num, by go_num, by omega, by omega, by omega, I2⟩
          · have kc := hsee.byte s[i]
            rw [hsee.leave _ hc] at kc
            rw [if_neg hc] at hlen hmore
            have hj2 : j + 1 ≤ M := by simpa using hlen
            have hnn := nil_ne
            have hput := hB.put (by omega) s[i]
            have hat := hB.at_ j (by omega)
            have hfr := hB.fr j
            rw [hxl] at hput
            obtain ⟨u, hu⟩ := hat
            have I2 : Hid (∃ x, x = Lex.esc (s.data.toList.take (i + 1)) ∧ x.length = j + 1 ∧ BufAt G M x (wr.setCell ⟨G, j, none⟩ (.int .u8 (s[i].toNat : Int))) ∧ Below w.heap.size w (wr.setCell ⟨G, j, none⟩ (.int .u8 (s[i].toNat : Int)))) :=
              Lib.hid ⟨x ++ [s[i]], hmore.symm, by rw [List.length_append, hxl]; rfl, hput, hb.setCell (p := ⟨G, j, none⟩) HGl.out _⟩
            have hjz : (j : Int) < (M : Int) := by omega
            clear hx hxl hB hb hsee hlen hmore hc hput I
            go_wp2
            go_roundg (s.size - i)
            case measure => omega
            case rel => exact ⟨i + 1, j + 1, by go_num, by go_num, by omega, by omega, by omega, I2⟩
        · obtain rfl : i = s.size := by omega
          have hiz : ¬ (s.size : Int) < (s.size : Int) := by omega
          obtain ⟨x, hx, hxl, hB, hb⟩ := I.out
          rw [List.take_of_length_le (by simp)] at hx
          have hjM : x.length = M := by rw [hx, HML.out]
          rw [← hjM] at hB
          have hcv := string_of hB.bytes
          rw [hjM] at hcv
          have E := Lib.hid hx
          have Hb := Lib.hid hb
          clear hx hxl hB hb hjM I
          go_wp2
          go_ret
          have hE := E.out
          subst hE
          exact ⟨rfl, Hb.out⟩
set_option maxHeartbeats 8000000 in
set_option maxRecDepth 100000 in
theorem repl_many (B T : Nat) (f : Nat → Value) (s : ByteArray) (w : World) (hs : 16 ≤ s.size) (hs2 : s.size ≤ 100000) (hR : RepSees B T f w) :
    Calls Tryz.prog 116 #[.pointer (some ⟨B, 0, none⟩), .string s] w fun e w' => e = .returned (.string ⟨(Lex.esc s.data.toList).toArray⟩) ∧ Below w.heap.size w w' := by
  have hsl : s.data.toList.length = s.size := by simp
  have k256 := hR.rep.last
  have HS := Lib.hid hR
  have hmany : (16 : Int) ≤ (s.size : Int) := by omega
  obtain ⟨a, ha⟩ : ∃ a, a = Lib.countByte s.data.toList 92 := ⟨_, rfl⟩
  obtain ⟨d, hd⟩ : ∃ d, d = Lib.countByte s.data.toList 34 := ⟨_, rfl⟩
  have hx : Lex.ext s.data.toList = a + d := by rw [Lex.ext_count, ha, hd]
  have hxl := Lex.ext_le s.data.toList
  rw [hsl] at hxl
  obtain ⟨S92, h92⟩ : ∃ S : ByteArray, S = ⟨#[92]⟩ := ⟨_, rfl⟩
  obtain ⟨S34, h34⟩ : ∃ S : ByteArray, S = ⟨#[34]⟩ := ⟨_, rfl⟩
  have hT := hR.strs
  rw [← h92, ← h34] at hT
  have HT := Lib.hid hT
  have K92 := Lib.hid (fun W => countOne_any s S92 92 W h92)
  have K34 := Lib.hid (fun W => countOne_any s S34 34 W h34)
  rw [← ha] at K92
  rw [← hd] at K34
  have z92 : S92.size = 1 := by rw [h92]; rfl
  have z34 : S34.size = 1 := by rw [h34]; rfl
  have b92 : S92[0].toNat = 92 := by subst h92; rfl
  have b34 : S34[0].toNat = 34 := by subst h34; rfl
  have HX := Lib.hid hx
  have hab : a + d ≤ 100000 := by omega
  clear hR ha hd hx hxl h92 h34 hT
  go_enter Tryz.func116, Tryz.ntmps116
  go_wp2
  go_loopg [5, 6, 32] 3 (fun gk s5 s6 s32 wr => ∃ (i M : Nat) (b : Bool), s32 = .int .i64 i ∧ s5 = .int .i64 M ∧ s6 = .bool b ∧ M ≤ 200000 ∧ 2 < gk + i ∧ i ≤ 2 ∧ Hid (M = s.size + (if 0 < i then a else 0) + (if 1 < i then d else 0) ∧ b = decide (0 < (if 0 < i then a else 0) + (if 1 < i then d else 0))) ∧ Hid (Below w.heap.size w wr))
  case atStart => exact ⟨0, s.size, false, rfl, rfl, rfl, by omega, by omega, by omega, Lib.hid ⟨rfl, rfl⟩, Lib.hid (Below.refl _ _)⟩
  case round =>
    obtain ⟨i, M, b, rfl, rfl, rfl, hM, hg, hi, HM, HBel⟩ := hrel
    by_cases hlt : i < 2
    · have ht := (HT.out.keep HBel.out.size (HBel.out.block T HT.out.1))
      have hrep := (HS.out.keep HBel.out)
      rcases (by omega : i = 0 ∨ i = 1) with rfl | rfl
      · obtain ⟨-, t0, -⟩ := ht
        obtain ⟨r, cc, hf, -⟩ := hrep.want 92 (.inr rfl)
        have kc : wr.cell? ⟨B, 92, none⟩ = some (.slice (some ⟨r, 0, none⟩) 2 cc) := (hrep.byte 92).trans (congrArg some hf)
        have kd : wr.drew.cell? ⟨B, 92, none⟩ = some (.slice (some ⟨r, 0, none⟩) 2 cc) := kc
        have hM0 : M = s.size := HM.out.1
        by_cases hz : a = 0
        · have I2 : Hid (M = s.size + (if 0 < 1 then a else 0) + (if 1 < 1 then d else 0) ∧ b = decide (0 < (if 0 < 1 then a else 0) + (if 1 < 1 then d else 0))) := Lib.hid (by rw [hz]; exact HM.out)
          have hzz : ((a : Int) != 0) = false := by simp [hz]
          clear hz HM hf hrep hM0
          go_wp2_with fail
          with_reducible refine (K92.out _).mono ?_
          rintro e w1 ⟨rfl, rfl⟩
          go_wp2
          go_roundg 2
          case measure => omega
          case rel => exact ⟨1, M, b, rfl, rfl, rfl, hM, by omega, by omega, I2, HBel⟩
        · have I2 : Hid (M + a = s.size + (if 0 < 1 then a else 0) + (if 1 < 1 then d else 0) ∧ true = decide (0 < (if 0 < 1 then a else 0) + (if 1 < 1 then d else 0))) := Lib.hid (by rw [hM0]; exact ⟨by simp, by simp; omega⟩)
          have hzz : ((a : Int) != 0) = true := by simp [hz]
          have hMa : M + a ≤ 200000 := by omega
          clear hz HM hf hrep hM0
          go_wp2_with fail
          with_reducible refine (K92.out _).mono ?_
          rintro e w1 ⟨rfl, rfl⟩
          go_wp2_with fail
          go_region
          go_wp2
          go_roundg 2
          case measure => omega
          case rel => exact ⟨1, M + a, true, rfl, by go_num, rfl, hMa, by omega, by omega, I2, Lib.hid HBel.out.drew⟩
      · obtain ⟨-, -, t0⟩ := ht
        obtain ⟨r, cc, hf, -⟩ := hrep.want 34 (.inl rfl)
        have kc : wr.cell? ⟨B, 34, none⟩ = some (.slice (some ⟨r, 0, none⟩) 2 cc) := (hrep.byte 34).trans (congrArg some hf)
        have kd : wr.drew.cell? ⟨B, 34, none⟩ = some (.slice (some ⟨r, 0, none⟩) 2 cc) := kc
        have hM0 : M = s.size + a := by simpa using HM.out.1
        have hb0 : b = decide (0 < a) := by simpa using HM.out.2
        by_cases hz : d = 0
        · have I2 : Hid (M = s.size + (if 0 < 2 then a else 0) + (if 1 < 2 then d else 0) ∧ b = decide (0 < (if 0 < 2 then a else 0) + (if 1 < 2 then d else 0))) := Lib.hid ⟨by simp; omega, by rw [hb0, hz]; simp⟩
          have hzz : ((d : Int) != 0) = false := by simp [hz]
          clear hz HM hf hrep hM0 hb0
          go_wp2_with fail
          with_reducible refine (K34.out _).mono ?_
          rintro e w1 ⟨rfl, rfl⟩
          go_wp2
          go_roundg 1
          case measure => omega
          case rel => exact ⟨2, M, b, rfl, rfl, rfl, hM, by omega, by omega, I2, HBel⟩
        · have I2 : Hid (M + d = s.size + (if 0 < 2 then a else 0) + (if 1 < 2 then d else 0) ∧ true = decide (0 < (if 0 < 2 then a else 0) + (if 1 < 2 then d else 0))) := Lib.hid ⟨by simp; omega, by simp; omega⟩
          have hzz : ((d : Int) != 0) = true := by simp [hz]
          have hMa : M + d ≤ 200000 := by omega
          clear hz HM hf hrep hM0 hb0
          go_wp2_with fail
          with_reducible refine (K34.out _).mono ?_
          rintro e w1 ⟨rfl, rfl⟩
          go_wp2_with fail
          go_region
          go_wp2
          go_roundg 1
          case measure => omega
          case rel => exact ⟨2, M + d, true, rfl, by go_num, rfl, hMa, by omega, by omega, I2, Lib.hid HBel.out.drew⟩
    obtain rfl : i = 2 := by omega
    replace HM : Hid (M = s.size + Lex.ext s.data.toList ∧ b = decide (0 < Lex.ext s.data.toList)) := Lib.hid (by rw [HX.out]; have := HM.out; simp at this; exact ⟨by omega, this.2⟩)

    -- what was counted is told
    cases b
    · have E : Hid ((⟨(Lex.esc s.data.toList).toArray⟩ : ByteArray) = s) := Lib.hid (by
        have h0 : Lex.ext s.data.toList = 0 := by have := HM.out.2; simpa using this
        rw [Lex.esc_same _ h0])
      have hbf : Hid (Below w.heap.size w wr) := HBel
      go_wp2
      go_ret
      exact ⟨congrArg (fun x => Ending.returned (.string x)) E.out.symm, hbf.out⟩
    · have hmk := make_bytes M (by omega)
      have hml : (Lex.esc s.data.toList).length = M := by rw [Lex.esc_ext, HM.out.1]; simp
      have HML := Lib.hid hml
      clear hml
      go_wp2
      obtain ⟨G, hG⟩ : ∃ G, G = wr.heap.size := ⟨_, rfl⟩
      obtain ⟨W0, hW0⟩ : ∃ W0, W0 = wr.alloc (.cells (bufL M []).toArray 5) := ⟨_, rfl⟩
      rw [← hW0, ← hG]
      have I0 := Lib.hid (show BufAt G M [] W0 ∧ Below w.heap.size w W0 from by rw [hW0, hG]; exact ⟨bufAt_new wr M, HBel.out.alloc HBel.out.size _⟩)
      have HGl := Lib.hid (show w.heap.size ≤ G by rw [hG]; exact HBel.out.size)
      clear hW0 hG hmk HBel
      go_loopg [13, 14] (s.size + 1) (fun gk s13 s14 wr => ∃ i j : Nat, s13 = .int .i64 j ∧ s14 = .int .i64 i ∧ i ≤ s.size ∧ j ≤ M ∧ s.size - i < gk ∧ Hid (∃ x, x = Lex.esc (s.data.toList.take i) ∧ x.length = j ∧ BufAt G M x wr ∧ Below w.heap.size w wr))
      case atStart => exact ⟨0, 0, rfl, rfl, Nat.zero_le _, Nat.zero_le _, by omega, Lib.hid ⟨[], rfl, rfl, I0.out.1, I0.out.2⟩⟩
      case round =>
        obtain ⟨i, j, rfl, rfl, hi, hj, hg, I⟩ := hrel
        by_cases hlt : i < s.size
        · have hiz : (i : Int) < (s.size : Int) := by omega
          obtain ⟨x, hx, hxl, hB, hb⟩ := I.out
          have hsee := (HS.out).keep hb
          have hcl : s[i].toNat < 256 := UInt8.toNat_lt _
          have hlen := Lex.esc_take_le s.data.toList (i + 1)
          rw [Lex.esc_more hlt, HML.out, List.length_append, ← hx, hxl] at hlen
          have hmore := Lex.esc_more hlt
          rw [← hx] at hmore
          by_cases hc : s[i].toNat = 34 ∨ s[i].toNat = 92
          · obtain ⟨r, cc, hf, h2⟩ := hsee.want _ hc
            have kc := hsee.byte s[i]
            rw [hf] at kc
            rw [if_pos hc] at hlen hmore
            have hj2 : j + 2 ≤ M := by simpa using hlen
            have hsn := some_ne ⟨r, 0, none⟩ 2 cc
            obtain ⟨W2, hcp, hB2, hb2⟩ := hB.drew.copy (by omega) r cc 92 s[i] h2
            rw [hxl] at hcp
            have kd : wr.drew.cell? ⟨B, s[i].toNat, none⟩ = some (.slice (some ⟨r, 0, none⟩) 2 cc) := kc
            have I2 : Hid (∃ x, x = Lex.esc (s.data.toList.take (i + 1)) ∧ x.length = j + 2 ∧ BufAt G M x W2 ∧ Below w.heap.size w W2) :=
              Lib.hid ⟨x ++ [92, s[i]], hmore.symm, by rw [List.length_append, hxl]; rfl, hB2, (hb.drew).trans (hb2 _ HGl.out)⟩
            have hjz : (j : Int) + 2 ≤ (M : Int) := by omega
            have hjm : (j : Int) ≤ (M : Int) := by omega
            clear hx hxl hB hb hsee hlen hmore hc hf h2 hB2 hb2 I
            go_wp2_with fail
            go_region
            go_wp2
            go_roundg (s.size - i)
            case measure => omega
            case rel => exact ⟨i + 1, j + 2, by go_num, by go_num, by omega, by omega, by omega, I2⟩
          · have kc := hsee.byte s[i]
            rw [hsee.leave _ hc] at kc
            rw [if_neg hc] at hlen hmore
            have hj2 : j + 1 ≤ M := by simpa using hlen
            have hnn := nil_ne
            have hput := hB.put (by omega) s[i]
            have hat := hB.at_ j (by omega)
            have hfr := hB.fr j
            rw [hxl] at hput
            obtain ⟨u, hu⟩ := hat
            have I2 : Hid (∃ x, x = Lex.esc (s.data.toList.take (i + 1)) ∧ x.length = j + 1 ∧ BufAt G M x (wr.setCell ⟨G, j, none⟩ (.int .u8 (s[i].toNat : Int))) ∧ Below w.heap.size w (wr.setCell ⟨G, j, none⟩ (.int .u8 (s[i].toNat : Int)))) :=
              Lib.hid ⟨x ++ [s[i]], hmore.symm, by rw [List.length_append, hxl]; rfl, hput, hb.setCell (p := ⟨G, j, none⟩) HGl.out _⟩
            have hjz : (j : Int) < (M : Int) := by omega
            clear hx hxl hB hb hsee hlen hmore hc hput I
            go_wp2
            go_roundg (s.size - i)
            case measure => omega
            case rel => exact ⟨i + 1, j + 1, by go_num, by go_num, by omega, by omega, by omega, I2⟩
        · obtain rfl : i = s.size := by omega
          have hiz : ¬ (s.size : Int) < (s.size : Int) := by omega
          obtain ⟨x, hx, hxl, hB, hb⟩ := I.out
          rw [List.take_of_length_le (by simp)] at hx
          have hjM : x.length = M := by rw [hx, HML.out]
          rw [← hjM] at hB
          have hcv := string_of hB.bytes
          rw [hjM] at hcv
          have E := Lib.hid hx
          have Hb := Lib.hid hb
          clear hx hxl hB hb hjM I
          go_wp2
          go_ret
          have hE := E.out
          subst hE
          exact ⟨rfl, Hb.out⟩
theorem repl_any (base B : Nat) (s : ByteArray) (w : World) (hs : s.size ≤ 100000) (hR : RepOk base B w) :
    Calls Tryz.prog 116 #[.pointer (some ⟨B, 0, none⟩), .string s] w fun e w' => e = .returned (.string ⟨(Lex.esc s.data.toList).toArray⟩) ∧ Below w.heap.size w w' := by
  obtain ⟨T, f, h⟩ := hR.sees
  rcases Nat.lt_or_ge s.size 16 with h16 | h16
  · exact repl_few B T f s w h16 h
  · exact repl_many B T f s w h16 hs h
end Go.Proofs.YtmcjgdajnppbhaaGreatDoor
