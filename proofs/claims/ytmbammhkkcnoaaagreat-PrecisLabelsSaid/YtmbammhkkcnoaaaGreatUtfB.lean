/-
  Proved here: the document's own 'one' and 'Runes': the character that bytes begin with, and all of them. Conditions: the string has at most 100,000 bytes.
  Proved here: the document's own 'Runes' reads the characters that bytes begin with, and tells the place behind them, or -1 at the end. Conditions: the string has at most 100,000 bytes.
  Proved here: the head of the laws of layer 2 comes out true. Conditions: none.
  Proved here: small facts on strings and their characters: what is read of what was written; bytes that are all below 80. Conditions: as they stand in each.
  Proved here: the statement UtfWrites, as a call: it answers true at every slice of numbers and every number. Conditions: the slice can be read.
  Proved here: the statement UtfOrder, as a call: it answers true at every two numbers. Conditions: none.
  Proved here: the statement UtfBack, as a call: it answers true at every slice of numbers and every string. Conditions: the slice can be read.
  Proved here: the statement UtfParts, as a call: it answers true at every slice of numbers and every string. Conditions: the slice can be read.
  Proved here: the statement UtfReads, as a call: it answers true at every string. Conditions: none beyond that the string has a length.
-/
import Derived.Test.YtmbammhkkcnoaaaGreatUtfA
import Derived.Deep.RegionWith
import Derived.Deep.RegionHeld3
import Derived.StillTailTactics
import Derived.Test.YtmbammhkkcnoaaaGreatUtfRow
namespace Go.Proofs.YtmbammhkkcnoaaaGreat
open Go.RowKit Utf
namespace Utf
/-- What the document's answer tells. -/
def oneOf (s : List UInt8) : Int × Int := match dec s with | some (r, n) => ((r : Int), (n : Int)) | none => (0, 0)
end Utf
theorem w32 {x : Int} (h0 : 0 ≤ x) (h1 : x < 2147483648) : wrap32 x = x := by simp only [wrap32]; omega
theorem t32 {b m : Nat} : ((b : Int)).tmod (m : Int) = ((b % m : Nat) : Int) := by rw [Int.tmod_eq_emod_of_nonneg (by omega)]; omega
theorem t8 (b m : Nat) (hb : b < 256) : (wrap32 (b : Int)).tmod (m : Int) = ((b % m : Nat) : Int) := by rw [w32 (by omega) (by omega)]; exact t32
theorem val2 (b c : Nat) (hb : b < 256) (hc : c < 256) : wrap32 (wrap32 ((wrap32 (b : Int)).tmod 32 * 64) + (wrap32 (c : Int)).tmod 64) = ((b % 32 * 64 + c % 64 : Nat) : Int) := by
  have eb := t8 b 32 hb
  have ec := t8 c 64 hc
  have lb : b % 32 < 32 := Nat.mod_lt _ (by decide)
  have lc : c % 64 < 64 := Nat.mod_lt _ (by decide)
  rw [show (32 : Int) = ((32 : Nat) : Int) from rfl, eb, show (64 : Int) = ((64 : Nat) : Int) from rfl, ec]
  generalize b % 32 = x at lb ⊢
  generalize c % 64 = y at lc ⊢
  rw [w32 (x := (x : Int) * ((64 : Nat) : Int)) (by omega) (by omega), w32 (by omega) (by omega)]
  omega
theorem val3 (b c d : Nat) (hb : b < 256) (hc : c < 256) (hd : d < 256) : wrap32 (wrap32 (wrap32 ((wrap32 (b : Int)).tmod 16 * 4096) + wrap32 ((wrap32 (c : Int)).tmod 64 * 64)) + (wrap32 (d : Int)).tmod 64) = ((b % 16 * 4096 + c % 64 * 64 + d % 64 : Nat) : Int) := by
  have eb := t8 b 16 hb
  have ec := t8 c 64 hc
  have ed := t8 d 64 hd
  have lb : b % 16 < 16 := Nat.mod_lt _ (by decide)
  have lc : c % 64 < 64 := Nat.mod_lt _ (by decide)
  have ld : d % 64 < 64 := Nat.mod_lt _ (by decide)
  rw [show (16 : Int) = ((16 : Nat) : Int) from rfl, eb, show (64 : Int) = ((64 : Nat) : Int) from rfl, ec, ed]
  generalize b % 16 = x at lb ⊢
  generalize c % 64 = y at lc ⊢
  generalize d % 64 = z at ld ⊢
  rw [w32 (x := (x : Int) * 4096) (by omega) (by omega), w32 (x := (y : Int) * ((64 : Nat) : Int)) (by omega) (by omega), w32 (x := (x : Int) * 4096 + (y : Int) * ((64 : Nat) : Int)) (by omega) (by omega), w32 (by omega) (by omega)]
  omega
theorem val4 (b c d e : Nat) (hb : b < 256) (hc : c < 256) (hd : d < 256) (he : e < 256) : wrap32 (wrap32 (wrap32 (wrap32 ((wrap32 (b : Int)).tmod 8 * 262144) + wrap32 ((wrap32 (c : Int)).tmod 64 * 4096)) + wrap32 ((wrap32 (d : Int)).tmod 64 * 64)) + (wrap32 (e : Int)).tmod 64) = ((b % 8 * 262144 + c % 64 * 4096 + d % 64 * 64 + e % 64 : Nat) : Int) := by
  have eb := t8 b 8 hb
  have ec := t8 c 64 hc
  have ed := t8 d 64 hd
  have ee := t8 e 64 he
  have lb : b % 8 < 8 := Nat.mod_lt _ (by decide)
  have lc : c % 64 < 64 := Nat.mod_lt _ (by decide)
  have ld : d % 64 < 64 := Nat.mod_lt _ (by decide)
  have le : e % 64 < 64 := Nat.mod_lt _ (by decide)
  rw [show (8 : Int) = ((8 : Nat) : Int) from rfl, eb, show (64 : Int) = ((64 : Nat) : Int) from rfl, ec, ed, ee]
  generalize b % 8 = x at lb ⊢
  generalize c % 64 = y at lc ⊢
  generalize d % 64 = z at ld ⊢
  generalize e % 64 = u at le ⊢
  rw [w32 (x := (x : Int) * 262144) (by omega) (by omega), w32 (x := (y : Int) * 4096) (by omega) (by omega), w32 (x := (z : Int) * ((64 : Nat) : Int)) (by omega) (by omega), w32 (x := (x : Int) * 262144 + (y : Int) * 4096) (by omega) (by omega), w32 (x := (x : Int) * 262144 + (y : Int) * 4096 + (z : Int) * ((64 : Nat) : Int)) (by omega) (by omega), w32 (by omega) (by omega)]
  omega
theorem at_list {s : ByteArray} {L : List UInt8} (h : s.data.toList = L) (i : Nat) (hi : i < s.size) : L[i]? = some s[i] := by
  subst h
  rw [List.getElem?_eq_getElem (by simpa using hi)]
  rfl
theorem val_is1 (s : ByteArray) (h0 : 0 < s.size) {r : Nat} {t : List UInt8} (hs : s.data.toList = enc r ++ t) (hl : (enc r).length = 1) : s[0].toNat = r := by
  rw [enc_length] at hl
  have hb := (lenOf_iff r).1.1 hl
  unfold enc at hs
  rw [if_pos hb] at hs
  have e0 := at_list hs 0 h0
  simp only [List.cons_append, List.getElem?_cons_zero, Option.some.injEq] at e0
  rw [← e0, u_toNat (by omega)]
theorem val_is2 (s : ByteArray) (h0 : 0 < s.size) (h1 : 1 < s.size) {r : Nat} {t : List UInt8} (hs : s.data.toList = enc r ++ t) (hl : (enc r).length = 2) : s[0].toNat % 32 * 64 + s[1].toNat % 64 = r := by
  rw [enc_length] at hl
  have hb := (lenOf_iff r).2.1.1 hl
  unfold enc at hs
  rw [if_neg (by omega), if_pos (by omega)] at hs
  have e0 := at_list hs 0 h0
  have e1 := at_list hs 1 h1
  simp only [List.cons_append, List.getElem?_cons_zero, List.getElem?_cons_succ, Option.some.injEq] at e0 e1
  rw [← e0, ← e1, u_toNat (by omega), u_toNat (by omega)]
  omega
theorem val_is3 (s : ByteArray) (h0 : 0 < s.size) (h1 : 1 < s.size) (h2 : 2 < s.size) {r : Nat} {t : List UInt8} (hs : s.data.toList = enc r ++ t) (hl : (enc r).length = 3) : s[0].toNat % 16 * 4096 + s[1].toNat % 64 * 64 + s[2].toNat % 64 = r := by
  rw [enc_length] at hl
  have hb := (lenOf_iff r).2.2.1.1 hl
  unfold enc at hs
  rw [if_neg (by omega), if_neg (by omega), if_pos (by omega)] at hs
  have e0 := at_list hs 0 h0
  have e1 := at_list hs 1 h1
  have e2 := at_list hs 2 h2
  simp only [List.cons_append, List.getElem?_cons_zero, List.getElem?_cons_succ, Option.some.injEq] at e0 e1 e2
  rw [← e0, ← e1, ← e2, u_toNat (by omega), u_toNat (by omega), u_toNat (by omega)]
  omega
theorem val_is4 (s : ByteArray) (h0 : 0 < s.size) (h1 : 1 < s.size) (h2 : 2 < s.size) (h3 : 3 < s.size) {r : Nat} {t : List UInt8} (hs : s.data.toList = enc r ++ t) (hr : right r = true) (hl : (enc r).length = 4) : s[0].toNat % 8 * 262144 + s[1].toNat % 64 * 4096 + s[2].toNat % 64 * 64 + s[3].toNat % 64 = r := by
  rw [enc_length] at hl
  have hb := (lenOf_iff r).2.2.2.1 hl
  have hr' := (right_iff r).1 hr
  unfold enc at hs
  rw [if_neg (by omega), if_neg (by omega), if_neg (by omega)] at hs
  have e0 := at_list hs 0 h0
  have e1 := at_list hs 1 h1
  have e2 := at_list hs 2 h2
  have e3 := at_list hs 3 h3
  simp only [List.cons_append, List.getElem?_cons_zero, List.getElem?_cons_succ, Option.some.injEq] at e0 e1 e2 e3
  rw [← e0, ← e1, ← e2, ← e3, u_toNat (by omega), u_toNat (by omega), u_toNat (by omega), u_toNat (by omega)]
  omega
theorem hit {s : ByteArray} {v n : Nat} (hn : 1 ≤ n) (hl : lenZ (v : Int) = n) (he : (enc v == (s.extract 0 n).toList) = true) : oneOf s.data.toList = ((v : Int), (n : Int)) := by
  have h1 := (lenZ_is v n hn).1 hl
  rw [beq_iff_eq, ByteArray.toList_eq, ByteArray.data_extract, Array.toList_extract, List.extract_eq_take_drop, List.drop_zero, Nat.sub_zero] at he
  have h2 := dec_enc v h1.1 (s.data.toList.drop n)
  rw [he, List.take_append_drop, ← he, enc_length, h1.2] at h2
  unfold oneOf
  rw [h2]
/-- No character of fewer than n bytes stands first. -/
def NoLess (s : List UInt8) (n : Nat) : Prop := ∀ r m, dec s = some (r, m) → n ≤ m
theorem NoLess.next {s : ByteArray} {n v : Nat} (h : NoLess s.data.toList n) (hv : ∀ r t, s.data.toList = enc r ++ t → right r = true → (enc r).length = n → v = r) (hn : 1 ≤ n)
    (hno : lenZ (v : Int) = n → (enc v == (s.extract 0 n).toList) = false) : NoLess s.data.toList (n + 1) := by
  intro r m hd
  have h1 := h r m hd
  obtain ⟨h2, h3, h4⟩ := dec_sound hd
  rcases (show n + 1 ≤ m ∨ n = m by omega) with h5 | rfl
  · exact h5
  · obtain rfl := hv r _ h4 h2 h3.symm
    have h6 := hno ((lenZ_is v n hn).2 ⟨h2, by rw [← enc_length]; exact h3.symm⟩)
    have h7 : enc v = (s.extract 0 n).toList := by
      rw [ByteArray.toList_eq, ByteArray.data_extract, Array.toList_extract, List.extract_eq_take_drop, List.drop_zero, Nat.sub_zero]
      have := congrArg (List.take n) h4
      rw [h3, List.take_left', ← h3] at this
      · exact this.symm
      · rfl
    rw [h7, beq_self_eq_true] at h6
    cases h6
theorem NoLess.none {s : List UInt8} {n : Nat} (h : NoLess s n) (hn : n = 5 ∨ s.length < n) : oneOf s = (0, 0) := by
  unfold oneOf
  cases hd : dec s with
  | none => rfl
  | some p =>
    obtain ⟨r, m⟩ := p
    have h1 := h r m hd
    obtain ⟨h2, h3, h4⟩ := dec_sound hd
    have h5 := enc_le r
    have h6 := congrArg List.length h4
    rw [List.length_append] at h6
    omega
def OnePost (s : List UInt8) (w : World) (e : Ending) (w' : World) : Prop := e = .returned (.tuple #[.int .i32 (oneOf s).1, .int .i64 (oneOf s).2]) ∧ Below w.heap.size w w'
theorem quiet_here {P : Program} {f : FuncId} {args : Array Value} {w : World} {n : Nat} {v : Value} (h : Calls P f args (w.drewN n) fun e w' => e = .returned v ∧ w.drewN n = w') :
    Calls P f args (w.drewN n) fun e w' => e = .returned v ∧ ∃ m, w' = w.drewN m := h.mono fun _ _ ⟨he, hw⟩ => ⟨he, n, hw.symm⟩
theorem lenZ_right {r : Int} (h : 1 ≤ lenZ r) : rightZ r = true := by
  unfold lenZ at h
  cases e : rightZ r with
  | true => rfl
  | false => rw [e] at h; simp at h
set_option maxHeartbeats 8000000 in
set_option maxRecDepth 100000 in
theorem refOne_any (s : ByteArray) (w : World) (hs : s.size ≤ 100000) : Calls Tryz.prog 62 #[.string s] w (OnePost s.data.toList w) := by
  go_enter Tryz.func62, Tryz.ntmps62
  go_wp2
  go_loopg [4] 6 (fun gk i wr => ∃ n : Nat, 1 ≤ n ∧ n ≤ 5 ∧ i = .int .i64 n ∧ 5 - n < gk ∧ Hid (NoLess s.data.toList n ∧ Below w.heap.size w wr))
  case atStart => exact ⟨1, by omega, by omega, rfl, by omega, ⟨fun r m h => (by have := enc_pos r; have := (dec_sound h).2.1; omega), Below.refl _ _⟩⟩
  case round =>
    obtain ⟨n, hn1, hn5, rfl, hg, I⟩ := hrel
    by_cases hin : n ≤ 4 ∧ n ≤ s.size
    · obtain ⟨hn4, hz⟩ := hin
      rcases (show n = 1 ∨ n = 2 ∨ n = 3 ∨ n = 4 by omega) with rfl | rfl | rfl | rfl
      · have hz0 : 0 < s.size := by omega
        have q0 : (0 : Int) < (s.size : Int) := by omega
        have qq : (1 : Int) ≤ (s.size : Int) := by omega
        have hvi : ∀ r t, s.data.toList = enc r ++ t → right r = true → (enc r).length = 1 → s[0].toNat = r := fun r t h1 _ h3 => val_is1 s hz0 h1 h3
        have hw1 : wrap32 (s[0].toNat : Int) = (s[0].toNat : Int) := w32 (by omega) (by have := lt256 s[0]; omega)
        go_wp2
        rw [hw1]
        obtain ⟨wq, hwq⟩ : ∃ wq, wq = wr := ⟨_, rfl⟩
        rw [← hwq]
        have hbq : Below w.heap.size w wq := hwq ▸ I.out.2
        clear hwq hw1
        generalize s[0].toNat = v at hvi ⊢
        have HV := Lib.hid hvi
        have HQ := Lib.hid hbq
        have II := Lib.hid I.out.1
        clear hvi hbq I
        have hL := fun W => refLen_any (v : Int) W
        by_cases hln : lenZ (v : Int) = 1
        · have hB := fun W => refBytes_any (v : Int) W (lenZ_right (by omega))
          rw [hln] at hL
          have HL := Lib.hid hL
          have HB := Lib.hid hB
          have HN := Lib.hid hln
          clear hL hB hln
          go_region_with (first | (go_at_call 102; ((with_reducible refine (HL.out _).mono ?_); rintro e w3 ⟨rfl, rfl⟩)) | (go_at_call 97; (with_reducible refine (HB.out _).mono ?_); rintro e w2 ⟨v2, rfl, hs2, hb2⟩; have hcv := string_of hs2; have HB2 := Lib.hid hb2; clear hs2 hb2))
          go_wp2
          · have ht : (enc v == (s.extract 0 1).toList) = true := by assumption
            go_ret2
            exact ⟨by rw [hit (n := 1) (by omega) HN.out ht]; rfl, HQ.out.drew.trans (HB2.out.mono HQ.out.size)⟩
          · have ht : (enc v == (s.extract 0 1).toList) = false := by assumption
            go_roundg 4
            case measure => omega
            case rel => exact ⟨2, by omega, by omega, rfl, by omega, ⟨II.out.next HV.out (by omega) fun _ => ht, HQ.out.drew.trans (HB2.out.mono HQ.out.size)⟩⟩
        · have hne : ((lenZ (v : Int) : Int) == 1) = false := by simpa using (by omega : ¬ (lenZ (v : Int) : Int) = 1)
          have HL := Lib.hid hL
          have HN := Lib.hid hln
          clear hL hln
          go_quiet ((go_at_call 102; with_reducible exact quiet_here (HL.out _)))
          go_wp2
          go_roundg 4
          case measure => omega
          case rel => exact ⟨2, by omega, by omega, rfl, by omega, ⟨II.out.next HV.out (by omega) fun h => absurd h HN.out, below_drewN HQ.out _⟩⟩
      · have hz0 : 0 < s.size := by omega
        have hz1 : 1 < s.size := by omega
        have q0 : (0 : Int) < (s.size : Int) := by omega
        have q1 : (1 : Int) < (s.size : Int) := by omega
        have qq : (2 : Int) ≤ (s.size : Int) := by omega
        have hvi : ∀ r t, s.data.toList = enc r ++ t → right r = true → (enc r).length = 2 → s[0].toNat % 32 * 64 + s[1].toNat % 64 = r := fun r t h1 _ h3 => val_is2 s hz0 hz1 h1 h3
        go_wp2
        go_quiet (fail)
        go_wp2
        rw [val2 _ _ (lt256 _) (lt256 _)]
        generalize hwq : World.drewN wr _ = wq
        have hbq : Below w.heap.size w wq := hwq ▸ below_drewN I.out.2 _
        clear hwq
        generalize s[0].toNat % 32 * 64 + s[1].toNat % 64 = v at hvi ⊢
        have HV := Lib.hid hvi
        have HQ := Lib.hid hbq
        have II := Lib.hid I.out.1
        clear hvi hbq I
        have hL := fun W => refLen_any (v : Int) W
        by_cases hln : lenZ (v : Int) = 2
        · have hB := fun W => refBytes_any (v : Int) W (lenZ_right (by omega))
          rw [hln] at hL
          have HL := Lib.hid hL
          have HB := Lib.hid hB
          have HN := Lib.hid hln
          clear hL hB hln
          go_region_with (first | (go_at_call 102; ((with_reducible refine (HL.out _).mono ?_); rintro e w3 ⟨rfl, rfl⟩)) | (go_at_call 97; (with_reducible refine (HB.out _).mono ?_); rintro e w2 ⟨v2, rfl, hs2, hb2⟩; have hcv := string_of hs2; have HB2 := Lib.hid hb2; clear hs2 hb2))
          go_wp2
          · have ht : (enc v == (s.extract 0 2).toList) = true := by assumption
            go_ret2
            exact ⟨by rw [hit (n := 2) (by omega) HN.out ht]; rfl, HQ.out.drew.trans (HB2.out.mono HQ.out.size)⟩
          · have ht : (enc v == (s.extract 0 2).toList) = false := by assumption
            go_roundg 3
            case measure => omega
            case rel => exact ⟨3, by omega, by omega, rfl, by omega, ⟨II.out.next HV.out (by omega) fun _ => ht, HQ.out.drew.trans (HB2.out.mono HQ.out.size)⟩⟩
        · have hne : ((lenZ (v : Int) : Int) == 2) = false := by simpa using (by omega : ¬ (lenZ (v : Int) : Int) = 2)
          have HL := Lib.hid hL
          have HN := Lib.hid hln
          clear hL hln
          go_quiet ((go_at_call 102; with_reducible exact quiet_here (HL.out _)))
          go_wp2
          go_roundg 3
          case measure => omega
          case rel => exact ⟨3, by omega, by omega, rfl, by omega, ⟨II.out.next HV.out (by omega) fun h => absurd h HN.out, below_drewN HQ.out _⟩⟩
      · have hz0 : 0 < s.size := by omega
        have hz1 : 1 < s.size := by omega
        have hz2 : 2 < s.size := by omega
        have q0 : (0 : Int) < (s.size : Int) := by omega
        have q1 : (1 : Int) < (s.size : Int) := by omega
        have q2 : (2 : Int) < (s.size : Int) := by omega
        have qq : (3 : Int) ≤ (s.size : Int) := by omega
        have hvi : ∀ r t, s.data.toList = enc r ++ t → right r = true → (enc r).length = 3 → s[0].toNat % 16 * 4096 + s[1].toNat % 64 * 64 + s[2].toNat % 64 = r := fun r t h1 _ h3 => val_is3 s hz0 hz1 hz2 h1 h3
        go_wp2
        go_quiet (fail)
        go_wp2
        rw [val3 _ _ _ (lt256 _) (lt256 _) (lt256 _)]
        generalize hwq : World.drewN wr _ = wq
        have hbq : Below w.heap.size w wq := hwq ▸ below_drewN I.out.2 _
        clear hwq
        generalize s[0].toNat % 16 * 4096 + s[1].toNat % 64 * 64 + s[2].toNat % 64 = v at hvi ⊢
        have HV := Lib.hid hvi
        have HQ := Lib.hid hbq
        have II := Lib.hid I.out.1
        clear hvi hbq I
        have hL := fun W => refLen_any (v : Int) W
        by_cases hln : lenZ (v : Int) = 3
        · have hB := fun W => refBytes_any (v : Int) W (lenZ_right (by omega))
          rw [hln] at hL
          have HL := Lib.hid hL
          have HB := Lib.hid hB
          have HN := Lib.hid hln
          clear hL hB hln
          go_region_with (first | (go_at_call 102; ((with_reducible refine (HL.out _).mono ?_); rintro e w3 ⟨rfl, rfl⟩)) | (go_at_call 97; (with_reducible refine (HB.out _).mono ?_); rintro e w2 ⟨v2, rfl, hs2, hb2⟩; have hcv := string_of hs2; have HB2 := Lib.hid hb2; clear hs2 hb2))
          go_wp2
          · have ht : (enc v == (s.extract 0 3).toList) = true := by assumption
            go_ret2
            exact ⟨by rw [hit (n := 3) (by omega) HN.out ht]; rfl, HQ.out.drew.trans (HB2.out.mono HQ.out.size)⟩
          · have ht : (enc v == (s.extract 0 3).toList) = false := by assumption
            go_roundg 2
            case measure => omega
            case rel => exact ⟨4, by omega, by omega, rfl, by omega, ⟨II.out.next HV.out (by omega) fun _ => ht, HQ.out.drew.trans (HB2.out.mono HQ.out.size)⟩⟩
        · have hne : ((lenZ (v : Int) : Int) == 3) = false := by simpa using (by omega : ¬ (lenZ (v : Int) : Int) = 3)
          have HL := Lib.hid hL
          have HN := Lib.hid hln
          clear hL hln
          go_quiet ((go_at_call 102; with_reducible exact quiet_here (HL.out _)))
          go_wp2
          go_roundg 2
          case measure => omega
          case rel => exact ⟨4, by omega, by omega, rfl, by omega, ⟨II.out.next HV.out (by omega) fun h => absurd h HN.out, below_drewN HQ.out _⟩⟩
      · have hz0 : 0 < s.size := by omega
        have hz1 : 1 < s.size := by omega
        have hz2 : 2 < s.size := by omega
        have hz3 : 3 < s.size := by omega
        have q0 : (0 : Int) < (s.size : Int) := by omega
        have q1 : (1 : Int) < (s.size : Int) := by omega
        have q2 : (2 : Int) < (s.size : Int) := by omega
        have q3 : (3 : Int) < (s.size : Int) := by omega
        have qq : (4 : Int) ≤ (s.size : Int) := by omega
        have hvi : ∀ r t, s.data.toList = enc r ++ t → right r = true → (enc r).length = 4 → s[0].toNat % 8 * 262144 + s[1].toNat % 64 * 4096 + s[2].toNat % 64 * 64 + s[3].toNat % 64 = r := fun r t h1 h2 h3 => val_is4 s hz0 hz1 hz2 hz3 h1 h2 h3
        go_wp2
        go_quiet (fail)
        go_wp2
        rw [val4 _ _ _ _ (lt256 _) (lt256 _) (lt256 _) (lt256 _)]
        generalize hwq : World.drewN wr _ = wq
        have hbq : Below w.heap.size w wq := hwq ▸ below_drewN I.out.2 _
        clear hwq
        generalize s[0].toNat % 8 * 262144 + s[1].toNat % 64 * 4096 + s[2].toNat % 64 * 64 + s[3].toNat % 64 = v at hvi ⊢
        have HV := Lib.hid hvi
        have HQ := Lib.hid hbq
        have II := Lib.hid I.out.1
        clear hvi hbq I
        have hL := fun W => refLen_any (v : Int) W
        by_cases hln : lenZ (v : Int) = 4
        · have hB := fun W => refBytes_any (v : Int) W (lenZ_right (by omega))
          rw [hln] at hL
          have HL := Lib.hid hL
          have HB := Lib.hid hB
          have HN := Lib.hid hln
          clear hL hB hln
          go_region_with (first | (go_at_call 102; ((with_reducible refine (HL.out _).mono ?_); rintro e w3 ⟨rfl, rfl⟩)) | (go_at_call 97; (with_reducible refine (HB.out _).mono ?_); rintro e w2 ⟨v2, rfl, hs2, hb2⟩; have hcv := string_of hs2; have HB2 := Lib.hid hb2; clear hs2 hb2))
          go_wp2
          · have ht : (enc v == (s.extract 0 4).toList) = true := by assumption
            go_ret2
            exact ⟨by rw [hit (n := 4) (by omega) HN.out ht]; rfl, HQ.out.drew.trans (HB2.out.mono HQ.out.size)⟩
          · have ht : (enc v == (s.extract 0 4).toList) = false := by assumption
            go_roundg 1
            case measure => omega
            case rel => exact ⟨5, by omega, by omega, rfl, by omega, ⟨II.out.next HV.out (by omega) fun _ => ht, HQ.out.drew.trans (HB2.out.mono HQ.out.size)⟩⟩
        · have hne : ((lenZ (v : Int) : Int) == 4) = false := by simpa using (by omega : ¬ (lenZ (v : Int) : Int) = 4)
          have HL := Lib.hid hL
          have HN := Lib.hid hln
          clear hL hln
          go_quiet ((go_at_call 102; with_reducible exact quiet_here (HL.out _)))
          go_wp2
          go_roundg 1
          case measure => omega
          case rel => exact ⟨5, by omega, by omega, rfl, by omega, ⟨II.out.next HV.out (by omega) fun h => absurd h HN.out, below_drewN HQ.out _⟩⟩
    · have hno := I.out.1.none (show n = 5 ∨ s.data.toList.length < n by simp; omega)
      have HNO := Lib.hid hno
      clear hno
      by_cases h4 : n ≤ 4
      · have h5 : (s.size : Int) < (n : Int) := by omega
        go_wp2
        go_ret2
        exact ⟨by rw [HNO.out]; rfl, I.out.2⟩
      · have h5 : (4 : Int) < (n : Int) := by omega
        go_wp2
        go_ret2
        exact ⟨by rw [HNO.out]; rfl, I.out.2⟩
end Go.Proofs.YtmbammhkkcnoaaaGreat
namespace Go.Proofs.YtmbammhkkcnoaaaGreat
open Go.RowKit Utf
theorem rest_of (s : ByteArray) (k : Nat) (hk : k ≤ s.size) : (s.extract k s.size).data.toList = s.data.toList.drop k ∧ (s.extract k s.size).size ≤ s.size := by
  have e : (s.extract k s.size).data.toList = s.data.toList.drop k := by
    rw [ByteArray.data_extract, Array.toList_extract, List.extract_eq_take_drop, List.take_of_length_le]
    simp
  refine ⟨e, ?_⟩
  have := congrArg List.length e
  rw [List.length_drop] at this
  simp only [Array.length_toList, ByteArray.size_data] at this
  omega
set_option maxHeartbeats 4000000 in
set_option maxRecDepth 100000 in
theorem refRunes_any (s : ByteArray) (w : World) (hs : s.size ≤ 100000) : Calls Tryz.prog 29 #[.string s] w (RunesPost s.data.toList w) := by
  go_enter Tryz.func29, Tryz.ntmps29
  go_wp2
  go_loopg [4, 5] (s.size + 1) (fun gk v i wr => ∃ (l : List Nat) (k : Nat), k ≤ s.size ∧ i = .int .i64 k ∧ s.size - k < gk ∧ Hid (ReadTo s.data.toList l k ∧ OwnR w.heap.size v (ints l) wr ∧ Below w.heap.size w wr))
  case atStart => exact ⟨[], 0, Nat.zero_le _, rfl, by omega, ⟨ReadTo.nil _, OwnR.nil _ _, Below.refl _ _⟩⟩
  case round =>
    obtain ⟨l, k, hk, rfl, hg, I⟩ := hrel
    by_cases hlt : k < s.size
    · obtain ⟨hrl, hrs⟩ := rest_of s k hk
      have hO := refOne_any (s.extract k s.size) wr (by omega)
      unfold OnePost at hO
      rw [hrl] at hO
      unfold oneOf at hO
      cases hd : dec (s.data.toList.drop k) with
      | none =>
        rw [hd] at hO
        have HD := Lib.hid hd
        clear hd hrl hrs
        simp only at hO
        go_wp2_with (go_at_call 62; ((with_reducible refine hO.mono ?_); rintro e w2 ⟨rfl, hb2⟩; have HB := Lib.hid hb2; clear hb2))
        go_ret2
        have hr := I.out.1.stop HD.out (by simpa using hlt)
        exact ⟨u4, by rw [hr]; rfl, by rw [hr]; exact (I.out.2.1.keep HB.out).runes, I.out.2.2.trans (HB.out.mono I.out.2.2.size)⟩
      | some p =>
        obtain ⟨r, n⟩ := p
        rw [hd] at hO
        have hnx := I.out.1.next hd
        have hkn : k + n ≤ s.size := by have := hnx.1.2.2; simpa using this
        have HX := Lib.hid hnx
        have hn0 : ((n : Int) == 0) = false := by simpa using (by omega : ¬ n = 0)
        have hn1 : 1 ≤ n := hnx.2
        have hll : (ints l).length ≤ 1000000 := by have := I.out.1.le; simp only [ints, List.length_map]; omega
        clear hd hrl hrs hnx
        simp only at hO
        go_wp2_with (first
          | (go_at_call 62; ((with_reducible refine hO.mono ?_); rintro e w2 ⟨rfl, hb2⟩; have HB := Lib.hid hb2; clear hb2))
          | (at_builtin; refine append_cells w2 51 21 (.int .i32 0) 4 Tryz.underlying51 info_i32 rfl (by omega) w.heap.size u4 _ _ (I.out.2.1.keep HB.out) (Nat.le_trans I.out.2.2.size HB.out.size) hll 1 (by omega) _ rfl rfl rfl _ _ rfl rfl rfl ?_; intro v3 w3 ho3 hb3; have HO := Lib.hid ho3; have HB3 := Lib.hid hb3; clear ho3 hb3))
        have I2 : Hid (ReadTo s.data.toList (l ++ [r]) (k + n) ∧ OwnR w.heap.size v3 (ints (l ++ [r])) w3 ∧ Below w.heap.size w w3) := by
          refine ⟨HX.out.1, ?_, (I.out.2.2.trans (HB.out.mono I.out.2.2.size)).trans HB3.out⟩
          have e : ints (l ++ [r]) = ints l ++ [(r : Int)] := by
            simp only [ints, List.map_append, List.map_cons, List.map_nil]
            rfl
          rw [e]
          exact OwnR.more HO.out rfl rfl
        go_roundg (s.size - k)
        case measure => omega
        case rel => exact ⟨l ++ [r], k + n, by omega, by go_num, by omega, I2⟩
    · obtain rfl : k = s.size := by omega
      go_wp2
      go_ret2
      have hr := ReadTo.all (s := s.data.toList) (l := l) (by simpa using I.out.1)
      exact ⟨u4, by rw [hr]; rfl, by rw [hr]; exact I.out.2.1.runes, I.out.2.2⟩
end Go.Proofs.YtmbammhkkcnoaaaGreat
namespace Go.Proofs.YtmbammhkkcnoaaaGreat
open Go.RowKit Utf
theorem string_yes (v : Value) (l : List Int) (w : World) (hl : Runes v l w) (hn : l.length ≤ 20000) (hr : rightsZ l = true) {bs : List UInt8} (hb : encZ l = bs) :
    Calls Tryz.prog 42 #[v] w fun e w' => e = .returned (.tuple #[.string ⟨bs.toArray⟩, .bool true]) ∧ Below w.heap.size w w' :=
  (string_any v l w hl hn).mono fun _ _ ⟨he, hw⟩ => ⟨by rw [he, hr, hb]; rfl, hw⟩
theorem string_no (v : Value) (l : List Int) (w : World) (hl : Runes v l w) (hn : l.length ≤ 20000) (hr : rightsZ l = false) :
    Calls Tryz.prog 42 #[v] w fun e w' => e = .returned (.tuple #[.string ⟨#[]⟩, .bool false]) ∧ Below w.heap.size w w' :=
  (string_any v l w hl hn).mono fun _ _ ⟨he, hw⟩ => ⟨by rw [he, hr]; rfl, hw⟩
/-- What was read, as a walk takes it. -/
def RunesAt (l : List Nat) (z : Int) (w : World) (e : Ending) (w' : World) : Prop :=
  ∃ A c, e = .returned (.tuple #[.slice A l.length c, .int .i64 z]) ∧ Runes (.slice A l.length c) (ints l) w' ∧ Below w.heap.size w w'
theorem runes_at (s : ByteArray) (w : World) (hs : s.size ≤ 100000) {l : List Nat} {z : Int} (h : rdOf s.data.toList = (l, z)) : Calls Tryz.prog 25 #[.string s] w (RunesAt l z w) :=
  (runes_any s w hs).mono fun _ _ ⟨v, he, hv, hb⟩ => by
    rw [h] at he hv
    obtain ⟨A, c, rfl, -, -⟩ := hv.form
    simp only [ints, List.length_map] at he hv ⊢
    exact ⟨A, c, he, hv, hb⟩
end Go.Proofs.YtmbammhkkcnoaaaGreat
namespace Go.Proofs.YtmbammhkkcnoaaaGreat
open Go.RowKit Utf
theorem ints_back {l : List Int} (h : rightsZ l = true) : ints (l.map Int.toNat) = l ∧ rights (l.map Int.toNat) = true ∧ encAll (l.map Int.toNat) = encZ l := by
  induction l with
  | nil => exact ⟨rfl, rfl, rfl⟩
  | cons r l ih =>
    simp only [rightsZ, List.all_cons, Bool.and_eq_true] at h
    obtain ⟨h1, h2, h3⟩ := ih h.2
    have hr := (rightZ_iff r).1 h.1
    simp only [ints, rights, encAll, encZ, List.map_cons, List.all_cons, List.flatMap_cons, Bool.and_eq_true] at h1 h2 h3 ⊢
    refine ⟨?_, ⟨(right_iff _).2 (by omega), h2⟩, by rw [h3]⟩
    rw [h1, show Int.ofNat r.toNat = r by simp; omega]
theorem ints_right (m : List Nat) (h : rights m = true) : rightsZ (ints m) = true ∧ encZ (ints m) = encAll m := by
  induction m with
  | nil => exact ⟨rfl, rfl⟩
  | cons r m ih =>
    simp only [rights, List.all_cons, Bool.and_eq_true] at h
    obtain ⟨h1, h2⟩ := ih h.2
    have hr := (right_iff r).1 h.1
    simp only [ints, rightsZ, encAll, encZ, List.map_cons, List.all_cons, List.flatMap_cons, Bool.and_eq_true] at h1 h2 ⊢
    exact ⟨⟨(rightZ_iff _).2 (by simp; omega), h1⟩, by rw [h2]; simp⟩
theorem rd_enc {l : List Int} (h : rightsZ l = true) : rdOf (encZ l) = (l.map Int.toNat, -1) := by
  obtain ⟨h1, h2, h3⟩ := ints_back h
  unfold rdOf
  rw [readAll_is (l.map Int.toNat) (encZ l).length (encZ l) [] (by rw [h3]; simp) h2 rfl (Nat.le_refl _)]
  simp
theorem rd_cases {s : List UInt8} {m : List Nat} {z : Int} (h : rdOf s = (m, z)) : rights m = true ∧ m.length ≤ s.length ∧ ((z = -1 ∧ encAll m = s) ∨ ∃ k : Nat, z = k ∧ k < s.length ∧ encAll m = s.take k) := by
  obtain ⟨h1, h2⟩ := readAll_sound s.length s
  unfold rdOf at h
  simp only [Prod.mk.injEq] at h
  obtain ⟨rfl, rfl⟩ := h
  have h3 := congrArg List.length h2
  rw [List.length_append] at h3
  have h4 := encAll_le (readAll s.length s).1
  refine ⟨h1, by omega, ?_⟩
  by_cases h0 : (readAll s.length s).2.length = 0
  · rw [if_pos h0]
    refine .inl ⟨rfl, ?_⟩
    rw [List.eq_nil_of_length_eq_zero h0, List.append_nil] at h2
    exact h2.symm
  · rw [if_neg h0]
    refine .inr ⟨_, rfl, by omega, ?_⟩
    have e : s.length - (readAll s.length s).2.length = (encAll (readAll s.length s).1).length := by omega
    rw [e]
    exact (by rw [List.take_left] : List.take (encAll (readAll s.length s).1).length (encAll (readAll s.length s).1 ++ (readAll s.length s).2) = _).symm.trans (by rw [← h2])
theorem eight_all : ∀ (t : List UInt8) (k : Nat), eightFrom t k = -1 → ∀ b ∈ t, b.toNat < 128
  | [], _, _ => fun b hb => by cases hb
  | x :: t, k, h => by
    unfold eightFrom at h
    split at h
    · rename_i hx
      intro b hb
      rcases List.mem_cons.1 hb with rfl | hb
      · exact hx
      · exact eight_all t (k + 1) h b hb
    · omega
theorem eight_some : ∀ (t : List UInt8) (k : Nat), eightFrom t k = -1 ∨ 0 ≤ eightFrom t k
  | [], _ => .inl rfl
  | x :: t, k => by
    unfold eightFrom
    split
    · exact eight_some t (k + 1)
    · right; omega
theorem enc_byte (b : UInt8) (h : b.toNat < 128) : enc b.toNat = [b] := by
  unfold enc
  rw [if_pos (by omega)]
  congr 1
  unfold u
  exact UInt8.ofNat_toNat
theorem enc_bytes : ∀ (t : List UInt8), (∀ b ∈ t, b.toNat < 128) → encZ (t.map fun b => (b.toNat : Int)) = t
  | [], _ => rfl
  | x :: t, h => by
    have := enc_bytes t fun b hb => h b (by simp [hb])
    unfold encZ at this ⊢
    rw [List.map_cons, List.flatMap_cons, this]
    show enc (x.toNat : Int).toNat ++ t = _
    rw [Int.toNat_natCast, enc_byte x (h x (by simp))]
    rfl
/-- Bytes that are all below 80 are read one by one. -/
theorem ascii_rd {t : List UInt8} (h : ∀ b ∈ t, b.toNat < 128) : rdOf t = (t.map fun b => b.toNat, -1) := by
  have hr : rightsZ (t.map fun b => (b.toNat : Int)) = true := by
    unfold rightsZ
    rw [List.all_eq_true]
    intro c hc
    obtain ⟨b, hb, rfl⟩ := List.mem_map.1 hc
    have := h b hb
    exact (rightZ_iff _).2 (by omega)
  have := rd_enc hr
  rw [enc_bytes t h, List.map_map] at this
  exact this
end Go.Proofs.YtmbammhkkcnoaaaGreat
namespace Go.Proofs.YtmbammhkkcnoaaaGreat
open Go.RowKit Utf
theorem below_start {a b c : World} (h : Below a.heap.size a b) (k : Below b.heap.size b c) : Below a.heap.size a c := below_then h k
/-- The two results of String, as a walk takes them. -/
def strB (l : List Int) : List UInt8 := if rightsZ l then encZ l else []
def StrAt (bs : List UInt8) (ok : Bool) (w : World) (e : Ending) (w' : World) : Prop := e = .returned (.tuple #[.string ⟨bs.toArray⟩, .bool ok]) ∧ Below w.heap.size w w'
theorem str_at {l : List Int} {bs : List UInt8} {ok : Bool} (hr : rightsZ l = ok) (hb : strB l = bs) {w : World} {e : Ending} {w' : World} (h : StrPost l w e w') : StrAt bs ok w e w' := by
  obtain ⟨he, hw⟩ := h
  refine ⟨?_, hw⟩
  unfold strB at hb
  cases ok with
  | true => rw [hr] at he hb; rw [if_pos rfl] at hb; rw [he, ← hb]; rfl
  | false => rw [hr] at he hb; rw [if_neg (by decide)] at hb; rw [he, ← hb]; rfl
theorem string_at (v : Value) (l : List Int) (w : World) (hl : Runes v l w) (hn : l.length ≤ 20000) {bs : List UInt8} {ok : Bool} (hr : rightsZ l = ok) (hb : strB l = bs) :
    Calls Tryz.prog 42 #[v] w (StrAt bs ok w) := (string_any v l w hl hn).mono fun _ _ h => str_at hr hb h
theorem refString_at (v : Value) (l : List Int) (w : World) (hl : Runes v l w) (hn : l.length ≤ 20000) {bs : List UInt8} {ok : Bool} (hr : rightsZ l = ok) (hb : strB l = bs) :
    Calls Tryz.prog 58 #[v] w (StrAt bs ok w) := (refString_any v l w hl hn).mono fun _ _ h => str_at hr hb h
end Go.Proofs.YtmbammhkkcnoaaaGreat
namespace Go.Proofs.YtmbammhkkcnoaaaGreat
open Go.RowKit Utf
theorem less_is : ∀ x y : List UInt8, Op.bytesLess x y = less x y
  | [], [] => rfl
  | _ :: _, [] => rfl
  | [], _ :: _ => rfl
  | a :: x, b :: y => by
    simp only [Op.bytesLess, less, less_is x y]
theorem strB_one (a : Int) (h : rightZ a = true) : strB [a] = enc a.toNat := by
  unfold strB
  rw [if_pos (by simp [rightsZ, h])]
  simp [encZ]
theorem rightsZ_one (a : Int) : rightsZ [a] = rightZ a := by simp [rightsZ]
theorem eight_enc {a : Int} (h0 : 0 ≤ a) (h1 : a ≤ 1114111) : decide (eightOf (enc a.toNat) < 0) = decide (a < 128) := by
  by_cases h : a < 128
  · rw [enc_small (by omega), decide_eq_true h]
    unfold eightOf eightFrom
    rw [u_toNat (by omega), if_pos (by omega)]
    rfl
  · obtain ⟨b, t, e, hb⟩ := enc_great (a := a.toNat) (by omega) (by omega)
    rw [e, decide_eq_false h]
    unfold eightOf eightFrom
    rw [if_neg (by omega)]
    rfl
end Go.Proofs.YtmbammhkkcnoaaaGreat
namespace Go.Proofs.YtmbammhkkcnoaaaGreat
open Go.RowKit Utf
end Go.Proofs.YtmbammhkkcnoaaaGreat
namespace Go.Proofs.YtmbammhkkcnoaaaGreat
open Go.RowKit Utf
theorem rd_parts {l : List Int} (h : rightsZ l = true) (s : List UInt8) {m : List Nat} {z : Int} (hz : rdOf s = (m, z)) :
    rdOf (encZ l ++ s) = (l.map Int.toNat ++ m, if z < 0 then -1 else z + (encZ l).length) := by
  obtain ⟨h1, h2, h3⟩ := ints_back h
  obtain ⟨q1, q2⟩ := readAll_sound s.length s
  have q3 := congrArg List.length q2
  rw [List.length_append] at q3
  unfold rdOf at hz ⊢
  simp only [Prod.mk.injEq] at hz
  obtain ⟨rfl, rfl⟩ := hz
  have hp := readAll_parts (l.map Int.toNat) s (encZ l ++ s).length s.length h2 (by rw [h3]; exact Nat.le_refl _) (Nat.le_refl _)
  rw [h3] at hp
  rw [hp]
  simp only [List.length_append]
  by_cases h0 : (readAll s.length s).2.length = 0
  · rw [if_pos h0, if_pos h0, if_pos (by decide)]
  · rw [if_neg h0, if_neg h0, if_neg (by omega)]
    congr 1
    omega
end Go.Proofs.YtmbammhkkcnoaaaGreat
namespace Go.Proofs.YtmbammhkkcnoaaaGreat
open Go.RowKit Utf
theorem refRunes_at (s : ByteArray) (w : World) (hs : s.size ≤ 100000) {l : List Nat} {z : Int} (h : rdOf s.data.toList = (l, z)) : Calls Tryz.prog 29 #[.string s] w (RunesAt l z w) :=
  (refRunes_any s w hs).mono fun _ _ ⟨v, he, hv, hb⟩ => by
    rw [h] at he hv
    obtain ⟨A, c, rfl, -, -⟩ := hv.form
    simp only [ints, List.length_map] at he hv ⊢
    exact ⟨A, c, he, hv, hb⟩
theorem rd_len (s : List UInt8) : (rdOf s).1.length ≤ s.length := by
  have h := readAll_sound s.length s
  have h2 := congrArg List.length h.2
  rw [List.length_append] at h2
  have h3 := encAll_le (readAll s.length s).1
  unfold rdOf
  simp only
  omega
end Go.Proofs.YtmbammhkkcnoaaaGreat
