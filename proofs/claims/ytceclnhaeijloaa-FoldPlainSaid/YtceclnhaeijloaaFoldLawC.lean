/-
  Proved here: the law FoldPlain: what is ASCII is folded as Plain says, and Plain, done again, changes nothing. Conditions: none.
-/
import Derived.Test.YtceclnhaeijloaaFoldSmall
import Derived.Test.YtceclnhaeijloaaFoldLawB
import Derived.Test.YtceclnhaeijloaaNormLaw
namespace Go.Proofs.Ytceclnhaeijloaa
open Go.RowKit Utf
theorem smallB_small (b : UInt8) : smallB (smallB b) = smallB b := by
  have hb := lt256 b
  by_cases h : 65 ≤ b.toNat ∧ b.toNat ≤ 90
  · have e : smallB b = u (b.toNat + 32) := by unfold smallB; rw [if_pos h]
    rw [e]
    unfold smallB
    rw [u_toNat (by omega), if_neg (by omega)]
  · have e : smallB b = b := by unfold smallB; rw [if_neg h]
    rw [e, e]
theorem smallB_lt (b : UInt8) : (smallB b).toNat < 128 ↔ b.toNat < 128 := by
  have hb := lt256 b
  unfold smallB
  split
  · rw [u_toNat (by omega)]; omega
  · rfl
theorem eight_small : ∀ (t : List UInt8) (k : Nat), eightFrom (t.map smallB) k = eightFrom t k
  | [], _ => rfl
  | b :: t, k => by
    have ih := eight_small t (k + 1)
    simp only [List.map_cons, eightFrom, smallB_lt, ih]
theorem map_small_small (t : List UInt8) : (t.map smallB).map smallB = t.map smallB := by
  rw [List.map_map]
  exact List.map_congr_left fun b _ => smallB_small b
theorem small_int (b : UInt8) : ((smallB b).toNat : Int) = if 65 ≤ (b.toNat : Int) ∧ (b.toNat : Int) ≤ 90 then (b.toNat : Int) + 32 else b.toNat := by
  have hb := lt256 b
  unfold smallB
  by_cases h : 65 ≤ b.toNat ∧ b.toNat ≤ 90
  · rw [if_pos h, if_pos (by omega), u_toNat (by omega)]; omega
  · rw [if_neg h, if_neg (by omega)]
/-- What is ASCII is folded as its bytes are. -/
theorem ascii_foldIs {s : ByteArray} (hs : s.size ≤ 9600) (h : ∀ b ∈ s.data.toList, b.toNat < 128) : FoldIs s (s.data.toList.map smallB) true := by
  have ha := bytes_ascii h
  have he := enc_bytes _ h
  have hsz : s.data.toList.length = s.size := by simp
  have hbs : (⟨s.data.toList.toArray⟩ : ByteArray) = s := by simp
  generalize s.data.toList = t at *
  have hX : rightsZ (t.map fun b => (b.toNat : Int)) = true := ascii_right ha
  have hm : (t.map fun b => (b.toNat : Int)).map Fold.fo = (t.map smallB).map fun b => (b.toNat : Int) := by
    rw [List.map_map, List.map_map]
    refine List.map_congr_left fun b hb => ?_
    have := h b hb
    show Fold.fo (b.toNat : Int) = ((smallB b).toNat : Int)
    rw [Norm.ascii_fo ⟨by omega, by omega⟩, small_int]
  have h2 : ∀ b ∈ t.map smallB, b.toNat < 128 := by
    intro b hb
    obtain ⟨c, hc, rfl⟩ := List.mem_map.1 hb
    exact (smallB_lt c).2 (h c hc)
  have ha2 := bytes_ascii h2
  have hd : Norm.down false ((t.map fun b => (b.toNat : Int)).map Fold.fo) = (t.map smallB).map fun b => (b.toNat : Int) := by rw [hm, Norm.ascii_down false ha2]
  have key := folds_enc hX (by rw [List.length_map]; omega) (by rw [hd, List.length_map, List.length_map]; omega)
  have hf : Fold.fold (t.map fun b => (b.toNat : Int)) = (t.map smallB).map fun b => (b.toNat : Int) := by
    unfold Fold.fold
    rw [hd, Norm.ascii_join ha2]
  rw [he, hf, enc_bytes _ h2, hbs] at key
  exact key
set_option maxRecDepth 100000 in
set_option maxHeartbeats 8000000 in
theorem plain4_walk (s : ByteArray) (w : World) : Calls Try.prog 5 #[.string s] w fun e w' => e = .returned (.bool true) ∧ Below w.heap.size w w' := by
  by_cases hs : s.size ≤ 300
  · have hsz : (s.size : Int) ≤ 300 := by omega
    have P1 := fun W => plain_any s W (by omega)
    obtain ⟨p, hp⟩ : ∃ p : ByteArray, p = ⟨(s.data.toList.map smallB).toArray⟩ := ⟨_, rfl⟩
    have hpl : p.data.toList = s.data.toList.map smallB := by rw [hp]
    have hps : p.size = s.size := by have := congrArg List.length hpl; simpa using this
    have P2 := fun W => plain_any p W (by omega)
    have E1 := fun W => eight_any s W (by omega)
    have E2 := fun W => eight_any p W (by omega)
    have he : eightOf p.data.toList = eightOf s.data.toList := by rw [hpl]; exact eight_small _ 0
    rw [hpl, map_small_small, ← hp] at P2
    rw [← hp] at P1
    rw [he] at E2
    rcases eight_some s.data.toList 0 with h8 | h8
    · have F := ascii_foldIs (s := s) (by omega) (eight_all _ _ h8)
      have h8' : eightOf s.data.toList = -1 := h8
      rw [h8'] at E1 E2
      have HF : Hid (∀ t W, Table W t → Calls Try.prog 10 #[t, .string s] W fun e w' => e = .returned (.tuple #[.string p, .bool true]) ∧ Below W.heap.size W w') := Lib.hid (fun t W hT => (F t W hT).mono fun _ _ ⟨he, hb⟩ => ⟨by rw [he, hp], hb⟩)
      have H1 := Lib.hid P1
      have H2 := Lib.hid P2
      have G1 := Lib.hid E1
      have G2 := Lib.hid E2
      clear P1 P2 E1 E2 F hp hpl he h8 h8'
      go_enter Try.func5, Try.ntmps5
      go_wp2_with fail
      refine (small4_any _).mono ?_
      rintro e w1 ⟨rfl, hb1⟩
      have B1 := Lib.hid hb1
      clear hb1
      go_wp2_with fail
      refine (H1.out _).mono ?_
      rintro e w2 ⟨rfl, hb2⟩
      have B2 := Lib.hid (below_then B1.out hb2)
      clear hb2 B1
      go_wp2_with fail
      refine (H2.out _).mono ?_
      rintro e w3 ⟨rfl, hb3⟩
      have B3 := Lib.hid (below_then B2.out hb3)
      clear hb3 B2
      go_wp2_with fail
      refine (G2.out _).mono ?_
      rintro e w4 ⟨rfl, rfl⟩
      go_wp2_with fail
      refine (G1.out _).mono ?_
      rintro e w5 ⟨rfl, rfl⟩
      go_wp2_with fail
      refine (G1.out _).mono ?_
      rintro e w6 ⟨rfl, rfl⟩
      go_wp2_with fail
      refine (new_any _).mono ?_
      rintro e w7 ⟨tt, rfl, hT, hb7⟩
      have B7 := Lib.hid (below_then B3.out hb7)
      have HT := Lib.hid hT
      clear hb7 B3 hT
      go_wp2_with fail
      refine (HF.out _ _ HT.out).mono ?_
      rintro e w8 ⟨rfl, hb8⟩
      have B8 := Lib.hid (below_then B7.out hb8)
      clear hb8 B7
      go_wp2
      go_ret
      exact ⟨rfl, B8.out⟩
    · have h8' : 0 ≤ eightOf s.data.toList := h8
      generalize eightOf s.data.toList = z at *
      have H1 := Lib.hid P1
      have H2 := Lib.hid P2
      have G1 := Lib.hid E1
      have G2 := Lib.hid E2
      clear P1 P2 E1 E2 hp hpl he h8
      go_enter Try.func5, Try.ntmps5
      go_wp2_with fail
      refine (small4_any _).mono ?_
      rintro e w1 ⟨rfl, hb1⟩
      have B1 := Lib.hid hb1
      clear hb1
      go_wp2_with fail
      refine (H1.out _).mono ?_
      rintro e w2 ⟨rfl, hb2⟩
      have B2 := Lib.hid (below_then B1.out hb2)
      clear hb2 B1
      go_wp2_with fail
      refine (H2.out _).mono ?_
      rintro e w3 ⟨rfl, hb3⟩
      have B3 := Lib.hid (below_then B2.out hb3)
      clear hb3 B2
      go_wp2_with fail
      refine (G2.out _).mono ?_
      rintro e w4 ⟨rfl, rfl⟩
      go_wp2_with fail
      refine (G1.out _).mono ?_
      rintro e w5 ⟨rfl, rfl⟩
      go_wp2_with fail
      refine (G1.out _).mono ?_
      rintro e w6 ⟨rfl, rfl⟩
      go_wp2
      go_ret
      exact ⟨rfl, B3.out⟩
  · have hsz : (300 : Int) < (s.size : Int) := by omega
    go_enter Try.func5, Try.ntmps5
    go_wp2_with fail
    refine (small4_any _).mono ?_
    rintro e w1 ⟨rfl, hb1⟩
    have B1 := Lib.hid hb1
    clear hb1
    go_wp2
    go_ret
    exact ⟨rfl, B1.out⟩
end Go.Proofs.Ytceclnhaeijloaa
