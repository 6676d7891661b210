/-
  Proved here: puny's writer: newWriter, number. Conditions: as they stand in each.
-/
import Derived.Test.YtkgikkdgfhonlaaPunyOwnB
import Derived.BigRegion
import Derived.Deep.RegionWith
import Derived.Deep.DeepCutAuto
import Derived.StillTailTactics
namespace Go.Proofs.Ytkgikkdgfhonlaa
open Go.RowKit Utf
/-- A writer lies in block B. -/
def WAt (B : Nat) (v : Value) (p h d b : Int) (w : World) : Prop := w.heap[B]? = some (.cells #[v, .int .i64 p, .int .i64 h, .int .i64 d, .int .i64 b] 48 (0, 0))
theorem WAt.lt {B : Nat} {v : Value} {p h d b : Int} {w : World} (H : WAt B v p h d b w) : B < w.heap.size := (Array.getElem?_eq_some_iff.1 H).1
theorem WAt.c0 {B : Nat} {v : Value} {p h d b : Int} {w : World} (H : WAt B v p h d b w) : w.cell? ⟨B, 0, none⟩ = some v := by unfold WAt at H; simp [World.cell?, H]
theorem WAt.c1 {B : Nat} {v : Value} {p h d b : Int} {w : World} (H : WAt B v p h d b w) : w.cell? ⟨B, 1, none⟩ = some (.int .i64 p) := by unfold WAt at H; simp [World.cell?, H]
theorem WAt.c2 {B : Nat} {v : Value} {p h d b : Int} {w : World} (H : WAt B v p h d b w) : w.cell? ⟨B, 2, none⟩ = some (.int .i64 h) := by unfold WAt at H; simp [World.cell?, H]
theorem WAt.c3 {B : Nat} {v : Value} {p h d b : Int} {w : World} (H : WAt B v p h d b w) : w.cell? ⟨B, 3, none⟩ = some (.int .i64 d) := by unfold WAt at H; simp [World.cell?, H]
theorem WAt.c4 {B : Nat} {v : Value} {p h d b : Int} {w : World} (H : WAt B v p h d b w) : w.cell? ⟨B, 4, none⟩ = some (.int .i64 b) := by unfold WAt at H; simp [World.cell?, H]
theorem WAt.fr {B : Nat} {v : Value} {p h d b : Int} {w : World} (H : WAt B v p h d b w) (k : Nat) : w.frozen? ⟨B, k, none⟩ = false := by unfold WAt at H; simp [World.frozen?, H]
theorem WAt.set0 {B : Nat} {v : Value} {p h d b : Int} {w : World} (H : WAt B v p h d b w) (x : Value) : WAt B x p h d b (w.setCell ⟨B, 0, none⟩ x) := by
  unfold WAt at H ⊢; simp [World.setCell, Array.getElem?_modify, H]
theorem WAt.set2 {B : Nat} {v : Value} {p h d b : Int} {w : World} (H : WAt B v p h d b w) (x : Int) : WAt B v p x d b (w.setCell ⟨B, 2, none⟩ (.int .i64 x)) := by
  unfold WAt at H ⊢; simp [World.setCell, Array.getElem?_modify, H]
theorem WAt.set3 {B : Nat} {v : Value} {p h d b : Int} {w : World} (H : WAt B v p h d b w) (x : Int) : WAt B v p h x b (w.setCell ⟨B, 3, none⟩ (.int .i64 x)) := by
  unfold WAt at H ⊢; simp [World.setCell, Array.getElem?_modify, H]
theorem WAt.set4 {B : Nat} {v : Value} {p h d b : Int} {w : World} (H : WAt B v p h d b w) (x : Int) : WAt B v p h d x (w.setCell ⟨B, 4, none⟩ (.int .i64 x)) := by
  unfold WAt at H ⊢; simp [World.setCell, Array.getElem?_modify, H]
theorem WAt.grew {B : Nat} {u v v' : Value} {p h d b : Int} {w w' : World} (H : WAt B u p h d b w) (hg : Grew v v' w w') (hne : some B ≠ v.ownBlock) : WAt B u p h d b w' := (hg.block B H.lt hne).trans H
theorem OwnB.set {base B : Nat} {v : Value} {bs : List UInt8} {w : World} (h : OwnB base v bs w) (hne : some B ≠ v.ownBlock) (k : Nat) (x : Value) : OwnB base v bs (w.setCell ⟨B, k, none⟩ x) := by
  refine ⟨h.1, ?_⟩
  rcases h.2 with h0 | ⟨g, cap, cur, rfl, h1, hg, h2⟩
  · exact .inl h0
  · refine .inr ⟨g, cap, cur, rfl, h1, ?_, h2⟩
    rw [← hg]
    exact Below.heap_setCell _ _ _ _ (fun e => hne (by rw [show (⟨B, k, none⟩ : Addr).block = B from rfl] at e; rw [e]; rfl))
/-- A writer, with what it has written. -/
structure Writer (base B : Nat) (bs : List UInt8) (p h : Nat) (d b : Int) (w : World) : Prop where
  low : base ≤ B
  has : ∃ v, OwnB base v bs w ∧ some B ≠ v.ownBlock ∧ WAt B v p h d b w
theorem Writer.lt {base B : Nat} {bs : List UInt8} {p h : Nat} {d b : Int} {w : World} (H : Writer base B bs p h d b w) : B < w.heap.size := by
  obtain ⟨-, v, -, -, h⟩ := H
  exact h.lt
theorem Writer.set3 {base B : Nat} {bs : List UInt8} {p h : Nat} {d b : Int} {w : World} (H : Writer base B bs p h d b w) (x : Int) : Writer base B bs p h x b (w.setCell ⟨B, 3, none⟩ (.int .i64 x)) := by
  obtain ⟨hl, v, h1, h2, h3⟩ := H
  exact ⟨hl, v, h1.set h2 _ _, h2, h3.set3 x⟩
theorem Writer.keep {base B : Nat} {bs : List UInt8} {p h : Nat} {d b : Int} {w w' : World} (H : Writer base B bs p h d b w) (hb : Below w.heap.size w w') : Writer base B bs p h d b w' := by
  obtain ⟨hl, v, h1, h2, h3⟩ := H
  exact ⟨hl, v, h1.keep hb, h2, (hb.block B h3.lt).trans h3⟩
theorem Writer.drew {base B : Nat} {bs : List UInt8} {p h : Nat} {d b : Int} {w : World} (H : Writer base B bs p h d b w) : Writer base B bs p h d b w.drew := by
  obtain ⟨hl, v, h1, h2, h3⟩ := H
  exact ⟨hl, v, h1, h2, h3⟩
theorem OwnB.form {base : Nat} {v : Value} {l : List UInt8} {w : World} (h : OwnB base v l w) : ∃ (A : Option Addr) (n c : Nat), v = .slice A n c := by
  obtain ⟨A, c, h⟩ := h.shape
  exact ⟨A, _, c, h⟩
def dashOf (bs : List UInt8) : List UInt8 := if bs.length = 0 then [] else [45]
set_option maxHeartbeats 4000000 in
set_option maxRecDepth 100000 in
theorem newWriter_any (base : Nat) (v : Value) (bs : List UInt8) (w : World) (ho : OwnB base v bs w) (hbase : base ≤ w.heap.size) (hl : bs.length ≤ 100000) :
    Calls Try.prog 25 #[v] w fun e w' => e = .returned (.pointer (some ⟨w.heap.size, 0, none⟩)) ∧ Writer base w.heap.size (bs ++ dashOf bs) bs.length bs.length 0 72 w' ∧ Below base w w' := by
  obtain ⟨A, c, rfl⟩ := ho.shape
  have hund := ho.under (Nat.le_refl _)
  have HO := Lib.hid ho
  have HU := Lib.hid hund
  have HB := Lib.hid hbase
  have hat : WAt w.heap.size (.slice A bs.length c) bs.length bs.length 0 72 (w.alloc (.cells #[.slice A bs.length c, .int .i64 bs.length, .int .i64 bs.length, .int .i64 0, .int .i64 72] 48)) := heap_alloc_new w _
  have HAT := Lib.hid hat
  clear ho hund hbase hat
  by_cases h0 : bs.length = 0
  · have hz : ¬ (0 : Int) < (bs.length : Int) := by omega
    have hd : dashOf bs = [] := by unfold dashOf; rw [if_pos h0]
    have HD := Lib.hid hd
    clear hd h0
    go_enter Try.func25, Try.ntmps25
    go_wp2
    go_ret
    refine ⟨rfl, ⟨HB.out, _, ?_, HU.out, HAT.out⟩, (Below.refl _ _).alloc HB.out _⟩
    rw [HD.out, List.append_nil]
    exact World.ownsRow.alloc HO.out _
  · have hz : (0 : Int) < (bs.length : Int) := by omega
    have hd : dashOf bs = [45] := by unfold dashOf; rw [if_neg h0]
    have HD := Lib.hid hd
    have hle : bs.length ≤ 1000000 := by omega
    clear hd h0
    go_enter Try.func25, Try.ntmps25
    go_wp2_with (at_builtin; refine append_lit (w.alloc (.cells #[.slice A bs.length c, .int .i64 bs.length, .int .i64 bs.length, .int .i64 0, .int .i64 72] 48)) 42 5 (.int .u8 0) 1 Try.underlying42 info_u8 rfl (by omega) base _ _ _ (World.ownsRow.alloc HO.out _) (by simp; have := HB.out; omega) hle 1 (by omega) _ rfl rfl _ (by simp) rfl _ _ rfl rfl rfl ?_; intro v3 w3 ho3 hg3; obtain ⟨A3, n3, c3, rfl⟩ := (OwnB.more (ns := [45]) ho3 rfl rfl).form; have HO3 := Lib.hid ho3; have HG3 := Lib.hid hg3; have hw3 := HAT.out.grew hg3 HU.out; have HW3 := Lib.hid hw3; have g0 := hw3.c0; have gf := hw3.fr 0; clear ho3 hg3 hw3)
    go_ret
    have hown := OwnB.more (ns := [45]) HO3.out rfl rfl
    have hne : some w.heap.size ≠ (Value.slice A3 n3 c3).ownBlock := fun e => by
      rcases HG3.out.place _ e.symm with h | h
      · exact HU.out h.symm
      · simp at h; omega
    refine ⟨rfl, ⟨HB.out, _, ?_, hne, HW3.out.set0 _⟩, ?_⟩
    · rw [HD.out]; exact hown.set hne _ _
    · have hb3 : Below base (w.alloc (.cells #[.slice A bs.length c, .int .i64 bs.length, .int .i64 bs.length, .int .i64 0, .int .i64 72] 48)) w3 := HG3.out.below (by simp; have := HB.out; omega) (fun k hk => HO.out.off k hk)
      exact (((Below.refl _ _).alloc HB.out _).trans hb3).setCell (p := ⟨w.heap.size, 0, none⟩) HB.out _
theorem number_cut {base B n3 k3 : Nat} {A3 : Option Addr} {v : Value} {bs cs : List UInt8} {p h d b : Int} {w w3 : World} (HO3 : OwnB base (.slice A3 n3 k3) cs w3) (HG3 : Grew v (.slice A3 n3 k3) w.drew w3) (HO : OwnB base v bs w) (HNE : some B ≠ v.ownBlock) (HAT : WAt B v p h d b w) (HB : base ≤ w.heap.size) (HLW : base ≤ B) (HW3 : WAt B v p h d b w3) :
    Hid (∃ v3, OwnB base v3 cs (w3.setCell ⟨B, 0, none⟩ (.slice A3 n3 k3)) ∧ some B ≠ v3.ownBlock ∧ WAt B v3 p h d b (w3.setCell ⟨B, 0, none⟩ (.slice A3 n3 k3)) ∧ Below base w (w3.setCell ⟨B, 0, none⟩ (.slice A3 n3 k3))) := by
  have hne : some B ≠ (Value.slice A3 n3 k3).ownBlock := fun e => by
    rcases HG3.place _ e.symm with h1 | h1
    · exact HNE h1.symm
    · have h2 := HAT.lt
      have h3 : w.heap.size ≤ B := h1
      omega
  have hb3 : Below base w.drew w3 := HG3.below HB (fun k hk => HO.off k hk)
  have hb4 : Below base w w3 := ⟨hb3.os, hb3.tape, hb3.output, hb3.size, hb3.block⟩
  exact ⟨_, HO3.set hne _ _, hne, HW3.set0 _, hb4.setCell (p := ⟨B, 0, none⟩) HLW _⟩
set_option maxHeartbeats 4000000 in
set_option maxRecDepth 100000 in
theorem numberP_any (base B : Nat) (bs : List UInt8) (p h : Nat) (d b : Int) (w : World) (hW : Writer base B bs p h d b w) (hbase : base ≤ w.heap.size) (hl : bs.length ≤ 100000) (hh : h ≤ 100000) (hd : 0 ≤ d ∧ d ≤ 2147483647) (hb : 0 ≤ b ∧ b ≤ 100000000000) :
    Calls Try.prog 39 #[.pointer (some ⟨B, 0, none⟩)] w fun e w' => e = .returned (.tuple #[]) ∧ Writer base B (bs ++ Puny.digitsB d 36 b) p (h + 1) 0 (Puny.adapt d ((h : Int) + 1) ((h : Int) == (p : Int))) w' ∧ Below base w w' := by
  obtain ⟨hlow, v, ho, hne, hat⟩ := hW
  have c0 := hat.c0
  have c1 := hat.c1
  have c2 := hat.c2
  have c3 := hat.c3
  have c4 := hat.c4
  have K1 := Lib.hid (write_any base v bs d b w.drew (show OwnB base v bs w.drew from ho) hbase hl hd hb)
  have K2 := Lib.hid (fun W => adaptP_any d ((h : Int) + 1) ((h : Int) == (p : Int)) W hd (by omega))
  obtain ⟨d0, d1⟩ := hd
  obtain ⟨b0, b1⟩ := hb
  have HO := Lib.hid ho
  have HNE := Lib.hid hne
  have HAT := Lib.hid hat
  have HB := Lib.hid hbase
  have HLW := Lib.hid hlow
  obtain ⟨nb, hnb⟩ : ∃ nb, nb = Puny.adapt d ((h : Int) + 1) ((h : Int) == (p : Int)) := ⟨_, rfl⟩
  obtain ⟨dg, hdg⟩ : ∃ dg, dg = Puny.digitsB d 36 b := ⟨_, rfl⟩
  rw [← hnb] at K2 ⊢
  rw [← hdg] at K1 ⊢
  clear ho hne hat hbase hlow hnb hdg
  go_enter Try.func39, Try.ntmps39
  go_upto_region 0 with (fail)
  go_cut [2] (fun _ wx => Hid (∃ v3, OwnB base v3 (bs ++ dg) wx ∧ some B ≠ v3.ownBlock ∧ WAt B v3 p h d b wx ∧ Below base w wx))
  case first =>
    go_region_with (go_at_call 45; (with_reducible refine K1.out.mono ?_); rintro e1 w3 ⟨v3, rfl, ho3, hg3⟩; obtain ⟨A3, n3, k3, rfl⟩ := ho3.form; have HO3 := Lib.hid ho3; have HG3 := Lib.hid hg3; have hw3 := HAT.out.grew (w := w.drew) hg3 HNE.out; have HW3 := Lib.hid hw3; have q0 := hw3.c0; have q3 := hw3.c3; have q4 := hw3.c4; have gf := hw3.fr 0; clear ho3 hg3 hw3)
    all_goals
      go_wp2_with fail
      go_meet
      exact number_cut HO3.out HG3.out HO.out HNE.out HAT.out HB.out HLW.out HW3.out
  case rest =>
    obtain ⟨v3, ho3, hne3, hw3, hb3⟩ := hcut.out
    have HO3 := Lib.hid ho3
    have HN3 := Lib.hid hne3
    have HW3 := Lib.hid hw3
    have HB3 := Lib.hid hb3
    have q1 := hw3.c1
    have q2 := hw3.c2
    have q3 := hw3.c3
    have q4 := hw3.c4
    have qf := hw3.fr 4
    have qf3 := hw3.fr 3
    have qf2 := hw3.fr 2
    have hwrap : IntKind.i64.wrap ((h : Int) + 1) = (h : Int) + 1 := by rw [IntKind.wrap_i64]; omega
    clear ho3 hne3 hw3 hb3 hcut c0 c1 c2 c3 c4
    go_wp2
    go_region_held3 (fun w' => w'.cell? ⟨B, 1, none⟩ = some (.int .i64 p) ∧ w'.cell? ⟨B, 2, none⟩ = some (.int .i64 h) ∧ w'.cell? ⟨B, 3, none⟩ = some (.int .i64 d)) (first | exact ⟨HW3.out.c1, HW3.out.c2, HW3.out.c3⟩ | exact ⟨(HW3.out.set4 nb).c1, (HW3.out.set4 nb).c2, (HW3.out.set4 nb).c3⟩) ((go_at_call 14; (with_reducible refine (K2.out _).mono ?_); rintro e1 w4 ⟨rfl, rfl⟩))
    go_wp2
    go_end0
    exact ⟨rfl, ⟨HLW.out, v3, ((HO3.out.set HN3.out _ _).set HN3.out _ _).set HN3.out _ _, HN3.out, ((HW3.out.set4 nb).set3 0).set2 _⟩, (((HB3.out.setCell (p := ⟨B, 4, none⟩) HLW.out _).setCell (p := ⟨B, 3, none⟩) HLW.out _).setCell (p := ⟨B, 2, none⟩) HLW.out _).drew⟩
end Go.Proofs.Ytkgikkdgfhonlaa
