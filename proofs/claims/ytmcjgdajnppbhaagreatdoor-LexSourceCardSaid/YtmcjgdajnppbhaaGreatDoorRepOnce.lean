/-
  Proved here: a replacer is built once, when it is first asked: the lock is taken, the builder is called, what was built is kept, the lock is let go. Conditions: one goroutine; the replacer is as strings.NewReplacer makes it, of a quote's two signs.
-/
import Derived.Test.YtmcjgdajnppbhaaGreatDoorRepBuild
import Derived.Defers
import Derived.Laws.Pointers
import Derived.Laws.LoneSync
import Derived.RegionTactic
import Derived.RegionCalls
namespace Go.Proofs.YtmcjgdajnppbhaaGreatDoor
open Go.RowKit Utf
/-- A replacer lies in block g: whether it is done, its lock, what it was built to, and its strings. -/
def GAt (g : Nat) (d m : Int) (r o : Value) (W : World) : Prop := W.heap[g]? = some (.cells #[.int .u32 d, .int .i32 m, .int .u32 0, r, o] 63 (0, 0))
section
variable {g : Nat} {d m : Int} {r o : Value} {W : World}
theorem GAt.lt (H : GAt g d m r o W) : g < W.heap.size := (Array.getElem?_eq_some_iff.1 H).1
theorem GAt.c0 (H : GAt g d m r o W) : W.cell? ⟨g, 0, none⟩ = some (.int .u32 d) := by unfold GAt at H; simp [World.cell?, H]
theorem GAt.c1 (H : GAt g d m r o W) : W.cell? ⟨g, 1, none⟩ = some (.int .i32 m) := by unfold GAt at H; simp [World.cell?, H]
theorem GAt.c3 (H : GAt g d m r o W) : W.cell? ⟨g, 3, none⟩ = some r := by unfold GAt at H; simp [World.cell?, H]
theorem GAt.c4 (H : GAt g d m r o W) : W.cell? ⟨g, 4, none⟩ = some o := by unfold GAt at H; simp [World.cell?, H]
theorem GAt.fr (H : GAt g d m r o W) (k : Nat) : W.frozen? ⟨g, k, none⟩ = false := by unfold GAt at H; simp [World.frozen?, H]
theorem GAt.set0 (H : GAt g d m r o W) (x : Int) : GAt g x m r o (W.setCell ⟨g, 0, none⟩ (.int .u32 x)) := by unfold GAt at H ⊢; simp [World.setCell, Array.getElem?_modify, H]
theorem GAt.set1 (H : GAt g d m r o W) (x : Int) : GAt g d x r o (W.setCell ⟨g, 1, none⟩ (.int .i32 x)) := by unfold GAt at H ⊢; simp [World.setCell, Array.getElem?_modify, H]
theorem GAt.set3 (H : GAt g d m r o W) (x : Value) : GAt g d m x o (W.setCell ⟨g, 3, none⟩ x) := by unfold GAt at H ⊢; simp [World.setCell, Array.getElem?_modify, H]
theorem GAt.set4 (H : GAt g d m r o W) (x : Value) : GAt g d m r x (W.setCell ⟨g, 4, none⟩ x) := by unfold GAt at H ⊢; simp [World.setCell, Array.getElem?_modify, H]
theorem GAt.drew (H : GAt g d m r o W) : GAt g d m r o W.drew := H
theorem GAt.keep {W' : World} (H : GAt g d m r o W) (hb : Below W.heap.size W W') : GAt g d m r o W' := (hb.block g H.lt).trans H
end
theorem RepOk.drew {base B : Nat} {W : World} (h : RepOk base B W) : RepOk base B W.drew := h
theorem race_off (w : World) : (callFunc 67 #[]).run Tryz.prog w = .ok (.value (.tuple #[])) w := run_call_mark0 Tryz.func67 (by kernel_rfl) (by kernel_rfl) (by kernel_rfl) .disable (by kernel_rfl) w
theorem race_on (w : World) : (callFunc 69 #[]).run Tryz.prog w = .ok (.value (.tuple #[])) w := run_call_mark0 Tryz.func69 (by kernel_rfl) (by kernel_rfl) (by kernel_rfl) .enable (by kernel_rfl) w
theorem race_take (a : Addr) (w : World) : (callFunc 70 #[.pointer (some a)]).run Tryz.prog w = .ok (.value (.tuple #[])) w := run_call_marked Tryz.func70 (by kernel_rfl) (by kernel_rfl) (by kernel_rfl) .acquire (by kernel_rfl) a w
theorem race_give (a : Addr) (w : World) : (callFunc 72 #[.pointer (some a)]).run Tryz.prog w = .ok (.value (.tuple #[])) w := run_call_marked Tryz.func72 (by kernel_rfl) (by kernel_rfl) (by kernel_rfl) .releaseMerge (by kernel_rfl) a w
set_option maxRecDepth 100000 in
/-- '(*sync/atomic.Bool).Load'. -/
theorem boolLoad_any (a : Addr) (d : Int) (w : World) (hc : w.cell? a = some (.int .u32 d)) : Calls Tryz.prog 34 #[.pointer (some a)] w fun e w' => e = .returned (.bool (d != 0)) ∧ w' = w := by
  have hl := run_call_load (P := Tryz.prog) Tryz.func47 (by kernel_rfl) (by kernel_rfl) (by kernel_rfl) .u32 (by kernel_rfl) hc
  go_enter Tryz.func34, Tryz.ntmps34
  go_wp2
  go_ret
  exact ⟨rfl, rfl⟩
set_option maxRecDepth 100000 in
theorem b32_true (w : World) : Calls Tryz.prog 60 #[.bool true] w fun e w' => e = .returned (.int .u32 1) ∧ w = w' := by
  go_enter Tryz.func60, Tryz.ntmps60
  go_wp2
  go_ret
  exact ⟨rfl, rfl⟩
set_option maxRecDepth 100000 in
/-- '(*sync/atomic.Bool).Store(true)', entered as a deferred call. -/
theorem store_last (a : Addr) (x : Value) (u : FrameMode) (w : World) (hc : w.cell? a = some x) (hz : w.frozen? a = false) :
    CallsD Tryz.prog 50 #[.pointer (some a), .bool true] u w fun e u' w' => u' = u ∧ (e = .returned (.tuple #[]) ∧ w' = w.drew.setCell a (.int .u32 1)) := by
  have hc' : w.drew.cell? a = some x := by go_simp
  have hz' : w.drew.frozen? a = false := by go_simp
  have hst := run_call_store (P := Tryz.prog) Tryz.func59 (by kernel_rfl) (by kernel_rfl) (by kernel_rfl) (by kernel_rfl) (k := .u32) (y := 1) hc' hz'
  go_enter_d Tryz.func50, Tryz.ntmps50
  go_wp2
  go_region_calls
  all_goals (go_end0; exact ⟨rfl, rfl⟩)
set_option maxRecDepth 100000 in
theorem unlockIn_any (a : Addr) (w : World) (hc : w.cell? a = some (.int .i32 1)) (hz : w.frozen? a = false) :
    Calls Tryz.prog 58 #[.pointer (some a)] w fun e w' => e = .returned (.tuple #[]) ∧ w' = w.setCell a (.int .i32 0) := by
  have hd := race_off
  have he := race_on
  have hr := race_give
  have hadd := run_call_add (P := Tryz.prog) Tryz.func73 (by kernel_rfl) (by kernel_rfl) (by kernel_rfl) .i32 (by kernel_rfl) (y := -1) (s := 0) hc hz (by simp [go_sem]; rfl)
  have hcv := run_convert_to_unsafe (P := Tryz.prog) (src := 117) (dst := 121) Tryz.underlying117 Tryz.underlying121 (by kernel_rfl) hc
  go_enter Tryz.func58, Tryz.ntmps58
  go_wp2
  go_end0
  exact ⟨rfl, rfl⟩
set_option maxRecDepth 100000 in
/-- '(*sync.Mutex).Unlock', entered as a deferred call. -/
theorem unlock_last (b k : Nat) (u : FrameMode) (w : World) (hc : w.cell? ⟨b, k, none⟩ = some (.int .i32 1)) (hz : w.frozen? ⟨b, k, none⟩ = false) :
    CallsD Tryz.prog 49 #[.pointer (some ⟨b, k, none⟩)] u w fun e u' w' => u' = u ∧ (e = .returned (.tuple #[]) ∧ w' = w.setCell ⟨b, k, none⟩ (.int .i32 0)) := by
  have K := Lib.hid (unlockIn_any ⟨b, k, none⟩ w hc hz)
  go_enter_d Tryz.func49, Tryz.ntmps49
  go_wp2_with fail
  refine K.out.mono ?_
  rintro e w1 ⟨rfl, rfl⟩
  go_wp2
  go_end0
  exact ⟨rfl, rfl⟩
set_option maxRecDepth 100000 in
theorem lockIn_any (a : Addr) (w : World) (hc : w.cell? a = some (.int .i32 0)) (hz : w.frozen? a = false) :
    Calls Tryz.prog 57 #[.pointer (some a)] w fun e w' => e = .returned (.tuple #[]) ∧ w' = w.setCell a (.int .i32 1) := by
  have hd := race_off
  have he := race_on
  have ha := race_take
  have hcas := run_call_cas_hit (P := Tryz.prog) Tryz.func68 (by kernel_rfl) (by kernel_rfl) (by kernel_rfl) .i32 (by kernel_rfl) (y := 1) hc hz
  have hc' : (w.setCell a (.int .i32 1)).cell? a = some (.int .i32 1) := World.cell?_setCell_same w a _ hc
  have hcv := run_convert_to_unsafe (P := Tryz.prog) (src := 117) (dst := 121) Tryz.underlying117 Tryz.underlying121 (by kernel_rfl) hc'
  go_enter Tryz.func57, Tryz.ntmps57
  go_wp2
  first | go_end0 | (simp only [Exit.inBlock, Exit.then]; refine bodyPost_ret (results_none rfl _ _ _) rfl ?_) | refine bodyPost_ret (results_none rfl _ _ _) rfl ?_
  exact ⟨rfl, rfl⟩
set_option maxRecDepth 100000 in
theorem lock_any (b k : Nat) (w : World) (hc : w.cell? ⟨b, k, none⟩ = some (.int .i32 0)) (hz : w.frozen? ⟨b, k, none⟩ = false) :
    Calls Tryz.prog 48 #[.pointer (some ⟨b, k, none⟩)] w fun e w' => e = .returned (.tuple #[]) ∧ w' = w.setCell ⟨b, k, none⟩ (.int .i32 1) := by
  have K := Lib.hid (lockIn_any ⟨b, k, none⟩ w hc hz)
  go_enter Tryz.func48, Tryz.ntmps48
  go_wp2_with fail
  refine K.out.mono ?_
  rintro e w1 ⟨rfl, rfl⟩
  go_wp2
  go_end0
  exact ⟨rfl, rfl⟩
/-- What a replacer is made of lies there: its strings. -/
structure Made (g h c : Nat) (w : World) : Prop where
  s0 : w.cell? ⟨h, 0, none⟩ = some (.string ⟨#[34]⟩)
  s1 : w.cell? ⟨h, 1, none⟩ = some (.string ⟨#[92, 34]⟩)
  s2 : w.cell? ⟨h, 2, none⟩ = some (.string ⟨#[92]⟩)
  s3 : w.cell? ⟨h, 3, none⟩ = some (.string ⟨#[92, 92]⟩)
  ne : h ≠ g
  room : 4 ≤ c
theorem Made.set {g h c : Nat} {w : World} (H : Made g h c w) (k : Nat) (v : Value) : Made g h c (w.setCell ⟨g, k, none⟩ v) := by
  have e : ∀ j, (w.setCell ⟨g, k, none⟩ v).cell? ⟨h, j, none⟩ = w.cell? ⟨h, j, none⟩ := fun j => World.cell?_of_block (a := ⟨h, j, none⟩) (Below.heap_setCell _ _ _ _ H.ne)
  exact ⟨(e 0).trans H.s0, (e 1).trans H.s1, (e 2).trans H.s2, (e 3).trans H.s3, H.ne, H.room⟩
/-- Built: what the replacer of a block is built to, and that nothing below it is touched. -/
def Built (g : Nat) (d m : Int) (base : Nat) (w w' : World) : Prop := ∃ B, GAt g d m (.iface 98 (.pointer (some ⟨B, 0, none⟩))) (.slice none 0 0) w' ∧ RepOk base B w' ∧ Below g w w'
set_option maxHeartbeats 2000000 in
set_option maxRecDepth 100000 in
theorem buildOnce_any (g h c : Nat) (d m : Int) (r : Value) (w : World) (H : GAt g d m r (.slice (some ⟨h, 0, none⟩) 4 c) w) (M : Made g h c w) :
    Calls Tryz.prog 23 #[.pointer (some ⟨g, 0, none⟩)] w fun e w' => e = .returned (.tuple #[]) ∧ Built g d m w.heap.size w w' := by
  have K := Lib.hid (build_any g h c w H.c4 M.room ⟨#[34]⟩ ⟨#[92, 34]⟩ ⟨#[92]⟩ ⟨#[92, 92]⟩ rfl rfl rfl rfl M.s0 M.s1 M.s2 M.s3)
  have HG := Lib.hid H
  clear H M
  go_enter Tryz.func23, Tryz.ntmps23
  go_wp2_with fail
  refine K.out.mono ?_
  rintro e w1 ⟨B, rfl, hr, hb⟩
  have h1 := HG.out.keep hb
  have c3 := h1.c3
  have f3 := h1.fr 3
  have h2 := h1.set3 (.iface 98 (.pointer (some ⟨B, 0, none⟩)))
  have c4 := h2.c4
  have f4 := h2.fr 4
  have HE := Lib.hid (show Built g d m w.heap.size w ((w1.setCell ⟨g, 3, none⟩ (.iface 98 (.pointer (some ⟨B, 0, none⟩)))).setCell ⟨g, 4, none⟩ (.slice none 0 0)) from
    ⟨B, h2.set4 _, (hr.set HG.out.lt _ _).set HG.out.lt _ _, (((hb.mono (Nat.le_of_lt HG.out.lt))).setCell (p := ⟨g, 3, none⟩) (Nat.le_refl _) _).setCell (p := ⟨g, 4, none⟩) (Nat.le_refl _) _⟩)
  clear h1 h2 hr hb
  go_wp2
  go_end0
  exact ⟨rfl, HE.out⟩
set_option maxHeartbeats 4000000 in
set_option maxRecDepth 100000 in
theorem slow_any (g h c : Nat) (r : Value) (w : World) (H : GAt g 0 0 r (.slice (some ⟨h, 0, none⟩) 4 c) w) (M : Made g h c w) :
    Calls Tryz.prog 35 #[.pointer (some ⟨g, 0, none⟩), .func (.func 23) #[.pointer (some ⟨g, 0, none⟩)] #[]] w fun e w' => e = .returned (.tuple #[]) ∧ Built g 1 0 w.heap.size w w' := by
  have KL := Lib.hid (lock_any g 1 w H.c1 (H.fr 1))
  have H1 := H.set1 1
  have KD := Lib.hid (boolLoad_any ⟨g, 0, none⟩ 0 _ H1.c0)
  have KB := Lib.hid (buildOnce_any g h c 0 1 r _ H1 (M.set 1 _))
  have hsz : (w.setCell ⟨g, 1, none⟩ (.int .i32 1)).heap.size = w.heap.size := by simp
  rw [hsz] at KB
  have HB := Lib.hid (((Below.refl g w).setCell (p := ⟨g, 1, none⟩) (Nat.le_refl _) (.int .i32 1)))
  have HG := Lib.hid H.lt
  clear H H1 M hsz
  go_enter_defers Tryz.func35, Tryz.ntmps35
  go_wp2_with fail
  refine KL.out.mono ?_
  rintro e w1 ⟨rfl, rfl⟩
  go_wp2_with fail
  refine KD.out.mono ?_
  rintro e w1 ⟨rfl, rfl⟩
  go_wp2_with fail
  refine KB.out.mono ?_
  rintro e w2 ⟨rfl, B, h2, hr2, hb2⟩
  go_wp2
  refine leaves_cons (f := 50) (args := #[.pointer (some ⟨g, 0, none⟩), .bool true]) (by simp) (by simp [go_sem]) ?_
  refine (store_last ⟨g, 0, none⟩ _ .returning w2 h2.c0 (h2.fr 0)).mono ?_
  rintro e u' w'' ⟨rfl, rfl, rfl⟩
  have h3 := h2.drew.set0 1
  refine leaves_cons (f := 49) (args := #[.pointer (some ⟨g, 1, none⟩)]) (by simp [settle]) (by simp [go_sem]) ?_
  refine (unlock_last g 1 _ _ h3.c1 (h3.fr 1)).mono ?_
  rintro e u' w'' ⟨rfl, rfl, rfl⟩
  have HE := Lib.hid (show Built g 1 0 w.heap.size w ((w2.drew.setCell ⟨g, 0, none⟩ (.int .u32 1)).setCell ⟨g, 1, none⟩ (.int .i32 0)) from
    ⟨B, h3.set1 0, (hr2.drew.set HG.out _ _).set HG.out _ _, ((((HB.out.trans hb2).drew).setCell (p := ⟨g, 0, none⟩) (Nat.le_refl _) _).setCell (p := ⟨g, 1, none⟩) (Nat.le_refl _) _)⟩)
  simp [Leaves, settle, results, Tryz.results35]
  exact HE.out
set_option maxHeartbeats 2000000 in
set_option maxRecDepth 100000 in
theorem do_any (g h c : Nat) (r : Value) (w : World) (H : GAt g 0 0 r (.slice (some ⟨h, 0, none⟩) 4 c) w) (M : Made g h c w) :
    Calls Tryz.prog 22 #[.pointer (some ⟨g, 0, none⟩), .func (.func 23) #[.pointer (some ⟨g, 0, none⟩)] #[]] w fun e w' => e = .returned (.tuple #[]) ∧ Built g 1 0 w.heap.size w w' := by
  have KD := Lib.hid (boolLoad_any ⟨g, 0, none⟩ 0 _ H.c0)
  have KS := Lib.hid (slow_any g h c r w H M)
  clear H M
  go_enter Tryz.func22, Tryz.ntmps22
  go_wp2_with fail
  refine KD.out.mono ?_
  rintro e w1 ⟨rfl, rfl⟩
  go_wp2_with fail
  refine KS.out.mono ?_
  rintro e w1 ⟨rfl, hE⟩
  go_wp2
  go_end0
  exact ⟨rfl, hE⟩
end Go.Proofs.YtmcjgdajnppbhaaGreatDoor
