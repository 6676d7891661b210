/-
  Proved here: label's asks: when makes one that knows one error, first asks one behind the other until one tells an error. Conditions: each ask can be called where those ahead of it told none.
-/
import Derived.Test.YtmbammhkkcnoaaaGreatCtxAll
namespace Go.Proofs.YtmbammhkkcnoaaaGreat
open Go.RowKit
/-- What first tells: the error of the k-th ask, where those ahead of it told none, or none. -/
def FirstPost (n : Nat) (E : Nat → Int) (I : Nat → World → Prop) (e : Ending) (w' : World) : Prop :=
  ∃ k, k ≤ n ∧ (∀ j, j < k → E j = 0) ∧ ((k < n ∧ E k ≠ 0 ∧ e = .returned (.int .i64 (E k)) ∧ I (k + 1) w') ∨ (k = n ∧ e = .returned (.int .i64 0) ∧ I n w'))
set_option maxHeartbeats 2000000 in
set_option maxRecDepth 100000 in
theorem first_any (ad : Addr) (n : Nat) (E : Nat → Int) (I : Nat → World → Prop) (w : World) (hn : n ≤ 100) (h0 : I 0 w)
    (hask : ∀ k, k < n → (∀ j, j < k → E j = 0) → ∀ W, I k W → ∃ g cb, W.cell? (ad.add k) = some (.func (.func g) #[] cb) ∧ (∀ args w, (callFunc g args).run Tryz.prog w = .ok (.enter g args) w) ∧ Calls Tryz.prog g cb W fun e W' => e = .returned (.int .i64 (E k)) ∧ I (k + 1) W') :
    Calls Tryz.prog 81 #[.slice (some ad) n n] w (FirstPost n E I) := by
  have HA := Lib.hid hask
  have H0 := Lib.hid h0
  clear hask h0
  go_enter Tryz.func81, Tryz.ntmps81
  go_wp2
  go_loopg [4, 5, 8] n (fun gg _ _ s8 wr => ∃ k : Nat, k ≤ n ∧ n - k ≤ gg ∧ s8 = .int .i64 k ∧ Hid (I k wr) ∧ Hid (∀ j, j < k → E j = 0))
  case atStart => exact ⟨0, Nat.zero_le _, by omega, rfl, H0.out, fun j hj => absurd hj (Nat.not_lt_zero _)⟩
  case round =>
    obtain ⟨k, hk, hg, rfl, IW, A⟩ := hrel
    by_cases hlt : k < n
    · have hkz : (k : Int) < (n : Int) := by omega
      obtain ⟨g, cb, hcell, eg, hcall⟩ := HA.out k hlt A.out wr IW.out
      obtain ⟨x, hx⟩ : ∃ x, x = E k := ⟨_, rfl⟩
      rw [← hx] at hcall
      have HX := Lib.hid hx
      have HC := Lib.hid hcall
      clear hx hcall
      by_cases h0 : x = 0
      · have R := Lib.hid (HX.out.symm.trans h0)
        subst h0
        go_wp2_with fail
        refine HC.out.mono ?_
        rintro e w2 ⟨rfl, hi⟩
        have I2 := Lib.hid hi
        clear hi hcell
        go_wp2
        go_roundg (n - (k + 1))
        case measure => omega
        case rel =>
          refine ⟨k + 1, by omega, by omega, by go_num, I2.out, (show Hid _ from fun j hj => ?_)⟩
          by_cases e : j = k
          · subst e; exact R.out
          · exact A.out j (by omega)
      · have hx0 : (x == 0) = false := by rw [beq_eq_false_iff_ne]; exact h0
        have H0' := Lib.hid h0
        go_wp2_with fail
        refine HC.out.mono ?_
        rintro e w2 ⟨rfl, hi⟩
        have I2 := Lib.hid hi
        clear hi hcell
        go_wp2
        go_ret
        exact ⟨k, by omega, A.out, .inl ⟨hlt, by rw [← HX.out]; exact H0'.out, by rw [HX.out]; rfl, I2.out⟩⟩
    · have hkz : ¬ (k : Int) < (n : Int) := by omega
      obtain rfl : k = n := by omega
      go_wp2
      go_ret
      exact ⟨k, by omega, A.out, .inr ⟨rfl, rfl, IW.out⟩⟩
/-- What when makes. -/
def WhenPost (n : Nat) (x : Int) (g : Nat) (cb : Array Value) (e : Ending) (w w' : World) : Prop :=
  e = .returned (.func (.func 128) #[] #[.pointer (some ⟨n + 1, 0, none⟩), .pointer (some ⟨n, 0, none⟩)]) ∧ w'.heap.size = n + 2 ∧
    w'.cell? ⟨n, 0, none⟩ = some (.int .i64 x) ∧ w'.cell? ⟨n + 1, 0, none⟩ = some (.func (.func g) #[] cb) ∧ Below n w w'
set_option maxHeartbeats 2000000 in
set_option maxRecDepth 100000 in
theorem when_any (n : Nat) (x : Int) (g : Nat) (cb : Array Value) (w : World) (hn : w.heap.size = n) :
    Calls Tryz.prog 82 #[.int .i64 x, .func (.func g) #[] cb] w fun e w' => WhenPost n x g cb e w w' := by
  subst hn
  go_enter Tryz.func82, Tryz.ntmps82
  go_wp2
  go_ret
  refine ⟨rfl, by simp, ?_, ?_, below_pair _ _ _⟩
  · go_simp
  · go_simp
set_option maxHeartbeats 2000000 in
set_option maxRecDepth 100000 in
theorem when1_any (n g : Nat) (cb : Array Value) (x : Int) (b : Bool) (Q : World → Prop) (w : World) (c1 : w.cell? ⟨n + 1, 0, none⟩ = some (.func (.func g) #[] cb))
    (eg : ∀ args w, (callFunc g args).run Tryz.prog w = .ok (.enter g args) w) (hf : Calls Tryz.prog g cb w fun e w' => e = .returned (.bool b) ∧ Q w') (hq : ∀ w', Q w' → w'.cell? ⟨n, 0, none⟩ = some (.int .i64 x)) :
    Calls Tryz.prog 128 #[.pointer (some ⟨n + 1, 0, none⟩), .pointer (some ⟨n, 0, none⟩)] w fun e w' => e = .returned (.int .i64 (if b then x else 0)) ∧ Q w' := by
  have HF := Lib.hid hf
  have HQ := Lib.hid hq
  clear hf hq
  cases b
  · go_enter Tryz.func128, Tryz.ntmps128
    go_wp2_with fail
    refine HF.out.mono ?_
    rintro e w2 ⟨rfl, hq⟩
    have Q2 := Lib.hid hq
    clear hq
    go_wp2
    go_ret
    exact ⟨rfl, Q2.out⟩
  · go_enter Tryz.func128, Tryz.ntmps128
    go_wp2_with fail
    refine HF.out.mono ?_
    rintro e w2 ⟨rfl, hq⟩
    have d0 := HQ.out _ hq
    have Q2 := Lib.hid hq
    clear hq
    go_wp2
    go_ret
    exact ⟨rfl, Q2.out⟩
end Go.Proofs.YtmbammhkkcnoaaaGreat
