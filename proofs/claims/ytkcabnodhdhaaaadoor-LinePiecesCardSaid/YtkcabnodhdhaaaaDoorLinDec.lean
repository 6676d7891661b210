/-
  Proved here: what the library's reader of characters tells of bytes that are no ASCII; what its tables must hold. Conditions: as they stand in each.
-/
import Derived.Test.YtkcabnodhdhaaaaDoorLinDecLays
import Derived.Test.YtkcabnodhdhaaaaDoorLinOk
import Derived.Lib.DecodeN
import Derived.Lib.IndexEntry
import Derived.Laws.Runes
namespace Go.Proofs.YtkcabnodhdhaaaaDoor
open Go.RowKit
namespace Lin
theorem decodeN_high {n b0 b1 b2 b3 : Nat} (hn : 0 < n) (h : ¬ b0 < 128) :
    128 ≤ (Lib.decodeN n b0 b1 b2 b3).1 ∧ 1 ≤ (Lib.decodeN n b0 b1 b2 b3).2 ∧ (Lib.decodeN n b0 b1 b2 b3).2 ≤ n ∧ (Lib.decodeN n b0 b1 b2 b3).2 ≤ 4 ∧ (1 < (Lib.decodeN n b0 b1 b2 b3).2 → 128 ≤ b1) ∧ (2 < (Lib.decodeN n b0 b1 b2 b3).2 → 128 ≤ b2) ∧ (3 < (Lib.decodeN n b0 b1 b2 b3).2 → 128 ≤ b3) ∧
      ((Lib.decodeN n b0 b1 b2 b3).1 < 55296 ∨ (57343 < (Lib.decodeN n b0 b1 b2 b3).1 ∧ (Lib.decodeN n b0 b1 b2 b3).1 ≤ 1114111)) := by
  unfold Lib.decodeN
  rw [if_neg h]
  repeat' split
  all_goals simp only []
  all_goals omega
theorem decodeN_wide {n b0 b1 b2 b3 : Nat} (h : ¬ b0 < 128) :
    (Lib.decodeN n b0 b1 b2 b3).1 = 65533 ∨ ((Lib.decodeN n b0 b1 b2 b3).2 = 2 ∧ (Lib.decodeN n b0 b1 b2 b3).1 < 2048) ∨ ((Lib.decodeN n b0 b1 b2 b3).2 = 3 ∧ 2048 ≤ (Lib.decodeN n b0 b1 b2 b3).1 ∧ (Lib.decodeN n b0 b1 b2 b3).1 < 65536) ∨ ((Lib.decodeN n b0 b1 b2 b3).2 = 4 ∧ 65536 ≤ (Lib.decodeN n b0 b1 b2 b3).1) := by
  unfold Lib.decodeN
  rw [if_neg h]
  repeat' split
  all_goals first
    | exact .inl rfl
    | exact .inr (.inl ⟨rfl, by simp only []; omega⟩)
    | exact .inr (.inr (.inl ⟨rfl, by simp only []; omega, by simp only []; omega⟩))
    | exact .inr (.inr (.inr ⟨rfl, by simp only []; omega⟩))
/-- A reading of bytes that begin with no ASCII: the character, how many bytes it takes, and that no ASCII is among them. -/
theorem read_high {l : List UInt8} (h0 : 0 < l.length) (hb : ¬ l[0]!.toNat < 128) :
    ∃ r n : Nat, Lib.decodeGo ⟨l.toArray⟩ = (r, n) ∧ 128 ≤ r ∧ 1 ≤ n ∧ n ≤ l.length ∧ n ≤ 4 ∧ (∀ j, j < n → 128 ≤ l[j]!.toNat) ∧ (r < 55296 ∨ (57343 < r ∧ r ≤ 1114111)) ∧ (r = 65533 ∨ (n = 2 ∧ r < 2048) ∨ (n = 3 ∧ 2048 ≤ r ∧ r < 65536) ∨ (n = 4 ∧ 65536 ≤ r)) := by
  have hs : (⟨l.toArray⟩ : ByteArray).size = l.length := rfl
  have e : ∀ j, (⟨l.toArray⟩ : ByteArray).get! j = l[j]! := fun j => by
    show l.toArray[j]! = l[j]!
    simp
  have hd : Lib.decodeGo ⟨l.toArray⟩ = Lib.decodeN l.length l[0]!.toNat l[1]!.toNat l[2]!.toNat l[3]!.toNat := by
    unfold Lib.decodeGo
    rw [hs, if_neg (show ¬ l.length = 0 by omega), Lib.decode_at, hs, e, e, e, e]
    rfl
  have h9 := decodeN_wide (n := l.length) (b1 := l[1]!.toNat) (b2 := l[2]!.toNat) (b3 := l[3]!.toNat) hb
  obtain ⟨h1, h2, h3, h4, h5, h6, h7, h8⟩ := decodeN_high (b1 := l[1]!.toNat) (b2 := l[2]!.toNat) (b3 := l[3]!.toNat) h0 hb
  generalize Lib.decodeN l.length l[0]!.toNat l[1]!.toNat l[2]!.toNat l[3]!.toNat = D at hd h1 h2 h3 h4 h5 h6 h7 h8 h9
  obtain ⟨r, n⟩ := D
  simp only at h1 h2 h3 h4 h5 h6 h7 h8 h9
  refine ⟨r, n, hd, h1, h2, h3, h4, fun j hj => ?_, h8, h9⟩
  rcases (by omega : j = 0 ∨ j = 1 ∨ j = 2 ∨ j = 3) with rfl | rfl | rfl | rfl
  · omega
  · exact h5 (by omega)
  · exact h6 (by omega)
  · exact h7 (by omega)
theorem valid_of {r : Nat} (h : r < 55296 ∨ (57343 < r ∧ r ≤ 1114111)) : Utf8.valid (r : Int) = true := by
  have hr : 0 ≤ (r : Int) := by omega
  unfold Utf8.valid
  simp only [Bool.and_eq_true, Bool.or_eq_true, decide_eq_true_eq]
  omega
theorem encode_size {r n : Nat} (hv : r < 55296 ∨ (57343 < r ∧ r ≤ 1114111)) (h : 128 ≤ r) (hn : (n = 2 ∧ r < 2048) ∨ (n = 3 ∧ 2048 ≤ r ∧ r < 65536) ∨ (n = 4 ∧ 65536 ≤ r)) : (Utf8.encode (r : Int)).size = n := by
  unfold Utf8.encode
  simp only [valid_of hv, if_true, Int.toNat_natCast]
  rw [if_neg (by omega)]
  split
  · rw [show n = 2 by omega]; rfl
  · split
    · rw [show n = 3 by omega]; rfl
    · rw [show n = 4 by omega]; rfl
/-- A character that is no ASCII is no line's end, and not found in one. -/
theorem encode_far {r : Nat} (hv : r < 55296 ∨ (57343 < r ∧ r ≤ 1114111)) (h : 128 ≤ r) : ∃ c t, (Utf8.encode (r : Int)).data.toList = c :: t ∧ 128 ≤ c.toNat := by
  unfold Utf8.encode
  simp only [valid_of hv, if_true, Int.toNat_natCast]
  rw [if_neg (by omega)]
  split
  · exact ⟨_, _, rfl, by simp; omega⟩
  · split
    · exact ⟨_, _, rfl, by simp; omega⟩
    · exact ⟨_, _, rfl, by simp; omega⟩
theorem find_none {r : Nat} (hv : r < 55296 ∨ (57343 < r ∧ r ≤ 1114111)) (h : 128 ≤ r) : Lib.index [13, 10] (Utf8.encode (r : Int)).data.toList = -1 := by
  obtain ⟨c, t, e, hc⟩ := encode_far hv h
  refine Lib.index_none fun j hj => ?_
  cases ho : Lib.occAt [13, 10] (Utf8.encode (r : Int)).data.toList j with
  | false => rfl
  | true =>
    have h2 := Lib.occAt_head e ho
    have h3 : j ≤ 2 := hj
    clear ho e
    rcases (by omega : j = 0 ∨ j = 1 ∨ j = 2) with rfl | rfl | rfl
    · simp only [List.getElem?_cons_zero, Option.some.injEq] at h2
      rw [← h2] at hc
      exact absurd hc (by decide)
    · simp only [List.getElem?_cons_succ, List.getElem?_cons_zero, Option.some.injEq] at h2
      rw [← h2] at hc
      exact absurd hc (by decide)
    · simp at h2
theorem not_end {r : Nat} (hv : r < 55296 ∨ (57343 < r ∧ r ≤ 1114111)) (h : 128 ≤ r) : ((⟨#[13, 10]⟩ : ByteArray).toList == (Utf8.encode (r : Int)).toList) = false := by
  rw [beq_eq_false_iff_ne]
  intro e
  rw [Lib.toList_data, Lib.toList_data] at e
  obtain ⟨c, t, e2, hc⟩ := encode_far hv h
  rw [← e] at e2
  injection e2 with e3
  subst e3
  exact absurd hc (by decide)
end Lin
/-- What the library's reader of characters reads of memory: its two tables, and some number where it keeps how long its search is. -/
def LTabs (w : World) : Prop := Lib.Utf8Tabs 1 2 w ∧ ∃ m, w.cell? ⟨0, 0, none⟩ = some (.int .i64 m)
theorem LTabs.keep {w w' : World} (h : LTabs w) (b : Below w.heap.size w w') : LTabs w' := by
  obtain ⟨h1, m, h2⟩ := h
  refine ⟨Utf8Tabs_below h1 b, m, ?_⟩
  have hlt := World.block_lt_of_cell? _ _ h2
  exact (b.cell hlt).trans h2
theorem decode_any (l : List UInt8) (b off cap : Nat) (w : World) (hT : LTabs w) (hp : ∀ j, j < l.length → w.cell? ⟨b, off + j, none⟩ = some (.int .u8 l[j]!.toNat)) :
    Calls Tryd.prog 34 #[.slice (some ⟨b, off, none⟩) l.length cap] w fun e w' => e = .returned (.tuple #[.int .i32 (Lib.decodeGo ⟨l.toArray⟩).1, .int .i64 (Lib.decodeGo ⟨l.toArray⟩).2]) ∧ Below w.heap.size w w' := by
  have h := Any7.utf8_DecodeRune dec_lays ⟨l.toArray⟩ b off cap w hT.1 fun j hj => by
    have := hp j hj
    rw [this]
    show _ = some (Value.int .u8 ((l.toArray[j]!).toNat : Int))
    simp
  exact h
end Go.Proofs.YtkcabnodhdhaaaaDoor
