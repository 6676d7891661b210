/-
  Proved here: what the replacer of a quote's two signs makes of a string. Conditions: strings of at most 100,000 bytes.
-/
import Derived.Test.YtmcjgdajnppbhaaGreatDoorRepOnce
import Derived.Lib.Bytealg
import Derived.Laws.CopyOwn
namespace Go.Proofs.YtmcjgdajnppbhaaGreatDoor
open Go.RowKit Utf
namespace Lex
/-- How many bytes want a \ ahead. -/
def ext : List UInt8 → Nat
  | [] => 0
  | c :: t => (if c.toNat = 34 ∨ c.toNat = 92 then 1 else 0) + ext t
theorem esc_ext : ∀ l, (esc l).length = l.length + ext l
  | [] => rfl
  | c :: t => by
    have ih := esc_ext t
    unfold esc ext
    split
    · simp only [List.length_cons, ih]; omega
    · simp only [List.length_cons, ih]; omega
theorem esc_app : ∀ a b, esc (a ++ b) = esc a ++ esc b
  | [], _ => rfl
  | c :: t, b => by
    rw [List.cons_append, esc.eq_2, esc.eq_2, esc_app t b]
    split <;> rfl
theorem ext_app : ∀ a b, ext (a ++ b) = ext a + ext b
  | [], _ => by simp [ext]
  | c :: t, b => by
    rw [List.cons_append, ext.eq_2, ext.eq_2, ext_app t b]
    omega
theorem ext_le : ∀ l, ext l ≤ l.length
  | [] => Nat.le_refl _
  | c :: t => by
    have := ext_le t
    rw [ext.eq_2, List.length_cons]
    split <;> omega
theorem esc_same : ∀ l, ext l = 0 → esc l = l
  | [], _ => rfl
  | c :: t, h => by
    rw [ext.eq_2] at h
    by_cases hc : c.toNat = 34 ∨ c.toNat = 92
    · rw [if_pos hc] at h; omega
    · rw [if_neg hc] at h
      rw [esc.eq_2, if_neg hc, esc_same t (by omega)]
theorem ext_count : ∀ l, ext l = Lib.countByte l 92 + Lib.countByte l 34
  | [] => rfl
  | c :: t => by
    have ih := ext_count t
    unfold Lib.countByte at ih ⊢
    rw [ext.eq_2, ih, List.count_cons, List.count_cons]
    have e1 : (c == 92) = decide (c.toNat = 92) := by
      rw [Bool.eq_iff_iff, beq_iff_eq, decide_eq_true_iff, ← UInt8.toNat_inj]
      rfl
    have e2 : (c == 34) = decide (c.toNat = 34) := by
      rw [Bool.eq_iff_iff, beq_iff_eq, decide_eq_true_iff, ← UInt8.toNat_inj]
      rfl
    rw [e1, e2]
    by_cases h1 : c.toNat = 92
    · rw [if_pos (.inr h1), if_pos (by simpa using h1), if_neg (by simp [h1])]; omega
    · by_cases h2 : c.toNat = 34
      · rw [if_pos (.inl h2), if_neg (by simpa using h1), if_pos (by simpa using h2)]; omega
      · rw [if_neg (by omega), if_neg (by simpa using h1), if_neg (by simpa using h2)]; omega
theorem take_more {s : ByteArray} {i : Nat} (h : i < s.size) : s.data.toList.take (i + 1) = s.data.toList.take i ++ [s[i]] := by
  rw [List.take_add_one, List.getElem?_eq_getElem (by simpa using h)]
  rfl
theorem ext_more {s : ByteArray} {i : Nat} (h : i < s.size) : ext (s.data.toList.take (i + 1)) = ext (s.data.toList.take i) + (if s[i].toNat = 34 ∨ s[i].toNat = 92 then 1 else 0) := by
  rw [take_more h, ext_app, ext.eq_2, ext.eq_1]
  omega
theorem esc_more {s : ByteArray} {i : Nat} (h : i < s.size) : esc (s.data.toList.take (i + 1)) = esc (s.data.toList.take i) ++ (if s[i].toNat = 34 ∨ s[i].toNat = 92 then [92, s[i]] else [s[i]]) := by
  rw [take_more h, esc_app, esc.eq_2, esc.eq_1]
theorem esc_take_le (l : List UInt8) (i : Nat) : (esc (l.take i)).length ≤ (esc l).length := by
  have h := esc_app (l.take i) (l.drop i)
  rw [List.take_append_drop] at h
  rw [h, List.length_append]
  omega
end Lex
/-- A buffer of n bytes lies in block G, the first of which are x. -/
def bufL (n : Nat) (x : List UInt8) : List Value := x.map byteV ++ List.replicate (n - x.length) (.int .u8 0)
def BufAt (G n : Nat) (x : List UInt8) (W : World) : Prop := W.heap[G]? = some (.cells (bufL n x).toArray 5 (0, 0)) ∧ x.length ≤ n
theorem bufL_len {n : Nat} {x : List UInt8} (h : x.length ≤ n) : (bufL n x).length = n := by unfold bufL; simp; omega
theorem bufL_set {n : Nat} {x : List UInt8} (h : x.length < n) (c : UInt8) : (bufL n x).set x.length (.int .u8 (c.toNat : Int)) = bufL n (x ++ [c]) := by
  unfold bufL
  rw [List.set_append_right _ _ (by simp), List.length_map, Nat.sub_self, show n - x.length = (n - (x ++ [c]).length) + 1 by rw [List.length_append]; simp; omega, List.replicate_succ, List.set_cons_zero]
  simp [byteV]
theorem bufL_two (n : Nat) (x : List UInt8) (c d : UInt8) : (bufL n x).take x.length ++ [.int .u8 (c.toNat : Int), .int .u8 (d.toNat : Int)] ++ (bufL n x).drop (x.length + 2) = bufL n (x ++ [c, d]) := by
  unfold bufL
  rw [List.take_append_of_le_length (by simp), List.take_of_length_le (by simp), List.drop_append, List.drop_of_length_le (by simp), List.nil_append, List.length_map, List.drop_replicate]
  simp [byteV]
  omega
theorem BufAt.lt {G n : Nat} {x : List UInt8} {W : World} (h : BufAt G n x W) : G < W.heap.size := (Array.getElem?_eq_some_iff.1 h.1).1
theorem BufAt.fr {G n : Nat} {x : List UInt8} {W : World} (h : BufAt G n x W) (k : Nat) : W.frozen? ⟨G, k, none⟩ = false := by simp [World.frozen?, h.1]
theorem BufAt.at_ {G n : Nat} {x : List UInt8} {W : World} (h : BufAt G n x W) (k : Nat) (hk : k < n) : ∃ v, W.cell? ⟨G, k, none⟩ = some v := by
  refine ⟨(bufL n x)[k]'(by rw [bufL_len h.2]; exact hk), ?_⟩
  simp [World.cell?, h.1, bufL_len h.2, hk]
theorem BufAt.put {G n : Nat} {x : List UInt8} {W : World} (h : BufAt G n x W) (hx : x.length < n) (c : UInt8) : BufAt G n (x ++ [c]) (W.setCell ⟨G, x.length, none⟩ (.int .u8 (c.toNat : Int))) := by
  refine ⟨?_, by rw [List.length_append]; simp; omega⟩
  rw [← bufL_set hx c]
  simp [World.setCell, Array.getElem?_modify, h.1]
theorem BufAt.drew {G n : Nat} {x : List UInt8} {W : World} (h : BufAt G n x W) : BufAt G n x W.drew := h
theorem BufAt.bytes {G : Nat} {x : List UInt8} {W : World} (h : BufAt G x.length x W) : Bytes (.slice (some ⟨G, 0, none⟩) x.length x.length) x W := by
  refine ⟨some ⟨G, 0, none⟩, x.length, by rw [List.length_map], by rw [List.length_map]; exact Nat.le_refl _, fun h => (by cases h), fun _ => ⟨_, rfl, h.lt, fun j u hu => ?_⟩⟩
  have e : (⟨G, 0, none⟩ : Addr).add j = ⟨G, j, none⟩ := by unfold Addr.add; split <;> simp_all
  have h1 := h.1
  unfold bufL at h1
  rw [Nat.sub_self, List.replicate_zero, List.append_nil] at h1
  rw [e, ← hu]
  simp [World.cell?, h1]
theorem make_bytes (n : Nat) (hn : n ≤ 1000000) (W : World) : (Instr.makeSlice 36 (.int .i64 (n : Int)) (.int .i64 (n : Int))).run Tryz.prog W = .ok (.slice (some ⟨W.heap.size, 0, none⟩) n n) (W.alloc (.cells (bufL n []).toArray 5)) := by
  obtain ⟨i0, hi, hz0, hz1, hz2⟩ := info_parts info_u8
  have h := run_makeSlice (P := Tryz.prog) (w := W) 36 5 i0 (.int .u8 0) Tryz.underlying36 hi hz0 .i64 .i64 (n : Int) (n : Int) (by omega) (Int.le_refl _) (by rw [hz1]; omega) (by rw [hz2]; omega) (by omega)
  rw [h, Int.toNat_natCast, hz1, Nat.mul_one]
  have e : madeCells (Value.int .u8 0).cells n = (bufL n []).toArray := by
    unfold madeCells bufL
    rw [show (Value.int IntKind.u8 0).cells = #[Value.int .u8 0] from rfl]
    apply Array.ext
    · simp
    · intro i h1 h2
      simp [Nat.mod_one]
  rw [e]
theorem bufAt_new (W : World) (n : Nat) : BufAt W.heap.size n [] (W.alloc (.cells (bufL n []).toArray 5)) := ⟨heap_alloc_new W _, Nat.zero_le _⟩
/-- 'copy(buf[j:], two)'. -/
theorem BufAt.copy {G n : Nat} {x : List UInt8} {W : World} (h : BufAt G n x W) (hx : x.length + 2 ≤ n) (p c1 : Nat) (c d : UInt8) (hp : TwoAt p (c.toNat : Int) (d.toNat : Int) W) :
    ∃ W2, (∀ ty, (Builtin.copy_ #[36, 36] ty #[.slice (some ⟨G, x.length, none⟩) (n - x.length) (n - x.length), .slice (some ⟨p, 0, none⟩) 2 c1]).run Tryz.prog W = .ok (.int .i64 2) W2) ∧ BufAt G n (x ++ [c, d]) W2 ∧ (∀ m, m ≤ G → Below m W W2) := by
  obtain ⟨i0, hi, hz0, hz1, hz2⟩ := info_parts info_u8
  have hrun := fun ty => run_copy_row (P := Tryz.prog) W 36 36 ty 5 G x.length (n - x.length) (n - x.length) ⟨p, 0, none⟩ 2 c1 (bufL n x).toArray 5 [.int .u8 (c.toNat : Int), .int .u8 (d.toNat : Int)] Tryz.underlying36 (by rw [hi]; exact congrArg some hz1) h.1
    (by show 2 = Nat.min 2 (n - x.length); simp only [Nat.min_def]; split <;> omega)
    (fun j v hj => by
      rw [Addr.add_lit]
      match j, hj with
      | 0, hj => simp only [List.getElem?_cons_zero, Option.some.injEq] at hj; subst hj; exact hp.2.1
      | 1, hj => simp only [List.getElem?_cons_succ, List.getElem?_cons_zero, Option.some.injEq] at hj; subst hj; exact hp.2.2
      | j + 2, hj => simp at hj)
    (by show x.length + 2 ≤ _; rw [List.size_toArray, bufL_len h.2]; exact hx)
    (fun v hv => by simp only [List.mem_cons, List.not_mem_nil, or_false] at hv; rcases hv with rfl | rfl <;> rfl)
  refine ⟨_, fun ty => hrun ty, ⟨?_, by rw [List.length_append]; simp; omega⟩, fun m hm => ?_⟩
  · rw [setRow_heap W G _ _ _ _ h.1]
    rw [← bufL_two n x c d]
    simp
  · exact below_setRow (Below.refl _ _) hm _
set_option maxHeartbeats 1000000 in
set_option maxRecDepth 100000 in
/-- strings.Count of one byte. -/
theorem countOne_any (s t : ByteArray) (c : UInt8) (w : World) (ht : t = ⟨#[c]⟩) : Calls Tryz.prog 118 #[.string s, .string t] w fun e w' => e = .returned (.int .i64 (Lib.countByte s.data.toList c : Nat)) ∧ w = w' := by
  have hz : t.size = 1 := by rw [ht]; rfl
  have h0 : t[0] = c := by subst ht; rfl
  clear ht
  have hc : (c.toNat : Int).toNat.toUInt8 = c := by rw [Int.toNat_natCast]; exact UInt8.ofNat_toNat
  go_enter Tryz.func118, Tryz.ntmps118
  go_wp2
  rw [run_callFunc_extern Tryz.func120 (by kernel_rfl) (by kernel_rfl) (by kernel_rfl) (e := Extern.BytealgCount.count) (by kernel_rfl), Lib.run_countString, hc]
  simp only [Result.andThen]
  rw [Oper.upon_value]
  go_wp2
  go_ret
  exact ⟨rfl, rfl⟩
end Go.Proofs.YtmcjgdajnppbhaaGreatDoor
