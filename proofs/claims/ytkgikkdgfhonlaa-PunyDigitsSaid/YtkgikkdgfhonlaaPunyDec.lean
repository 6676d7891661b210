/-
  Proved here: the document's own 'Decode' of layer 5: the characters that bytes tell. Conditions: as they stand in each.
-/
import Derived.Test.YtkgikkdgfhonlaaPunyNum
namespace Go.Proofs.Ytkgikkdgfhonlaa
open Go.RowKit Utf
namespace Puny
/-- May this delta be read? -/
def okStep (r : Rd) (d : Int) : Bool := decide (r.i + d ≤ limit) && rightZ (r.n + (r.i + d) / (r.out.length + 1))
/-- The deltas of bytes, one by one. -/
def decL : Nat → List UInt8 → Int → Bool → Rd → Option (List Int)
  | _, [], _, _, r => some r.out
  | 0, _ :: _, _, _, _ => none
  | k + 1, x :: l, b, f, r => match numB b (x :: l) 36 1 0 0 with
    | none => none
    | some (d, m) => if okStep r d then decL k ((x :: l).drop m) (adapt d (r.out.length + 1) f) false (rstep r d) else none
/-- The place of the last dash; a, if there is none. -/
def dashFrom : List UInt8 → Nat → Nat → Nat
  | [], _, a => a
  | c :: t, k, a => dashFrom t (k + 1) (if c.toNat = 45 then k else a)
def dashAt (bs : List UInt8) : Nat := dashFrom bs 0 0
def wideB (bs : List UInt8) : Bool := bs.any fun c => decide (127 < c.toNat)
def tailAt (bs : List UInt8) : Nat := if dashAt bs = 0 then 0 else dashAt bs + 1
/-- What bytes tell. -/
def decB (bs : List UInt8) : Option (List Int) :=
  if wideB bs then none else decL bs.length (bs.drop (tailAt bs)) 72 true (start ((bs.take (dashAt bs)).map byteZ))
theorem dashFrom_le : ∀ (t : List UInt8) (k a : Nat), a ≤ k → dashFrom t k a ≤ k + t.length ∧ (dashFrom t k a = a ∨ dashFrom t k a < k + t.length)
  | [], k, a, h => ⟨by simpa [dashFrom] using h, .inl rfl⟩
  | c :: t, k, a, h => by
    unfold dashFrom
    split
    · have := dashFrom_le t (k + 1) k (by omega)
      simp only [List.length_cons]
      omega
    · have := dashFrom_le t (k + 1) a (by omega)
      simp only [List.length_cons]
      omega
theorem dashAt_lt (bs : List UInt8) : dashAt bs = 0 ∨ dashAt bs < bs.length := by
  have := (dashFrom_le bs 0 0 (Nat.le_refl _)).2
  unfold dashAt
  omega
theorem tailAt_le (bs : List UInt8) : tailAt bs ≤ bs.length := by
  have := dashAt_lt bs
  unfold tailAt
  split <;> omega
theorem numB_bd (b : Int) : ∀ (l : List UInt8) (k w s : Int) (u : Nat) (x : Int) (v : Nat), numB b l k w s u = some (x, v) → 1 ≤ w → 0 ≤ s → 0 ≤ x ∧ x ≤ limit ∧ u + 1 ≤ v ∧ v ≤ u + l.length
  | [], _, _, _, _, _, _, h, _, _ => by cases h
  | c :: l, k, w, s, u, x, v, h, hw, hs => by
    unfold numB at h
    cases hv : valOf (byteZ c) with
    | none => rw [hv] at h; cases h
    | some d =>
      rw [hv] at h
      simp only at h
      have hd := valOf_bd hv
      have ht := thr_bd k b
      have h0 : 0 ≤ d * w := Int.mul_nonneg hd.1 (by omega)
      split at h
      · cases h
      · rename_i hlim
        split at h
        · have := Option.some.inj h
          injection this with e1 e2
          subst e1 e2
          simp only [List.length_cons]
          refine ⟨by omega, by omega, by omega, by omega⟩
        · have h1 : 1 ≤ w * (36 - thr k b) := by
            have : 1 * 1 ≤ w * (36 - thr k b) := Int.mul_le_mul hw (by omega) (by omega) (by omega)
            omega
          have := numB_bd b l _ _ _ _ _ _ h h1 (by omega)
          simp only [List.length_cons]
          omega
theorem decL_none {k : Nat} {x : UInt8} {l : List UInt8} {b : Int} {f : Bool} {r : Rd} (h : numB b (x :: l) 36 1 0 0 = none) : decL k (x :: l) b f r = none := by
  cases k with
  | zero => rfl
  | succ k => unfold decL; rw [h]
theorem decL_bad {k : Nat} {x : UInt8} {l : List UInt8} {b : Int} {f : Bool} {r : Rd} {d : Int} {m : Nat} (h : numB b (x :: l) 36 1 0 0 = some (d, m)) (ho : okStep r d = false) : decL k (x :: l) b f r = none := by
  cases k with
  | zero => rfl
  | succ k => unfold decL; rw [h]; simp [ho]
theorem decL_more {k : Nat} {x : UInt8} {l : List UInt8} {b : Int} {f : Bool} {r : Rd} {d : Int} {m : Nat} (h : numB b (x :: l) 36 1 0 0 = some (d, m)) (ho : okStep r d = true) :
    decL (k + 1) (x :: l) b f r = decL k ((x :: l).drop m) (adapt d (r.out.length + 1) f) false (rstep r d) := by
  rw [decL, h]; simp [ho]
theorem rstep_out (r : Rd) (d : Int) : (rstep r d).out = r.out.take ((r.i + d) % (r.out.length + 1)).toNat ++ ((rstep r d).n :: r.out.drop ((r.i + d) % (r.out.length + 1)).toNat) := by
  have h1 := Int.emod_nonneg (r.i + d) (b := r.out.length + 1) (by omega)
  have h2 := Int.emod_lt_of_pos (r.i + d) (b := r.out.length + 1) (by omega)
  unfold rstep
  exact insert_is _ _ _ (by omega)
theorem rstep_len (r : Rd) (d : Int) : (rstep r d).out.length = r.out.length + 1 := by
  have h1 := Int.emod_nonneg (r.i + d) (b := r.out.length + 1) (by omega)
  have h2 := Int.emod_lt_of_pos (r.i + d) (b := r.out.length + 1) (by omega)
  rw [rstep_out r d, List.length_append, List.length_cons, List.length_take, List.length_drop]
  omega
end Puny
def DecPost (o : Option (List Int)) (w : World) (e : Ending) (w' : World) : Prop :=
  ∃ A c, e = .returned (.tuple #[.slice A (o.getD []).length c, .bool o.isSome]) ∧ Runes (.slice A (o.getD []).length c) (o.getD []) w' ∧ Below w.heap.size w w'
theorem runes_nil (w : World) : Runes (.slice none 0 0) [] w := ⟨none, 0, rfl, Nat.le_refl _, fun _ => rfl, fun h => absurd h (by simp)⟩
theorem dec_no {o : Option (List Int)} {w w' : World} (h : o = none) (hb : Below w.heap.size w w') : DecPost o w (.returned (.tuple #[.slice none 0 0, .bool false])) w' := by
  subst h
  exact ⟨none, 0, rfl, runes_nil _, hb⟩
theorem OwnR.parted {base : Nat} {v : Value} {l : List Int} {w : World} (h : OwnR base v l w) : (v = .slice none 0 0 ∧ l = []) ∨ ∃ g c, v = .slice (some ⟨g, 0, none⟩) l.length c ∧ l.length ≤ c ∧ base ≤ g ∧ g < w.heap.size := by
  rcases h.2 with ⟨h0, h1⟩ | ⟨g, cap, cur, h0, h1, -, h3, -⟩
  · exact .inl ⟨h0, List.eq_nil_of_length_eq_zero h1⟩
  · exact .inr ⟨g, cap, h0, h3, h1, (World.ownsRow.lt h g (by rw [h0]; rfl)).2⟩
/-- A row's first part can be read. -/
theorem OwnR.front {base g n c : Nat} {l : List Int} {w : World} (h : OwnR base (.slice (some ⟨g, 0, none⟩) n c) l w) {m : Nat} (hm : m ≤ l.length) (hc : l.length ≤ c) (hg : g < w.heap.size) : Runes (.slice (some ⟨g, 0, none⟩) m c) (l.take m) w := by
  refine ⟨some ⟨g, 0, none⟩, c, by rw [List.length_map, List.length_take, Nat.min_eq_left hm], by rw [List.length_map, List.length_take]; omega, fun e => (by cases e), fun _ => ⟨_, rfl, hg, fun j x hx => ?_⟩⟩
  have e : (⟨g, 0, none⟩ : Addr).add j = ⟨g, j, none⟩ := by unfold Addr.add; split <;> simp_all
  have hj : j < (l.take m).length := by have := (List.getElem?_eq_some_iff.1 hx).1; simpa using this
  rw [List.length_take] at hj
  rw [e, h.cell j (by omega), ← hx, List.getElem?_map, List.getElem?_take_of_lt (by omega), List.getElem?_eq_getElem (by omega), getElem!_pos l j (by omega)]
  rfl
/-- And so can its last part. -/
theorem OwnR.back {base g n c : Nat} {l : List Int} {w : World} (h : OwnR base (.slice (some ⟨g, 0, none⟩) n c) l w) {m : Nat} (hm : m ≤ l.length) (hc : l.length ≤ c) (hg : g < w.heap.size) : Runes (.slice (some ⟨g, m, none⟩) (l.length - m) (c - m)) (l.drop m) w := by
  refine ⟨some ⟨g, m, none⟩, c - m, by rw [List.length_map, List.length_drop], by rw [List.length_map, List.length_drop]; omega, fun e => (by cases e), fun _ => ⟨_, rfl, hg, fun j x hx => ?_⟩⟩
  have e : (⟨g, m, none⟩ : Addr).add j = ⟨g, m + j, none⟩ := by unfold Addr.add; split <;> simp_all
  have hj : j < (l.drop m).length := by have := (List.getElem?_eq_some_iff.1 hx).1; simpa using this
  rw [List.length_drop] at hj
  rw [e, h.cell (m + j) (by omega), ← hx, List.getElem?_map, List.getElem?_drop, List.getElem?_eq_getElem (by omega), getElem!_pos l (m + j) (by omega)]
  rfl
theorem extract_drop (s : ByteArray) (k : Nat) : (s.extract k s.size).data.toList = s.data.toList.drop k := by
  rw [ByteArray.data_extract, Array.toList_extract, List.extract_eq_take_drop, List.take_of_length_le (by simp)]
theorem any_next {t : List UInt8} {c : UInt8} (h : ¬ 127 < c.toNat) : Puny.wideB (c :: t) = Puny.wideB t := by
  unfold Puny.wideB; rw [List.any_cons, decide_eq_false h, Bool.false_or]
end Go.Proofs.Ytkgikkdgfhonlaa
