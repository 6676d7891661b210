/-
  Proved here: the document's own 'Digit', 'Value', 'Adapt', 'threshold' and 'digits' of layer 5. Conditions: as they stand in each.
  Proved here: the document's own 'Encode' of layer 5. Conditions: the slice can be read, and holds at most 420 numbers.
  Proved here: the document's own 'number' of layer 5: a number in digits that bytes begin with. Conditions: as they stand in each.
  Proved here: the document's own 'Decode' of layer 5: the characters that bytes tell. Conditions: as they stand in each.
  Proved here: the document's own 'Decode' of layer 5, walked. Conditions: the string has at most 1,000 bytes.
  PLAIN: what is encoded is decoded as it was, and what is decoded is encoded so, but for the case of digits. Conditions: as they stand in each.
  PLAIN: Encode and Decode, by bytes, tell of each other. Conditions: as they stand in each.
-/
import Derived.Test.YtmbammhkkcnoaaaGreatUtfA
import Derived.Test.YtmbammhkkcnoaaaGreatPunyA
import Derived.Deep.LoopGhost
import Derived.Test.YtmbammhkkcnoaaaGreatUtfRow
namespace Go.Proofs.YtmbammhkkcnoaaaGreat
open Go.RowKit
namespace Puny
/-- The byte of a digit. -/
def digN (n : Int) : Int := if n < 26 then 97 + n else 22 + n
/-- The number of a byte. -/
def valOf (n : Int) : Option Int := if 97 ≤ n ∧ n ≤ 122 then some (n - 97) else if 65 ≤ n ∧ n ≤ 90 then some (n - 65) else if 48 ≤ n ∧ n ≤ 57 then some (n - 48 + 26) else none
def adLoop : Nat → Int → Int → Int
  | 0, d, k => k + 36 * d / (d + 38)
  | f + 1, d, k => if 455 < d then adLoop f (d / 35) (k + 36) else k + 36 * d / (d + 38)
theorem adLoop_fuel : ∀ (f g : Nat) (d k : Int), 0 ≤ d → d.toNat ≤ f → d.toNat ≤ g → adLoop f d k = adLoop g d k
  | 0, 0, _, _, _, _, _ => rfl
  | 0, g + 1, d, k, h0, hf, _ => by unfold adLoop; rw [if_neg (by omega)]
  | f + 1, 0, d, k, h0, _, hg => by unfold adLoop; rw [if_neg (by omega)]
  | f + 1, g + 1, d, k, h0, hf, hg => by
    unfold adLoop
    split
    · exact adLoop_fuel f g _ _ (by omega) (by omega) (by omega)
    · rfl
def bend (d k : Int) : Int := adLoop d.toNat d k
theorem bend_more {d k : Int} (h : 455 < d) : bend d k = bend (d / 35) (k + 36) := by
  unfold bend
  obtain ⟨f, hf⟩ : ∃ f, d.toNat = f + 1 := ⟨d.toNat - 1, by omega⟩
  rw [hf, adLoop, if_pos h]
  exact adLoop_fuel _ _ _ _ (by omega) (by omega) (by omega)
theorem bend_last {d k : Int} (h : ¬ 455 < d) : bend d k = k + 36 * d / (d + 38) := by
  unfold bend
  cases d.toNat with
  | zero => rfl
  | succ f => rw [adLoop, if_neg h]
def adapt (delta count : Int) (first : Bool) : Int := bend ((if first then delta / 700 else delta / 2) + (if first then delta / 700 else delta / 2) / count) 0
end Puny
namespace Puny
def digB (n : Int) : UInt8 := UInt8.ofNat (digN n).toNat
theorem digB_val {n : Int} (h : 0 ≤ n ∧ n ≤ 35) : ((digB n).toNat : Int) = digN n := by
  have h1 : 0 ≤ digN n ∧ digN n < 256 := by unfold digN; split <;> omega
  unfold digB
  rw [UInt8.toNat_ofNat', Nat.mod_eq_of_lt (by show (digN n).toNat < 256; omega)]
  omega
/-- A number in digits, as bytes. -/
def digitsB (n k b : Int) : List UInt8 := (digits n k b).map digB
theorem digitsB_last {n k b : Int} (h : n < thr k b) : digitsB n k b = [digB n] := by unfold digitsB; rw [digits_last h]; rfl
theorem digitsB_more {n k b : Int} (h : thr k b ≤ n) : digitsB n k b = digB (thr k b + (n - thr k b) % (36 - thr k b)) :: digitsB ((n - thr k b) / (36 - thr k b)) (k + 36) b := by unfold digitsB; rw [digits_more h]; rfl
end Puny
theorem byte_conv (W : World) (u : UInt8) : (convert 45 9 (.slice (some ⟨W.heap.size, 0, none⟩) 1 1)).run Tryz.prog (W.alloc (.cells #[.int .u8 (u.toNat : Int)] 5)) = .ok (.string ⟨#[u]⟩) (W.alloc (.cells #[.int .u8 (u.toNat : Int)] 5)) :=
  string_of (bytes_lit W [byteV u] [u] rfl 1 rfl)
theorem bytes_is {S : ByteArray} {l : List UInt8} (h : S.data.toList = l) : S = ⟨l.toArray⟩ := by
  cases S with
  | mk d => subst h; simp
theorem more_size (S : ByteArray) (u : UInt8) : (S ++ (⟨#[u]⟩ : ByteArray)).size = S.size + 1 := by rw [ByteArray.size_append]; rfl
theorem more_bytes (S : ByteArray) (u : UInt8) : (S ++ (⟨#[u]⟩ : ByteArray)).data.toList = S.data.toList ++ [u] := by
  rw [ByteArray.data_append, Array.toList_append]
end Go.Proofs.YtmbammhkkcnoaaaGreat
namespace Go.Proofs.YtmbammhkkcnoaaaGreat
open Go.RowKit Utf
namespace Puny
theorem adLoop_bd : ∀ (f : Nat) (d k : Int), 0 ≤ d → k ≤ adLoop f d k ∧ adLoop f d k ≤ k + d + 36
  | 0, d, k, h => by
    have h1 : 0 ≤ 36 * d / (d + 38) := Int.ediv_nonneg (by omega) (by omega)
    have h2 : 36 * d / (d + 38) ≤ 36 := by
      have := Int.ediv_le_ediv (c := d + 38) (by omega) (show 36 * d ≤ 36 * (d + 38) by omega)
      rwa [Int.mul_ediv_cancel _ (by omega)] at this
    unfold adLoop
    omega
  | f + 1, d, k, h => by
    unfold adLoop
    split
    · have := adLoop_bd f (d / 35) (k + 36) (by omega)
      omega
    · have h1 : 0 ≤ 36 * d / (d + 38) := Int.ediv_nonneg (by omega) (by omega)
      have h2 : 36 * d / (d + 38) ≤ 36 := by
        have := Int.ediv_le_ediv (c := d + 38) (by omega) (show 36 * d ≤ 36 * (d + 38) by omega)
        rwa [Int.mul_ediv_cancel _ (by omega)] at this
      omega
theorem adapt_bd {delta count : Int} (first : Bool) (hd : 0 ≤ delta ∧ delta ≤ 2147483647) (hc : 1 ≤ count) : 0 ≤ adapt delta count first ∧ adapt delta count first ≤ 5000000000 := by
  unfold adapt
  obtain ⟨d, hdd⟩ : ∃ d, d = (if first then delta / 700 else delta / 2) := ⟨_, rfl⟩
  rw [← hdd]
  have hb : 0 ≤ d ∧ d ≤ 2147483647 := by rw [hdd]; split <;> omega
  have hq0 : 0 ≤ d / count := Int.ediv_nonneg hb.1 (by omega)
  have hq1 : d / count ≤ d := Int.ediv_le_self _ hb.1
  have := adLoop_bd (d + d / count).toNat (d + d / count) 0 (by omega)
  unfold bend
  omega
theorem digs_len : ∀ (f : Nat) (n k b : Int), (digs f n k b).length ≤ f
  | 0, _, _, _ => Nat.le_refl _
  | f + 1, n, k, b => by
    unfold digs
    split
    · simp
    · simp only [List.length_cons]
      have := digs_len f ((n - thr k b) / (36 - thr k b)) (k + 36) b
      omega
theorem digitsB_len (n k b : Int) : (digitsB n k b).length ≤ n.toNat + 1 := by
  unfold digitsB digits
  rw [List.length_map]
  exact digs_len _ _ _ _
/-- What is still to be written, as bytes. -/
def tailB (ds : List Int) (b c : Int) (f : Bool) : List UInt8 := (emit adapt ds b c f).map digB
theorem tailB_one (d : Int) (ds : List Int) (b c : Int) (f : Bool) : tailB (d :: ds) b c f = digitsB d 36 b ++ tailB ds (adapt d (c + 1) f) (c + 1) false := by
  unfold tailB digitsB
  rw [emit_one, List.map_append]
def plainB (l : List Int) : List UInt8 := (lt 128 l).map fun x => UInt8.ofNat x.toNat
def dashB (l : List Int) : List UInt8 := if (lt 128 l).length = 0 then [] else [45]
/-- What Encode writes. -/
def encB (l : List Int) : List UInt8 := plainB l ++ dashB l ++ tailB (deltas l) 72 (lt 128 l).length true
theorem msF_done {f : Nat} {l : List Int} {n : Int} (h : (lt n l).length = l.length) : msF f l n = [] := by
  cases f with
  | zero => rfl
  | succ f => unfold msF; rw [if_pos h]
theorem msF_more {f : Nat} {l : List Int} {n : Int} (h : (lt n l).length ≠ l.length) : msF (f + 1) l n = least n l 1114112 :: msF f l (least n l 1114112 + 1) := by rw [msF, if_neg h]
theorem least_cons (n x : Int) (t : List Int) (z : Int) : least n (x :: t) z = least n t (if n ≤ x ∧ x < z then x else z) := rfl
theorem le_len (m : Int) (l : List Int) : (le m l).length ≤ l.length := by unfold le; exact List.length_filter_le _ _
theorem lt_snoc (m : Int) (p : List Int) (x : Int) : lt m (p ++ [x]) = if x < m then lt m p ++ [x] else lt m p := by
  unfold lt
  rw [List.filter_append]
  by_cases h : x < m <;> simp [h]
end Puny
theorem byte_convZ (W : World) (x : Int) (h : 0 ≤ x ∧ x < 256) : (convert 45 9 (.slice (some ⟨W.heap.size, 0, none⟩) 1 1)).run Tryz.prog (W.alloc (.cells #[.int .u8 x] 5)) = .ok (.string ⟨#[UInt8.ofNat x.toNat]⟩) (W.alloc (.cells #[.int .u8 x] 5)) := by
  have e : x = ((UInt8.ofNat x.toNat).toNat : Int) := by
    rw [UInt8.toNat_ofNat', Nat.mod_eq_of_lt (by show x.toNat < 256; omega)]
    omega
  have := byte_conv W (UInt8.ofNat x.toNat)
  rwa [← e] at this
/-- A writer's answer. -/
def Wrote (bs : List UInt8) (ok : Bool) (w : World) (e : Ending) (w' : World) : Prop := e = .returned (.tuple #[.string ⟨bs.toArray⟩, .bool ok]) ∧ Below w.heap.size w w'
theorem rightsZ_at {l : List Int} {k : Nat} (h : k < l.length) (hr : rightsZ l = true) : rightZ l[k]! = true := by
  unfold rightsZ at hr
  rw [getElem!_pos l k h]
  exact List.all_eq_true.1 hr _ (List.getElem_mem h)
theorem rights_lt {l : List Int} (h : rightsZ l = true) : ∀ x ∈ l, x < 1114112 := fun x hx => by
  unfold rightsZ at h
  have := (rightZ_iff x).1 (List.all_eq_true.1 h x hx)
  omega
theorem cat_bytes (S T : ByteArray) : (S ++ T).data.toList = S.data.toList ++ T.data.toList := by rw [ByteArray.data_append, Array.toList_append]
end Go.Proofs.YtmbammhkkcnoaaaGreat
namespace Go.Proofs.YtmbammhkkcnoaaaGreat
open Go.RowKit Utf
namespace Puny
def byteZ (c : UInt8) : Int := (c.toNat : Int)
/-- A number in digits that bytes begin with, and how many these are. -/
def numB (b : Int) : List UInt8 → Int → Int → Int → Nat → Option (Int × Nat)
  | [], _, _, _, _ => none
  | c :: l, k, w, s, u => match valOf (byteZ c) with
    | none => none
    | some d => if limit < w ∨ limit < s + d * w then none else if d < thr k b then some (s + d * w, u + 1) else numB b l (k + 36) (w * (36 - thr k b)) (s + d * w) (u + 1)
theorem valOf_bd {n d : Int} (h : valOf n = some d) : 0 ≤ d ∧ d ≤ 35 := by
  unfold valOf at h
  split at h
  · have := Option.some.inj h; omega
  · split at h
    · have := Option.some.inj h; omega
    · split at h
      · have := Option.some.inj h; omega
      · cases h
def numAns (o : Option (Int × Nat)) : Value := match o with | none => .tuple #[.int .i64 0, .int .i64 0] | some (x, u) => .tuple #[.int .i64 x, .int .i64 u]
end Puny
end Go.Proofs.YtmbammhkkcnoaaaGreat
namespace Go.Proofs.YtmbammhkkcnoaaaGreat
open Go.RowKit Utf
namespace Puny
/-- May this delta be read? -/
def okStep (r : Rd) (d : Int) : Bool := decide (r.i + d ≤ limit) && rightZ (r.n + (r.i + d) / (r.out.length + 1))
/-- The deltas of bytes, one by one. -/
def decL : Nat → List UInt8 → Int → Bool → Rd → Option (List Int)
  | _, [], _, _, r => some r.out
  | 0, _ :: _, _, _, _ => none
  | k + 1, x :: l, b, f, r => match numB b (x :: l) 36 1 0 0 with
    | none => none
    | some (d, m) => if okStep r d then decL k ((x :: l).drop m) (adapt d (r.out.length + 1) f) false (rstep r d) else none
/-- The place of the last dash; a, if there is none. -/
def dashFrom : List UInt8 → Nat → Nat → Nat
  | [], _, a => a
  | c :: t, k, a => dashFrom t (k + 1) (if c.toNat = 45 then k else a)
def dashAt (bs : List UInt8) : Nat := dashFrom bs 0 0
def wideB (bs : List UInt8) : Bool := bs.any fun c => decide (127 < c.toNat)
def tailAt (bs : List UInt8) : Nat := if dashAt bs = 0 then 0 else dashAt bs + 1
/-- What bytes tell. -/
def decB (bs : List UInt8) : Option (List Int) :=
  if wideB bs then none else decL bs.length (bs.drop (tailAt bs)) 72 true (start ((bs.take (dashAt bs)).map byteZ))
theorem dashFrom_le : ∀ (t : List UInt8) (k a : Nat), a ≤ k → dashFrom t k a ≤ k + t.length ∧ (dashFrom t k a = a ∨ dashFrom t k a < k + t.length)
  | [], k, a, h => ⟨by simpa [dashFrom] using h, .inl rfl⟩
  | c :: t, k, a, h => by
    unfold dashFrom
    split
    · have := dashFrom_le t (k + 1) k (by omega)
      simp only [List.length_cons]
      omega
    · have := dashFrom_le t (k + 1) a (by omega)
      simp only [List.length_cons]
      omega
theorem dashAt_lt (bs : List UInt8) : dashAt bs = 0 ∨ dashAt bs < bs.length := by
  have := (dashFrom_le bs 0 0 (Nat.le_refl _)).2
  unfold dashAt
  omega
theorem tailAt_le (bs : List UInt8) : tailAt bs ≤ bs.length := by
  have := dashAt_lt bs
  unfold tailAt
  split <;> omega
theorem numB_bd (b : Int) : ∀ (l : List UInt8) (k w s : Int) (u : Nat) (x : Int) (v : Nat), numB b l k w s u = some (x, v) → 1 ≤ w → 0 ≤ s → 0 ≤ x ∧ x ≤ limit ∧ u + 1 ≤ v ∧ v ≤ u + l.length
  | [], _, _, _, _, _, _, h, _, _ => by cases h
  | c :: l, k, w, s, u, x, v, h, hw, hs => by
    unfold numB at h
    cases hv : valOf (byteZ c) with
    | none => rw [hv] at h; cases h
    | some d =>
      rw [hv] at h
      simp only at h
      have hd := valOf_bd hv
      have ht := thr_bd k b
      have h0 : 0 ≤ d * w := Int.mul_nonneg hd.1 (by omega)
      split at h
      · cases h
      · rename_i hlim
        split at h
        · have := Option.some.inj h
          injection this with e1 e2
          subst e1 e2
          simp only [List.length_cons]
          refine ⟨by omega, by omega, by omega, by omega⟩
        · have h1 : 1 ≤ w * (36 - thr k b) := by
            have : 1 * 1 ≤ w * (36 - thr k b) := Int.mul_le_mul hw (by omega) (by omega) (by omega)
            omega
          have := numB_bd b l _ _ _ _ _ _ h h1 (by omega)
          simp only [List.length_cons]
          omega
theorem decL_none {k : Nat} {x : UInt8} {l : List UInt8} {b : Int} {f : Bool} {r : Rd} (h : numB b (x :: l) 36 1 0 0 = none) : decL k (x :: l) b f r = none := by
  cases k with
  | zero => rfl
  | succ k => unfold decL; rw [h]
theorem decL_bad {k : Nat} {x : UInt8} {l : List UInt8} {b : Int} {f : Bool} {r : Rd} {d : Int} {m : Nat} (h : numB b (x :: l) 36 1 0 0 = some (d, m)) (ho : okStep r d = false) : decL k (x :: l) b f r = none := by
  cases k with
  | zero => rfl
  | succ k => unfold decL; rw [h]; simp [ho]
theorem decL_more {k : Nat} {x : UInt8} {l : List UInt8} {b : Int} {f : Bool} {r : Rd} {d : Int} {m : Nat} (h : numB b (x :: l) 36 1 0 0 = some (d, m)) (ho : okStep r d = true) :
    decL (k + 1) (x :: l) b f r = decL k ((x :: l).drop m) (adapt d (r.out.length + 1) f) false (rstep r d) := by
  rw [decL, h]; simp [ho]
theorem rstep_out (r : Rd) (d : Int) : (rstep r d).out = r.out.take ((r.i + d) % (r.out.length + 1)).toNat ++ ((rstep r d).n :: r.out.drop ((r.i + d) % (r.out.length + 1)).toNat) := by
  have h1 := Int.emod_nonneg (r.i + d) (b := r.out.length + 1) (by omega)
  have h2 := Int.emod_lt_of_pos (r.i + d) (b := r.out.length + 1) (by omega)
  unfold rstep
  exact insert_is _ _ _ (by omega)
theorem rstep_len (r : Rd) (d : Int) : (rstep r d).out.length = r.out.length + 1 := by
  have h1 := Int.emod_nonneg (r.i + d) (b := r.out.length + 1) (by omega)
  have h2 := Int.emod_lt_of_pos (r.i + d) (b := r.out.length + 1) (by omega)
  rw [rstep_out r d, List.length_append, List.length_cons, List.length_take, List.length_drop]
  omega
end Puny
def DecPost (o : Option (List Int)) (w : World) (e : Ending) (w' : World) : Prop :=
  ∃ A c, e = .returned (.tuple #[.slice A (o.getD []).length c, .bool o.isSome]) ∧ Runes (.slice A (o.getD []).length c) (o.getD []) w' ∧ Below w.heap.size w w'
theorem runes_nil (w : World) : Runes (.slice none 0 0) [] w := ⟨none, 0, rfl, Nat.le_refl _, fun _ => rfl, fun h => absurd h (by simp)⟩
theorem dec_no {o : Option (List Int)} {w w' : World} (h : o = none) (hb : Below w.heap.size w w') : DecPost o w (.returned (.tuple #[.slice none 0 0, .bool false])) w' := by
  subst h
  exact ⟨none, 0, rfl, runes_nil _, hb⟩
theorem OwnR.parted {base : Nat} {v : Value} {l : List Int} {w : World} (h : OwnR base v l w) : (v = .slice none 0 0 ∧ l = []) ∨ ∃ g c, v = .slice (some ⟨g, 0, none⟩) l.length c ∧ l.length ≤ c ∧ base ≤ g ∧ g < w.heap.size := by
  rcases h.2 with ⟨h0, h1⟩ | ⟨g, cap, cur, h0, h1, -, h3, -⟩
  · exact .inl ⟨h0, List.eq_nil_of_length_eq_zero h1⟩
  · exact .inr ⟨g, cap, h0, h3, h1, (World.ownsRow.lt h g (by rw [h0]; rfl)).2⟩
/-- A row's first part can be read. -/
theorem OwnR.front {base g n c : Nat} {l : List Int} {w : World} (h : OwnR base (.slice (some ⟨g, 0, none⟩) n c) l w) {m : Nat} (hm : m ≤ l.length) (hc : l.length ≤ c) (hg : g < w.heap.size) : Runes (.slice (some ⟨g, 0, none⟩) m c) (l.take m) w := by
  refine ⟨some ⟨g, 0, none⟩, c, by rw [List.length_map, List.length_take, Nat.min_eq_left hm], by rw [List.length_map, List.length_take]; omega, fun e => (by cases e), fun _ => ⟨_, rfl, hg, fun j x hx => ?_⟩⟩
  have e : (⟨g, 0, none⟩ : Addr).add j = ⟨g, j, none⟩ := by unfold Addr.add; split <;> simp_all
  have hj : j < (l.take m).length := by have := (List.getElem?_eq_some_iff.1 hx).1; simpa using this
  rw [List.length_take] at hj
  rw [e, h.cell j (by omega), ← hx, List.getElem?_map, List.getElem?_take_of_lt (by omega), List.getElem?_eq_getElem (by omega), getElem!_pos l j (by omega)]
  rfl
/-- And so can its last part. -/
theorem OwnR.back {base g n c : Nat} {l : List Int} {w : World} (h : OwnR base (.slice (some ⟨g, 0, none⟩) n c) l w) {m : Nat} (hm : m ≤ l.length) (hc : l.length ≤ c) (hg : g < w.heap.size) : Runes (.slice (some ⟨g, m, none⟩) (l.length - m) (c - m)) (l.drop m) w := by
  refine ⟨some ⟨g, m, none⟩, c - m, by rw [List.length_map, List.length_drop], by rw [List.length_map, List.length_drop]; omega, fun e => (by cases e), fun _ => ⟨_, rfl, hg, fun j x hx => ?_⟩⟩
  have e : (⟨g, m, none⟩ : Addr).add j = ⟨g, m + j, none⟩ := by unfold Addr.add; split <;> simp_all
  have hj : j < (l.drop m).length := by have := (List.getElem?_eq_some_iff.1 hx).1; simpa using this
  rw [List.length_drop] at hj
  rw [e, h.cell (m + j) (by omega), ← hx, List.getElem?_map, List.getElem?_drop, List.getElem?_eq_getElem (by omega), getElem!_pos l (m + j) (by omega)]
  rfl
theorem extract_drop (s : ByteArray) (k : Nat) : (s.extract k s.size).data.toList = s.data.toList.drop k := by
  rw [ByteArray.data_extract, Array.toList_extract, List.extract_eq_take_drop, List.take_of_length_le (by simp)]
theorem any_next {t : List UInt8} {c : UInt8} (h : ¬ 127 < c.toNat) : Puny.wideB (c :: t) = Puny.wideB t := by
  unfold Puny.wideB; rw [List.any_cons, decide_eq_false h, Bool.false_or]
end Go.Proofs.YtmbammhkkcnoaaaGreat
namespace Go.Proofs.YtmbammhkkcnoaaaGreat
open Go.RowKit Utf
theorem dec_next {bs : List UInt8} {n a u L m : Nat} {ro : List Int} {rn ri q d b b' : Int} {f : Bool} {base : Nat} {v : Value} {w' : World}
    (I : ∃ fuel, n ≤ a + fuel ∧ Puny.decB bs = Puny.decL fuel (bs.drop a) b f ⟨ro, rn, ri⟩)
    (hgood : ∀ (r : Puny.Rd) (f : Bool) (fuel : Nat), Puny.okStep r d = true → Puny.decL (fuel + 1) (bs.drop a) b f r = Puny.decL fuel ((bs.drop a).drop u) (Puny.adapt d ((r.out.length : Int) + 1) f) false (Puny.rstep r d))
    (hL : L = ro.length) (hq : (ri + d) / ((L : Int) + 1) = q) (hm : (ri + d) % ((L : Int) + 1) = (m : Int)) (hb : b' = Puny.adapt d ((L : Int) + 1) f) (hov : ri + d ≤ 2147483647) (hR : rightZ (rn + q) = true) (hlt : a < n) (hu : 0 + 1 ≤ u)
    (ho : OwnR base v (ro.take m ++ [rn + q] ++ ro.drop m) w') :
    OwnR base v (ro.take m ++ [rn + q] ++ ro.drop m) w' ∧ (ro.take m ++ [rn + q] ++ ro.drop m).length = L + 1 ∧ ∃ fuel, n ≤ a + u + fuel ∧ Puny.decB bs = Puny.decL fuel (bs.drop (a + u)) b' false ⟨ro.take m ++ [rn + q] ++ ro.drop m, rn + q, m + 1⟩ := by
  obtain ⟨fuel, h1, h2⟩ := I
  obtain ⟨k, rfl⟩ : ∃ k, fuel = k + 1 := ⟨fuel - 1, by omega⟩
  have hm1 := Int.emod_lt_of_pos (ri + d) (show (0 : Int) < (L : Int) + 1 by omega)
  refine ⟨ho, by simp only [List.length_append, List.length_take, List.length_drop, List.length_singleton]; omega, k, by omega, ?_⟩
  rw [h2, hgood _ _ _ (by
    unfold Puny.okStep Puny.limit
    show (decide (ri + d ≤ 2147483647) && rightZ (rn + (ri + d) / ((ro.length : Int) + 1))) = true
    rw [← hL, hq, hR, decide_eq_true hov]; rfl), List.drop_drop]
  have e1 : Puny.rstep ⟨ro, rn, ri⟩ d = ⟨ro.take m ++ [rn + q] ++ ro.drop m, rn + q, m + 1⟩ := by
    have h3 := Puny.rstep_out ⟨ro, rn, ri⟩ d
    have h4 : (Puny.rstep ⟨ro, rn, ri⟩ d).n = rn + q := by show rn + (ri + d) / ((ro.length : Int) + 1) = rn + q; rw [← hL, hq]
    have h5 : (Puny.rstep ⟨ro, rn, ri⟩ d).i = (m : Int) + 1 := by show (ri + d) % ((ro.length : Int) + 1) + 1 = m + 1; rw [← hL, hm]
    have h6 : (Puny.rstep ⟨ro, rn, ri⟩ d).out = ro.take m ++ [rn + q] ++ ro.drop m := by
      rw [h3, h4]
      show ro.take ((ri + d) % ((ro.length : Int) + 1)).toNat ++ ((rn + q) :: ro.drop ((ri + d) % ((ro.length : Int) + 1)).toNat) = _
      rw [← hL, hm]
      simp
    cases hr : Puny.rstep ⟨ro, rn, ri⟩ d with
    | mk o n i => rw [hr] at h4 h5 h6; simp only at h4 h5 h6; rw [h4, h5, h6]
  rw [e1, hb, hL]
end Go.Proofs.YtmbammhkkcnoaaaGreat
namespace Go.Proofs.YtmbammhkkcnoaaaGreat
open Go.RowKit Utf
namespace Puny
/-- The number that a byte is the digit of. -/
def valB (c : UInt8) : Option Int := valOf (byteZ c)
theorem digB_toNat {n : Int} (h : 0 ≤ n ∧ n ≤ 35) : byteZ (digB n) = digN n := digB_val h
theorem valB_digB {n : Int} (h : 0 ≤ n ∧ n ≤ 35) : valB (digB n) = some n := by
  unfold valB
  rw [digB_toNat h]
  unfold digN
  by_cases h1 : n < 26
  · rw [if_pos h1]
    unfold valOf
    rw [if_pos (by omega)]
    congr 1
    omega
  · rw [if_neg h1]
    unfold valOf
    rw [if_neg (by omega), if_neg (by omega), if_pos (by omega)]
    congr 1
    omega
theorem digits_bd : ∀ (f : Nat) (n k b : Int), 0 ≤ n → n.toNat < f → ∀ x ∈ digits n k b, 0 ≤ x ∧ x ≤ 35
  | 0, _, _, _, _, h => by omega
  | f + 1, n, k, b, hn, hf => by
    have ht := thr_bd k b
    by_cases h : n < thr k b
    · rw [digits_last h]
      intro x hx
      rw [List.mem_singleton] at hx
      omega
    · have hl := less n (thr k b) ht.1 ht.2 (by omega)
      have hp := parts n (thr k b) ht.1 ht.2
      rw [digits_more (by omega)]
      intro x hx
      rcases List.mem_cons.1 hx with rfl | hx
      · omega
      · exact digits_bd f _ _ _ hl.1 (by omega) x hx
theorem emit_bd : ∀ (ds : List Int) (b c : Int) (f : Bool), (∀ d ∈ ds, 0 ≤ d) → ∀ x ∈ emit adapt ds b c f, 0 ≤ x ∧ x ≤ 35
  | [], _, _, _, _ => fun x hx => by cases hx
  | d :: ds, b, c, f, h => by
    intro x hx
    rw [emit_one] at hx
    rcases List.mem_append.1 hx with hx | hx
    · exact digits_bd (d.toNat + 1) d 36 b (h d (by simp)) (by omega) x hx
    · exact emit_bd ds _ _ _ (fun y hy => h y (by simp [hy])) x hx
theorem emit_len : ∀ (ds : List Int) (b c : Int) (f : Bool), ds.length ≤ (emit adapt ds b c f).length
  | [], _, _, _ => Nat.le_refl _
  | d :: ds, b, c, f => by
    rw [emit_one, List.length_append, List.length_cons]
    have := emit_len ds (adapt d (c + 1) f) (c + 1) false
    have := List.length_pos_iff.2 (digits_ne d 36 b)
    omega
theorem numB_num (b : Int) : ∀ (vs : List Int) (k w s : Int) (u : Nat), (∀ x ∈ vs, 0 ≤ x ∧ x ≤ 35) → numB b (vs.map digB) k w s u = num b vs k w s u
  | [], _, _, _, _, _ => rfl
  | x :: vs, k, w, s, u, h => by
    have hx := valB_digB (h x (by simp))
    unfold valB at hx
    have ih := fun k w s u => numB_num b vs k w s u (fun y hy => h y (by simp [hy]))
    rw [List.map_cons, numB, num, hx]
    simp only [ih]
theorem num_of_numB (b : Int) : ∀ (bs : List UInt8) (k w s : Int) (u : Nat) (x : Int) (v : Nat), numB b bs k w s u = some (x, v) →
    ∃ vs : List Int, (bs.take (v - u)).map valB = vs.map some ∧ num b vs k w s u = some (x, v) ∧ u + vs.length = v
  | [], _, _, _, _, _, _, h => by cases h
  | c :: l, k, w, s, u, x, v, h => by
    unfold numB at h
    cases hv : valOf (byteZ c) with
    | none => rw [hv] at h; cases h
    | some d =>
      rw [hv] at h
      simp only at h
      split at h
      · cases h
      · rename_i hlim
        split at h
        · rename_i ht
          have e := Option.some.inj h
          injection e with e1 e2
          subst e1 e2
          refine ⟨[d], ?_, ?_, by simp⟩
          · rw [show u + 1 - u = 1 by omega]
            simp [valB, hv]
          · rw [num, if_neg hlim, if_pos ht]
        · rename_i ht
          obtain ⟨vs, h1, h2, h3⟩ := num_of_numB b l _ _ _ _ _ _ h
          refine ⟨d :: vs, ?_, ?_, by simp only [List.length_cons]; omega⟩
          · rw [show v - u = (v - (u + 1)) + 1 by omega, List.take_succ_cons, List.map_cons, List.map_cons, h1]
            simp [valB, hv]
          · rw [num, if_neg hlim, if_neg ht, h2]
theorem valB_bd {c : UInt8} {d : Int} (h : valB c = some d) : 0 ≤ d ∧ d < 36 := by have := valOf_bd h; omega
theorem vals_bd {bs : List UInt8} {vs : List Int} (h : bs.map valB = vs.map some) : ∀ d ∈ vs, 0 ≤ d ∧ d < 36 := by
  intro d hd
  have : some d ∈ bs.map valB := by rw [h]; exact List.mem_map.2 ⟨d, hd, rfl⟩
  obtain ⟨c, -, hc⟩ := List.mem_map.1 this
  exact valB_bd hc
/-- A number that was read was written so. -/
theorem numB_back {b : Int} {bs : List UInt8} {d : Int} {m : Nat} (h : numB b bs 36 1 0 0 = some (d, m)) : 0 ≤ d ∧ 1 ≤ m ∧ m ≤ bs.length ∧ (bs.take m).map valB = (digits d 36 b).map some := by
  have hb := numB_bd b _ _ _ _ _ _ _ h (by decide) (by decide)
  obtain ⟨vs, h1, h2, h3⟩ := num_of_numB b _ _ _ _ _ _ _ h
  rw [Nat.sub_zero] at h1
  obtain ⟨n, j, hn, hx, hv, hj, -, ht⟩ := num_back b vs 36 1 0 0 d m (vals_bd h1) h2
  obtain rfl : d = n := by omega
  rw [List.take_of_length_le (by omega)] at ht
  rw [ht] at h1
  exact ⟨hn, by omega, by omega, h1⟩
theorem mem_insert {l : List Int} {k : Nat} {x y : Int} (hk : k ≤ l.length) (h : y ∈ l) : y ∈ l.insertIdx k x := by
  rw [insert_is l k x hk]
  rw [← List.take_append_drop k l] at h
  rcases List.mem_append.1 h with h | h
  · exact List.mem_append.2 (.inl h)
  · exact List.mem_append.2 (.inr (List.mem_cons_of_mem _ h))
theorem rstep_mem {r : Rd} {d : Int} : (rstep r d).n ∈ (rstep r d).out := by rw [rstep_out]; simp
theorem rstep_keep {r : Rd} {d y : Int} (h : y ∈ r.out) : y ∈ (rstep r d).out := by
  have h1 := Int.emod_nonneg (r.i + d) (b := r.out.length + 1) (by omega)
  have h2 := Int.emod_lt_of_pos (r.i + d) (b := r.out.length + 1) (by omega)
  exact mem_insert (by omega) h
theorem rall_keep : ∀ {ds : List Int} {r : Rd} {y : Int}, y ∈ r.out → y ∈ (rall r ds).out
  | [], _, _, h => h
  | _ :: ds, _, _, h => rall_keep (ds := ds) (rstep_keep h)
theorem rall_cons (r : Rd) (d : Int) (ds : List Int) : rall r (d :: ds) = rall (rstep r d) ds := rfl
/-- What deltas are written for is read of their digits. -/
theorem decL_emit : ∀ (ds : List Int) (r : Rd) (b : Int) (f : Bool) (fuel : Nat), (∀ d ∈ ds, 0 ≤ d) → 0 ≤ r.n → 0 ≤ r.i → r.out.length + ds.length ≤ 112 → (∀ x ∈ (rall r ds).out, rightZ x = true) → ds.length ≤ fuel →
    decL fuel (tailB ds b r.out.length f) b f r = some (rall r ds).out
  | [], r, b, f, fuel, _, _, _, _, _, _ => by unfold tailB emit; cases fuel <;> rfl
  | d :: ds, r, b, f, fuel, hd, hn, hi, hlen, hR, hf => by
    obtain ⟨k, rfl⟩ : ∃ k, fuel = k + 1 := ⟨fuel - 1, by simp only [List.length_cons] at hf; omega⟩
    have hd0 := hd d (by simp)
    have hn1 := hR _ (rall_keep (ds := ds) (rstep_mem (r := r) (d := d)))
    have hr1 := (rightZ_iff _).1 hn1
    have hL : r.out.length ≤ 111 := by simp only [List.length_cons] at hlen; omega
    have hq : (rstep r d).n = r.n + (r.i + d) / (r.out.length + 1) := rfl
    have hdm := Int.mul_ediv_add_emod (r.i + d) (r.out.length + 1)
    have hm1 := Int.emod_lt_of_pos (r.i + d) (b := r.out.length + 1) (by omega)
    have hm0 := Int.emod_nonneg (r.i + d) (b := r.out.length + 1) (by omega)
    have hqb : (r.i + d) / (r.out.length + 1) ≤ 1114111 := by omega
    have hqn : 0 ≤ (r.i + d) / (r.out.length + 1) := Int.ediv_nonneg (by omega) (by omega)
    have hmul : ((r.out.length : Int) + 1) * ((r.i + d) / (r.out.length + 1)) ≤ 112 * 1114111 := Int.mul_le_mul (by omega) hqb hqn (by decide)
    have hsum : r.i + d ≤ 126322567 := by omega
    have hok : okStep r d = true := by
      unfold okStep limit
      rw [← hq, hn1, decide_eq_true (by omega)]
      rfl
    have htl : tailB (d :: ds) b r.out.length f = digitsB d 36 b ++ tailB ds (adapt d ((r.out.length : Int) + 1) f) ((r.out.length : Int) + 1) false := tailB_one _ _ _ _ _
    have hval : ∀ x ∈ digits d 36 b ++ emit adapt ds (adapt d ((r.out.length : Int) + 1) f) ((r.out.length : Int) + 1) false, 0 ≤ x ∧ x ≤ 35 := by
      intro x hx
      rcases List.mem_append.1 hx with hx | hx
      · exact digits_bd (d.toNat + 1) d 36 b hd0 (by omega) x hx
      · exact emit_bd ds _ _ _ (fun y hy => hd y (by simp [hy])) x hx
    have hnum : numB b (tailB (d :: ds) b r.out.length f) 36 1 0 0 = some (d, (digitsB d 36 b).length) := by
      have h1 := num_digits b 126322567 (by decide) (d.toNat + 1) d 36 1 0 0 (emit adapt ds (adapt d ((r.out.length : Int) + 1) f) ((r.out.length : Int) + 1) false) (by omega) hd0 (by decide) (by decide) (by omega) (by decide) (fun _ => ⟨0, rfl⟩)
      rw [← numB_num b _ _ _ _ _ hval] at h1
      rw [show tailB (d :: ds) b r.out.length f = (digits d 36 b ++ emit adapt ds (adapt d ((r.out.length : Int) + 1) f) ((r.out.length : Int) + 1) false).map digB from rfl, h1]
      simp [digitsB]
    have hne : ∃ x l, tailB (d :: ds) b r.out.length f = x :: l := by
      cases hc : tailB (d :: ds) b r.out.length f with
      | nil =>
        have h1 := congrArg List.length hc
        rw [htl, List.length_append] at h1
        have h2 : (digitsB d 36 b).length = (digits d 36 b).length := by simp [digitsB]
        have h3 := List.length_pos_iff.2 (digits_ne d 36 b)
        simp only [List.length_nil] at h1
        omega
      | cons x l => exact ⟨x, l, rfl⟩
    obtain ⟨x, l, hxl⟩ := hne
    have hdrop : (tailB (d :: ds) b r.out.length f).drop (digitsB d 36 b).length = tailB ds (adapt d ((r.out.length : Int) + 1) f) ((r.out.length : Int) + 1) false := by rw [htl, List.drop_left]
    rw [hxl] at hnum hdrop ⊢
    rw [decL_more hnum hok, hdrop, rall_cons]
    have hl2 := rstep_len r d
    have ih := decL_emit ds (rstep r d) (adapt d ((r.out.length : Int) + 1) f) false k (fun y hy => hd y (by simp [hy])) (by omega) (by show 0 ≤ (r.i + d) % (r.out.length + 1) + 1; omega) (by rw [hl2]; simp only [List.length_cons] at hlen; omega) hR (by simp only [List.length_cons] at hf; omega)
    rw [hl2] at ih
    exact ih
end Puny
end Go.Proofs.YtmbammhkkcnoaaaGreat
namespace Go.Proofs.YtmbammhkkcnoaaaGreat
open Go.RowKit Utf
namespace Puny
/-- A byte's small one (as XFoldRef's smallB). -/
def smallU (b : UInt8) : UInt8 := if 65 ≤ b.toNat ∧ b.toNat ≤ 90 then UInt8.ofNat (b.toNat + 32) else b
theorem dashFrom_no : ∀ (t : List UInt8) (k a : Nat), (∀ c ∈ t, c.toNat ≠ 45) → dashFrom t k a = a
  | [], _, _, _ => rfl
  | c :: t, k, a, h => by
    unfold dashFrom
    rw [if_neg (h c (by simp)), dashFrom_no t _ _ fun x hx => h x (by simp [hx])]
theorem dashFrom_append : ∀ (x y : List UInt8) (k a : Nat), dashFrom (x ++ y) k a = dashFrom y (k + x.length) (dashFrom x k a)
  | [], y, k, a => rfl
  | c :: x, y, k, a => by
    rw [List.cons_append, dashFrom, dashFrom, dashFrom_append x y, List.length_cons]
    congr 1
    omega
theorem dashFrom_is : ∀ (t : List UInt8) (k a : Nat), dashFrom t k a = a ∨ ∃ j, dashFrom t k a = k + j ∧ ∃ h : j < t.length, (t[j]).toNat = 45
  | [], _, _ => .inl rfl
  | c :: t, k, a => by
    unfold dashFrom
    by_cases hc : c.toNat = 45
    · rw [if_pos hc]
      rcases dashFrom_is t (k + 1) k with h | ⟨j, h1, h2, h3⟩
      · exact .inr ⟨0, by rw [h]; rfl, by simp, hc⟩
      · exact .inr ⟨j + 1, by rw [h1]; omega, by simp only [List.length_cons]; omega, by simpa using h3⟩
    · rw [if_neg hc]
      rcases dashFrom_is t (k + 1) a with h | ⟨j, h1, h2, h3⟩
      · exact .inl h
      · exact .inr ⟨j + 1, by rw [h1]; omega, by simp only [List.length_cons]; omega, by simpa using h3⟩
/-- Behind a dash that is not the first byte, and ahead of it. -/
theorem at_dash {bs : List UInt8} (h : dashAt bs ≠ 0) : bs = bs.take (dashAt bs) ++ [45] ++ bs.drop (dashAt bs + 1) := by
  rcases dashFrom_is bs 0 0 with h0 | ⟨j, h1, h2, h3⟩
  · exact absurd h0 h
  · have e : dashAt bs = j := by unfold dashAt; rw [h1]; omega
    have e45 : bs[j] = 45 := by
      apply UInt8.toNat_inj.1
      rw [h3]
      rfl
    rw [e]
    rw [List.append_assoc, List.singleton_append, ← e45, ← List.drop_eq_getElem_cons h2, List.take_append_drop]
theorem digB_plain {n : Int} (h : 0 ≤ n ∧ n ≤ 35) : (digB n).toNat ≠ 45 ∧ (digB n).toNat < 128 := by
  have := digB_val h
  unfold digN at this
  split at this <;> omega
theorem tailB_plain {ds : List Int} (b c : Int) (f : Bool) (h : ∀ d ∈ ds, 0 ≤ d) : ∀ x ∈ tailB ds b c f, x.toNat ≠ 45 ∧ x.toNat < 128 := by
  intro x hx
  obtain ⟨v, hv, rfl⟩ := List.mem_map.1 hx
  exact digB_plain (emit_bd ds b c f h v hv)
theorem lt_mem {m : Int} {l : List Int} {x : Int} (h : x ∈ lt m l) : x ∈ l ∧ x < m := by
  unfold lt at h
  have := List.mem_filter.1 h
  exact ⟨this.1, by simpa using this.2⟩
theorem plainB_back {l : List Int} (h : ∀ x ∈ l, 0 ≤ x) : (plainB l).map byteZ = lt 128 l := by
  unfold plainB
  rw [List.map_map]
  refine (List.map_congr_left fun x hx => ?_).trans (List.map_id _)
  have := lt_mem hx
  have h0 := h x this.1
  show ((UInt8.ofNat x.toNat).toNat : Int) = x
  rw [UInt8.toNat_ofNat_of_lt' (by show x.toNat < 256; omega)]
  omega
theorem plainB_lt {l : List Int} (h : ∀ x ∈ l, 0 ≤ x) : ∀ c ∈ plainB l, c.toNat < 128 := by
  intro c hc
  unfold plainB at hc
  obtain ⟨x, hx, rfl⟩ := List.mem_map.1 hc
  have := lt_mem hx
  have h0 := h x this.1
  rw [UInt8.toNat_ofNat_of_lt' (by show x.toNat < 256; omega)]
  omega
theorem rights_mem {l : List Int} (h : rightsZ l = true) : ∀ x ∈ l, rightZ x = true := by
  unfold rightsZ at h
  rwa [List.all_eq_true] at h
theorem rights_nn {l : List Int} (h : rightsZ l = true) : ∀ x ∈ l, 0 ≤ x := fun x hx => ((rightZ_iff x).1 (rights_mem h x hx)).1
theorem deltas_nn {l : List Int} (h : ∀ x ∈ l, x < 1114112) : ∀ d ∈ deltas l, 0 ≤ d := rows_nonneg l _ _ _ (deltas_rises l h) (by decide)
/-- The deltas of characters tell them. -/
theorem deltas_read {l : List Int} (h : rightsZ l = true) : (rall (start (lt 128 l)) (deltas l)).out = l := write_read l _ (deltas_rises l (rights_lt h))
theorem deltas_len {l : List Int} (h : rightsZ l = true) : (lt 128 l).length + (deltas l).length = l.length := by
  have h1 := rall_len (deltas l) (start (lt 128 l)) (start_kept fun x hx => (lt_mem hx).2) (deltas_nn (rights_lt h))
  rw [deltas_read h] at h1
  exact h1.symm
theorem wide_no {bs : List UInt8} (h : ∀ c ∈ bs, c.toNat < 128) : wideB bs = false := by
  unfold wideB
  rw [List.any_eq_false]
  intro c hc
  have := h c hc
  simp
  omega
theorem encB_lt {l : List Int} (h : rightsZ l = true) : ∀ c ∈ encB l, c.toNat < 128 := by
  intro c hc
  unfold encB at hc
  rcases List.mem_append.1 hc with hc | hc
  · rcases List.mem_append.1 hc with hc | hc
    · exact plainB_lt (rights_nn h) c hc
    · unfold dashB at hc
      split at hc
      · cases hc
      · rw [List.mem_singleton] at hc; subst hc; decide
  · exact (tailB_plain _ _ _ (deltas_nn (rights_lt h)) c hc).2
theorem encB_dash {l : List Int} (h : rightsZ l = true) : dashAt (encB l) = (plainB l).length ∧ (encB l).drop (tailAt (encB l)) = tailB (deltas l) 72 (lt 128 l).length true := by
  have hno := fun c hc => (tailB_plain 72 (lt 128 l).length true (deltas_nn (rights_lt h)) c hc).1
  have hpl : (plainB l).length = (lt 128 l).length := by unfold plainB; rw [List.length_map]
  by_cases h0 : (lt 128 l).length = 0
  · have hp : plainB l = [] := List.eq_nil_of_length_eq_zero (by omega)
    have he : encB l = tailB (deltas l) 72 (lt 128 l).length true := by unfold encB dashB; rw [hp, if_pos h0]; rfl
    have hd : dashAt (encB l) = 0 := by rw [he]; exact dashFrom_no _ _ _ hno
    refine ⟨by rw [hd, hp]; rfl, ?_⟩
    unfold tailAt
    rw [hd, if_pos rfl, he, List.drop_zero]
  · have he : encB l = plainB l ++ [45] ++ tailB (deltas l) 72 (lt 128 l).length true := by unfold encB dashB; rw [if_neg h0]
    have hd : dashAt (encB l) = (plainB l).length := by
      unfold dashAt
      rw [he, dashFrom_append, dashFrom_no _ _ _ hno, dashFrom_append]
      rw [dashFrom, dashFrom, if_pos (by decide)]
      omega
    refine ⟨hd, ?_⟩
    unfold tailAt
    rw [hd, if_neg (by omega), he]
    rw [show (plainB l).length + 1 = (plainB l ++ [45]).length by simp, List.drop_left]
/-- What is encoded is decoded as it was. -/
theorem dec_enc {l : List Int} (h : rightsZ l = true) (hn : l.length ≤ 110) : decB (encB l) = some l := by
  obtain ⟨h1, h2⟩ := encB_dash h
  have hl := deltas_len h
  have htk : (encB l).take (plainB l).length = plainB l := by unfold encB; rw [List.append_assoc, List.take_left]
  have hfu : (deltas l).length ≤ (encB l).length := by
    have : (tailB (deltas l) 72 (lt 128 l).length true).length ≤ (encB l).length := by unfold encB; rw [List.length_append]; omega
    have h3 := emit_len (deltas l) 72 (lt 128 l).length true
    unfold tailB at this
    rw [List.length_map] at this
    omega
  unfold decB
  rw [wide_no (encB_lt h), if_neg (by decide), h2, h1, htk, plainB_back (rights_nn h)]
  have key := decL_emit (deltas l) (start (lt 128 l)) 72 true (encB l).length (deltas_nn (rights_lt h)) (show (0 : Int) ≤ 128 by decide) (Int.le_refl 0) (by show (lt 128 l).length + _ ≤ 112; omega) (by rw [deltas_read h]; exact rights_mem h) hfu
  rw [deltas_read h] at key
  exact key
theorem enc_inj {a b : List Int} (ha : rightsZ a = true) (hb : rightsZ b = true) (hna : a.length ≤ 110) (hnb : b.length ≤ 110) (h : encB a = encB b) : a = b := by
  have h1 := dec_enc ha hna
  rw [h, dec_enc hb hnb] at h1
  exact (Option.some.inj h1).symm
/-- What was read: its deltas. -/
theorem decL_back : ∀ (fuel : Nat) (bs : List UInt8) (b : Int) (f : Bool) (r : Rd) (out : List Int), decL fuel bs b f r = some out → 128 ≤ r.n → 0 ≤ r.i → (∀ x ∈ r.out, rightZ x = true) →
    ∃ ds : List Int, (∀ d ∈ ds, 0 ≤ d) ∧ out = (rall r ds).out ∧ bs.map valB = (emit adapt ds b r.out.length f).map some ∧ (∀ x ∈ out, rightZ x = true) ∧ lt 128 out = lt 128 r.out
  | fuel, [], b, f, r, out, h, _, _, hr => by
    have : some r.out = some out := by cases fuel <;> exact h
    have := Option.some.inj this
    subst this
    exact ⟨[], (fun d hd => by cases hd), rfl, rfl, hr, rfl⟩
  | 0, _ :: _, _, _, _, _, h, _, _, _ => by cases h
  | k + 1, x :: l, b, f, r, out, h, hn, hi, hr => by
    cases hN : numB b (x :: l) 36 1 0 0 with
    | none => rw [decL_none hN] at h; cases h
    | some p =>
      obtain ⟨d, m⟩ := p
      cases hok : okStep r d with
      | false => rw [decL_bad hN hok] at h; cases h
      | true =>
        rw [decL_more hN hok] at h
        obtain ⟨hd0, hm1, hml, hdig⟩ := numB_back hN
        have hq : (rstep r d).n = r.n + (r.i + d) / (r.out.length + 1) := rfl
        have hqn : 0 ≤ (r.i + d) / (r.out.length + 1) := Int.ediv_nonneg (by omega) (by omega)
        have hm0 := Int.emod_nonneg (r.i + d) (b := r.out.length + 1) (by omega)
        have hnr : rightZ (rstep r d).n = true := by
          unfold okStep at hok
          rw [Bool.and_eq_true] at hok
          rw [hq]
          exact hok.2
        have hout := rstep_out r d
        have hmem : ∀ y ∈ (rstep r d).out, y = (rstep r d).n ∨ y ∈ r.out := by
          intro y hy
          rw [hout] at hy
          rcases List.mem_append.1 hy with hy | hy
          · exact .inr (List.mem_of_mem_take hy)
          · rcases List.mem_cons.1 hy with hy | hy
            · exact .inl hy
            · exact .inr (List.mem_of_mem_drop hy)
        have hlt : lt 128 (rstep r d).out = lt 128 r.out := by
          rw [hout]
          unfold lt
          rw [List.filter_append, List.filter_cons_of_neg (by simp; omega), ← List.filter_append, List.take_append_drop]
        obtain ⟨ds, h1, h2, h3, h4, h5⟩ := decL_back k _ _ _ (rstep r d) out h (by omega) (by show 0 ≤ (r.i + d) % (r.out.length + 1) + 1; omega) (fun y hy => by rcases hmem y hy with rfl | hy; exact hnr; exact hr y hy)
        refine ⟨d :: ds, ?_, h2, ?_, h4, by rw [h5, hlt]⟩
        · intro e he
          rcases List.mem_cons.1 he with rfl | he
          · exact hd0
          · exact h1 e he
        · rw [emit_one, List.map_append, ← hdig]
          rw [rstep_len] at h3
          rw [show ((r.out.length + 1 : Nat) : Int) = (r.out.length : Int) + 1 by omega] at h3
          rw [← h3, ← List.map_append, List.take_append_drop]
theorem smallB_digit {c : UInt8} {v : Int} (h : valB c = some v) : smallU c = digB v := by
  have hc := lt256 c
  have hv := valB_bd h
  have hd := digB_val (n := v) (by omega)
  apply UInt8.toNat_inj.1
  unfold valB valOf byteZ at h
  unfold digN at hd
  unfold smallU
  split at h
  · have := Option.some.inj h
    rw [if_neg (by omega)]
    split at hd <;> omega
  · split at h
    · have := Option.some.inj h
      rw [if_pos (by omega), UInt8.toNat_ofNat_of_lt' (by show c.toNat + 32 < 256; omega)]
      split at hd <;> omega
    · split at h
      · have := Option.some.inj h
        rw [if_neg (by omega)]
        split at hd <;> omega
      · cases h
theorem small_digB {v : Int} (h : 0 ≤ v ∧ v ≤ 35) : smallU (digB v) = digB v := smallB_digit (valB_digB h)
theorem small_tail {bs : List UInt8} {vs : List Int} (h : bs.map valB = vs.map some) : bs.map smallU = vs.map digB := by
  induction bs generalizing vs with
  | nil =>
    cases vs with
    | nil => rfl
    | cons v vs => cases h
  | cons c bs ih =>
    cases vs with
    | nil => cases h
    | cons v vs =>
      rw [List.map_cons, List.map_cons] at h
      injection h with h1 h2
      rw [List.map_cons, List.map_cons, smallB_digit h1, ih h2]
theorem lt_lt_all {m : Int} {l : List Int} (h : ∀ x ∈ l, x < m) : lt m l = l := lt_all h
/-- What is decoded is encoded so, but for the case of digits. -/
theorem enc_dec {bs : List UInt8} {l : List Int} (h : decB bs = some l) : rightsZ l = true ∧ (encB l).map smallU = bs.map smallU ∧ l.length ≤ bs.length := by
  unfold decB at h
  cases hw : wideB bs with
  | true => rw [hw] at h; cases h
  | false =>
    rw [hw, if_neg (by decide)] at h
    have hb : ∀ c ∈ bs, c.toNat < 128 := by
      intro c hc
      unfold wideB at hw
      rw [List.any_eq_false] at hw
      have := hw c hc
      simp at this
      omega
    have hp : ∀ x ∈ (bs.take (dashAt bs)).map byteZ, 0 ≤ x ∧ x < 128 := by
      intro x hx
      obtain ⟨c, hc, rfl⟩ := List.mem_map.1 hx
      have := hb c (List.mem_of_mem_take hc)
      unfold byteZ
      omega
    obtain ⟨ds, h1, h2, h3, h4, h5⟩ := decL_back _ _ _ _ _ _ h (Int.le_refl 128) (Int.le_refl 0) (fun x hx => (rightZ_iff x).2 (by have := hp x hx; omega))
    have hR : rightsZ l = true := by unfold rightsZ; rw [List.all_eq_true]; exact h4
    have hpl : lt 128 l = (bs.take (dashAt bs)).map byteZ := by rw [h5]; exact lt_all fun x hx => (hp x hx).2
    have hds : deltas l = ds := read_write (fun x hx => (hp x hx).2) h1 h2.symm hpl (deltas_rises l (rights_lt hR))
    have hlen : (lt 128 l).length = (bs.take (dashAt bs)).length := by rw [hpl, List.length_map]
    have hpb : plainB l = bs.take (dashAt bs) := by
      unfold plainB
      rw [hpl, List.map_map]
      refine (List.map_congr_left fun c _ => ?_).trans (List.map_id _)
      show UInt8.ofNat ((c.toNat : Int)).toNat = c
      rw [Int.toNat_natCast]
      exact UInt8.ofNat_toNat
    have hso : (start ((bs.take (dashAt bs)).map byteZ)).out.length = (lt 128 l).length := by rw [hpl]; rfl
    rw [hso] at h3
    have htl : (tailB (deltas l) 72 (lt 128 l).length true).map smallU = (bs.drop (tailAt bs)).map smallU := by
      rw [small_tail h3, hds]
      unfold tailB
      rw [List.map_map]
      exact List.map_congr_left fun v hv => small_digB (emit_bd ds _ _ _ h1 v hv)
    have hdl := deltas_len hR
    have hll : ds.length ≤ (bs.drop (tailAt bs)).length := by
      have e1 := congrArg List.length h3
      rw [List.length_map, List.length_map] at e1
      have := emit_len ds 72 (lt 128 l).length true
      omega
    refine ⟨hR, ?_, ?_⟩
    · unfold encB
      rw [List.map_append, htl, List.map_append, hpb]
      by_cases h0 : dashAt bs = 0
      · have : (lt 128 l).length = 0 := by rw [hlen, h0]; rfl
        unfold dashB tailAt
        rw [if_pos this, if_pos h0, h0]
        rfl
      · have h7 : ¬ (lt 128 l).length = 0 := by
          have := dashAt_lt bs
          rw [hlen, List.length_take]
          omega
        unfold dashB tailAt
        rw [if_neg h7, if_neg h0, ← List.map_append, ← List.map_append, ← at_dash h0]
    · have h8 := tailAt_le bs
      have h9 := dashAt_lt bs
      rw [List.length_drop] at hll
      rw [List.length_take] at hlen
      rw [hds] at hdl
      unfold tailAt at hll h8
      split at hll <;> omega
/-- Plain characters are written as they are, with a dash behind. -/
theorem enc_plain {bs : List UInt8} (h : ∀ c ∈ bs, c.toNat < 128) (hn : bs ≠ []) : encB (bs.map byteZ) = bs ++ [45] := by
  have hl : lt 128 (bs.map byteZ) = bs.map byteZ := lt_all fun x hx => by
    obtain ⟨c, hc, rfl⟩ := List.mem_map.1 hx
    have := h c hc
    unfold byteZ
    omega
  have hR : rightsZ (bs.map byteZ) = true := by
    unfold rightsZ
    rw [List.all_eq_true]
    intro x hx
    obtain ⟨c, hc, rfl⟩ := List.mem_map.1 hx
    have := h c hc
    rw [rightZ_iff]
    unfold byteZ
    omega
  have hd := deltas_len hR
  rw [hl] at hd
  have h0 : deltas (bs.map byteZ) = [] := List.eq_nil_of_length_eq_zero (by omega)
  have hpos : 0 < bs.length := List.length_pos_iff.2 hn
  unfold encB dashB plainB
  rw [hl, h0, if_neg (by rw [List.length_map]; omega), List.map_map]
  have : bs.map ((fun x : Int => UInt8.ofNat x.toNat) ∘ byteZ) = bs := by
    refine (List.map_congr_left fun c _ => ?_).trans (List.map_id _)
    show UInt8.ofNat ((c.toNat : Int)).toNat = c
    rw [Int.toNat_natCast]
    exact UInt8.ofNat_toNat
  rw [this]
  simp [tailB, emit]
/-- Others are written by letters and digits alone. -/
theorem enc_wide {l : List Int} (hR : rightsZ l = true) (h : ∀ x ∈ l, 127 < x) : (∀ c ∈ encB l, (valB c).isSome = true ∧ ¬ (65 ≤ c.toNat ∧ c.toNat ≤ 90)) ∧ l.length ≤ (encB l).length := by
  have hl : lt 128 l = [] := by
    unfold lt
    rw [List.filter_eq_nil_iff]
    intro x hx
    have := h x hx
    simp
    omega
  have hd := deltas_len hR
  rw [hl] at hd
  have he : encB l = tailB (deltas l) 72 0 true := by unfold encB dashB plainB; rw [hl]; rfl
  rw [he]
  refine ⟨fun c hc => ?_, ?_⟩
  · obtain ⟨v, hv, rfl⟩ := List.mem_map.1 hc
    have hb := emit_bd _ _ _ _ (deltas_nn (rights_lt hR)) v hv
    refine ⟨by rw [valB_digB hb]; rfl, ?_⟩
    have := digB_val hb
    unfold digN at this
    split at this <;> omega
  · have h3 := emit_len (deltas l) 72 0 true
    unfold tailB
    rw [List.length_map]
    simp only [List.length_nil] at hd
    omega
end Puny
end Go.Proofs.YtmbammhkkcnoaaaGreat
