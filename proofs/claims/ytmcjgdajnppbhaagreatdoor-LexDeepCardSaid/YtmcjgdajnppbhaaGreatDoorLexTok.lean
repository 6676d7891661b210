/-
  Proved here: what begins at a place of a string, the token there, or what is wrong; strings.Clone. Conditions: strings of at most 100,000 bytes.
-/
import Derived.Test.YtmcjgdajnppbhaaGreatDoorLexNote
import Derived.Test.YtmcjgdajnppbhaaGreatDoorLexLays
import Derived.Shelf.Strconv.Clone
namespace Go.Proofs.YtmcjgdajnppbhaaGreatDoor
open Go.RowKit Utf
set_option maxHeartbeats 1000000 in
set_option maxRecDepth 100000 in
theorem strClone_any (s : ByteArray) (w : World) (hs : s.size ≤ 100000) : Calls Tryz.prog 16 #[.string s] w fun e w' => e = .returned (.string s) ∧ Below w.heap.size w w' := by
  have K : Calls Tryz.prog 24 #[.string s] w fun e w' => e = .returned (.string s) ∧ Below w.heap.size w w' := Any.stringslite_Clone clone_lays s w (by omega)
  have K := Lib.hid K
  go_enter Tryz.func16, Tryz.ntmps16
  go_wp2_with fail
  with_reducible refine K.out.mono ?_
  rintro e w1 ⟨rfl, hb⟩
  have B := Lib.hid hb
  clear hb
  go_wp2
  go_ret
  exact ⟨rfl, B.out⟩
namespace Lex
/-- What it begins with. -/
def kindT : List UInt8 → Int × Bool
  | [] => (0, false)
  | c :: t =>
    if atomB c then (0, true)
    else if signN c.toNat then (2, true)
    else if white (c :: t) ≠ 0 then (4, true)
    else if c.toNat = 34 then (1, true)
    else if c.toNat = 91 then (5, true)
    else if c.toNat = 40 then (3, true)
    else (0, false)
theorem kind_cases (c : UInt8) (t : List UInt8) : (atomB c = true ∧ kindT (c :: t) = (0, true) ∧ one (c :: t) = (0, .fine ((c :: t).takeWhile atomB) ((c :: t).takeWhile atomB).length)) ∨
    (atomB c = false ∧ signN c.toNat = true ∧ kindT (c :: t) = (2, true) ∧ one (c :: t) = (2, .fine [c] 1)) ∨
    (atomB c = false ∧ signN c.toNat = false ∧ white (c :: t) ≠ 0 ∧ kindT (c :: t) = (4, true) ∧ one (c :: t) = (4, .fine ((c :: t).take (white (c :: t))) (white (c :: t)))) ∨
    (atomB c = false ∧ signN c.toNat = false ∧ white (c :: t) = 0 ∧ c.toNat = 34 ∧ kindT (c :: t) = (1, true) ∧ one (c :: t) = (1, (quo t).top)) ∨
    (atomB c = false ∧ signN c.toNat = false ∧ white (c :: t) = 0 ∧ c.toNat ≠ 34 ∧ c.toNat = 91 ∧ kindT (c :: t) = (5, true) ∧ one (c :: t) = (5, (lit t).top)) ∨
    (atomB c = false ∧ signN c.toNat = false ∧ white (c :: t) = 0 ∧ c.toNat ≠ 34 ∧ c.toNat ≠ 91 ∧ c.toNat = 40 ∧ kindT (c :: t) = (3, true) ∧ one (c :: t) = (3, (note t 1).top)) ∨
    (atomB c = false ∧ signN c.toNat = false ∧ white (c :: t) = 0 ∧ c.toNat ≠ 34 ∧ c.toNat ≠ 91 ∧ c.toNat ≠ 40 ∧ kindT (c :: t) = (0, false) ∧ one (c :: t) = (0, .bad 0)) := by
  cases h1 : atomB c with
  | true => exact .inl ⟨rfl, by rw [kindT, if_pos h1], by rw [one, if_pos h1]⟩
  | false =>
    have n1 : ¬ atomB c = true := by rw [h1]; decide
    refine .inr ?_
    cases h2 : signN c.toNat with
    | true => exact .inl ⟨rfl, rfl, by rw [kindT, if_neg n1, if_pos h2], by rw [one, if_neg n1, if_pos h2]⟩
    | false =>
      have n2 : ¬ signN c.toNat = true := by rw [h2]; decide
      refine .inr ?_
      by_cases h3 : white (c :: t) ≠ 0
      · exact .inl ⟨rfl, rfl, h3, by rw [kindT, if_neg n1, if_neg n2, if_pos h3], by rw [one, if_neg n1, if_neg n2, if_pos h3]⟩
      · have h3' : white (c :: t) = 0 := by omega
        refine .inr ?_
        by_cases h4 : c.toNat = 34
        · exact .inl ⟨rfl, rfl, h3', h4, by rw [kindT, if_neg n1, if_neg n2, if_neg h3, if_pos h4], by rw [one, if_neg n1, if_neg n2, if_neg h3, if_pos h4]⟩
        · refine .inr ?_
          by_cases h5 : c.toNat = 91
          · exact .inl ⟨rfl, rfl, h3', h4, h5, by rw [kindT, if_neg n1, if_neg n2, if_neg h3, if_neg h4, if_pos h5], by rw [one, if_neg n1, if_neg n2, if_neg h3, if_neg h4, if_pos h5]⟩
          · refine .inr ?_
            by_cases h6 : c.toNat = 40
            · exact .inl ⟨rfl, rfl, h3', h4, h5, h6, by rw [kindT, if_neg n1, if_neg n2, if_neg h3, if_neg h4, if_neg h5, if_pos h6], by rw [one, if_neg n1, if_neg n2, if_neg h3, if_neg h4, if_neg h5, if_pos h6]⟩
            · exact .inr ⟨rfl, rfl, h3', h4, h5, h6, by rw [kindT, if_neg n1, if_neg n2, if_neg h3, if_neg h4, if_neg h5, if_neg h6], by rw [one, if_neg n1, if_neg n2, if_neg h3, if_neg h4, if_neg h5, if_neg h6]⟩
end Lex
set_option maxHeartbeats 4000000 in
set_option maxRecDepth 100000 in
theorem kindAt_any (s : ByteArray) (k : Nat) (hk : k < s.size) (w : World) (hs : s.size ≤ 100000) :
    Calls Tryz.prog 27 #[.string s, .int .i64 k] w fun e w' => e = .returned (.tuple #[.int .i64 (Lex.kindT (s.data.toList.drop k)).1, .bool (Lex.kindT (s.data.toList.drop k)).2]) ∧ w = w' := by
  have hkz : (k : Int) < (s.size : Int) := by omega
  have hkl : (k : Int) ≤ (s.size : Int) := by omega
  have KA := isAtom_any s[k] w
  have KI := indexByte_any ⟨#[60, 62, 58, 59, 64, 44, 46]⟩ s[k] w
  have hi := Lex.indexByte_in Lex.signL s[k]
  rw [Lex.signL_is] at hi
  rw [show (ByteArray.mk #[60, 62, 58, 59, 64, 44, 46]).data.toList = Lex.signL from rfl] at KI
  have KW := whiteSize_any (s.extract k s.size) w (by rw [ByteArray.size_extract]; omega)
  rw [Lex.drop_of] at KW
  have hw := Lex.white1_some (s.data.toList.drop k)
  rw [drop_next s k hk] at KW hw ⊢
  generalize Lib.indexByte Lex.signL s[k] = i at KI hi
  generalize Lex.white1 (s[k] :: s.data.toList.drop (k + 1)) = a at KW hw
  have KI := Lib.hid KI
  have KW := Lib.hid KW
  rcases Lex.kind_cases s[k] (s.data.toList.drop (k + 1)) with ⟨h1, e, -⟩ | ⟨h1, h2, e, -⟩ | ⟨h1, h2, h3, e, -⟩ | ⟨h1, h2, h3, h4, e, -⟩ | ⟨h1, h2, h3, h4, h5, e, -⟩ | ⟨h1, h2, h3, h4, h5, h6, e, -⟩ | ⟨h1, h2, h3, h4, h5, h6, e, -⟩
  · rw [e]
    rw [h1] at KA
    have KA := Lib.hid KA
    clear e h1 hw hi
    go_enter Tryz.func27, Tryz.ntmps27
    go_wp2_with fail
    with_reducible refine KA.out.mono ?_
    rintro e w1 ⟨rfl, rfl⟩
    go_wp2
    go_ret2
    exact ⟨rfl, rfl⟩
  · rw [e]
    rw [h1] at KA
    rw [h2] at hi
    have KA := Lib.hid KA
    clear e h1 h2 hw
    go_enter Tryz.func27, Tryz.ntmps27
    go_wp2_with fail
    with_reducible refine KA.out.mono ?_
    rintro e w1 ⟨rfl, rfl⟩
    go_wp2_with fail
    with_reducible refine KI.out.mono ?_
    rintro e w1 ⟨rfl, rfl⟩
    go_wp2
    go_ret2
    exact ⟨rfl, rfl⟩
  · rw [e]
    rw [h1] at KA
    rw [h2] at hi
    have KA := Lib.hid KA
    have hz : (0 : Int) < (a : Int) := by have : 0 < a := by rw [hw]; exact h3
                                          omega
    clear e h1 h2 h3 hw
    go_enter Tryz.func27, Tryz.ntmps27
    go_wp2_with fail
    with_reducible refine KA.out.mono ?_
    rintro e w1 ⟨rfl, rfl⟩
    go_wp2_with fail
    with_reducible refine KI.out.mono ?_
    rintro e w1 ⟨rfl, rfl⟩
    go_wp2_with fail
    with_reducible refine KW.out.mono ?_
    rintro e w1 ⟨rfl, rfl⟩
    go_wp2
    go_ret2
    exact ⟨rfl, rfl⟩
  all_goals
    rw [e]
    rw [h1] at KA
    rw [h2] at hi
    have KA := Lib.hid KA
    have hz : ¬ (0 : Int) < (a : Int) := by
      have : ¬ 0 < a := by rw [hw]; exact fun h => h h3
      omega
    clear e h1 h2 h3 hw
  · have e4 : ((s[k].toNat : Int) == 34) = true := by simpa using (by omega : (s[k].toNat : Int) = 34)
    clear h4
    go_enter Tryz.func27, Tryz.ntmps27
    go_wp2_with fail
    with_reducible refine KA.out.mono ?_
    rintro e w1 ⟨rfl, rfl⟩
    go_wp2_with fail
    with_reducible refine KI.out.mono ?_
    rintro e w1 ⟨rfl, rfl⟩
    go_wp2_with fail
    with_reducible refine KW.out.mono ?_
    rintro e w1 ⟨rfl, rfl⟩
    go_wp2
    go_ret2
    exact ⟨rfl, rfl⟩
  · have e4 : ((s[k].toNat : Int) == 34) = false := by simpa using (by omega : ¬ (s[k].toNat : Int) = 34)
    have e5 : ((s[k].toNat : Int) == 91) = true := by simpa using (by omega : (s[k].toNat : Int) = 91)
    clear h4 h5
    go_enter Tryz.func27, Tryz.ntmps27
    go_wp2_with fail
    with_reducible refine KA.out.mono ?_
    rintro e w1 ⟨rfl, rfl⟩
    go_wp2_with fail
    with_reducible refine KI.out.mono ?_
    rintro e w1 ⟨rfl, rfl⟩
    go_wp2_with fail
    with_reducible refine KW.out.mono ?_
    rintro e w1 ⟨rfl, rfl⟩
    go_wp2
    go_ret2
    exact ⟨rfl, rfl⟩
  · have e4 : ((s[k].toNat : Int) == 34) = false := by simpa using (by omega : ¬ (s[k].toNat : Int) = 34)
    have e5 : ((s[k].toNat : Int) == 91) = false := by simpa using (by omega : ¬ (s[k].toNat : Int) = 91)
    have e6 : ((s[k].toNat : Int) == 40) = true := by simpa using (by omega : (s[k].toNat : Int) = 40)
    clear h4 h5 h6
    go_enter Tryz.func27, Tryz.ntmps27
    go_wp2_with fail
    with_reducible refine KA.out.mono ?_
    rintro e w1 ⟨rfl, rfl⟩
    go_wp2_with fail
    with_reducible refine KI.out.mono ?_
    rintro e w1 ⟨rfl, rfl⟩
    go_wp2_with fail
    with_reducible refine KW.out.mono ?_
    rintro e w1 ⟨rfl, rfl⟩
    go_wp2
    go_ret2
    exact ⟨rfl, rfl⟩
  · have e4 : ((s[k].toNat : Int) == 34) = false := by simpa using (by omega : ¬ (s[k].toNat : Int) = 34)
    have e5 : ((s[k].toNat : Int) == 91) = false := by simpa using (by omega : ¬ (s[k].toNat : Int) = 91)
    have e6 : ((s[k].toNat : Int) == 40) = false := by simpa using (by omega : ¬ (s[k].toNat : Int) = 40)
    clear h4 h5 h6
    go_enter Tryz.func27, Tryz.ntmps27
    go_wp2_with fail
    with_reducible refine KA.out.mono ?_
    rintro e w1 ⟨rfl, rfl⟩
    go_wp2_with fail
    with_reducible refine KI.out.mono ?_
    rintro e w1 ⟨rfl, rfl⟩
    go_wp2_with fail
    with_reducible refine KW.out.mono ?_
    rintro e w1 ⟨rfl, rfl⟩
    go_wp2
    go_ret2
    exact ⟨rfl, rfl⟩
namespace Lex
/-- The token at a place, or what is wrong. -/
def tokV (k : Nat) : Int × Cut → Value
  | (K, .fine x n) => .tuple #[.agg #[.int .i64 K, .string ⟨x.toArray⟩, .int .i64 (k : Int)], .int .i64 ((k + n : Nat) : Int), .int .i64 0]
  | (_, .bad i) => .tuple #[.agg #[.int .i64 0, .string ⟨#[]⟩, .int .i64 0], .int .i64 ((k + i : Nat) : Int), .int .i64 4]
  | (_, .deep i) => .tuple #[.agg #[.int .i64 0, .string ⟨#[]⟩, .int .i64 0], .int .i64 ((k + i : Nat) : Int), .int .i64 6]
  | (_, .gap) => .tuple #[.agg #[.int .i64 0, .string ⟨#[]⟩, .int .i64 0], .int .i64 (k : Int), .int .i64 4]
theorem told_cases (k : Nat) (K : Int) (r : Cut) : (∃ x n, told k r = .tuple #[.string ⟨x.toArray⟩, .int .i64 ((k + n : Nat) : Int), .int .i64 0] ∧ tokV k (K, r) = .tuple #[.agg #[.int .i64 K, .string ⟨x.toArray⟩, .int .i64 (k : Int)], .int .i64 ((k + n : Nat) : Int), .int .i64 0] ∧ r = .fine x n) ∨
    (∃ m E, (E = 4 ∨ E = 6) ∧ told k r = .tuple #[.string ⟨#[]⟩, .int .i64 m, .int .i64 E] ∧ tokV k (K, r) = .tuple #[.agg #[.int .i64 0, .string ⟨#[]⟩, .int .i64 0], .int .i64 m, .int .i64 E]) := by
  cases r with
  | fine x n => exact .inl ⟨x, n, rfl, rfl, rfl⟩
  | bad i => exact .inr ⟨_, 4, .inl rfl, rfl, rfl⟩
  | deep i => exact .inr ⟨_, 6, .inr rfl, rfl, rfl⟩
  | gap => exact .inr ⟨_, 4, .inl rfl, rfl, rfl⟩
theorem top_few (r : Cut) (N : Nat) (h : ∀ x n, r = .fine x n → x.length ≤ N) : ∀ x n, r.top = .fine x n → x.length ≤ N := by
  intro x n hx
  cases r with
  | fine y m =>
    injection hx with h1 h2
    subst h1
    exact h y m rfl
  | bad i => cases hx
  | deep i => cases hx
  | gap => cases hx
end Lex
theorem tokBox {w w1 : World} (hb1 : Below (w.alloc (.cells #[.int .i64 0, .string ⟨#[]⟩, .int .i64 0] 23)).heap.size (w.alloc (.cells #[.int .i64 0, .string ⟨#[]⟩, .int .i64 0] 23)) w1) :
    w.heap.size < w1.heap.size ∧ (∀ i, w1.frozen? ⟨w.heap.size, i, none⟩ = false) ∧ w1.cell? ⟨w.heap.size, 0, none⟩ = some (.int .i64 0) ∧ w1.cell? ⟨w.heap.size, 1, none⟩ = some (.string ⟨#[]⟩) ∧ w1.cell? ⟨w.heap.size, 2, none⟩ = some (.int .i64 0) := by
  have hc : ∀ i, w1.cell? ⟨w.heap.size, i, none⟩ = _ := fun i => hb1.cell (p := ⟨w.heap.size, i, none⟩) (show w.heap.size < _ by simp)
  exact ⟨by have := hb1.size; simp at this; omega, fun i => (hb1.frozen (p := ⟨w.heap.size, i, none⟩) (show w.heap.size < _ by simp)).trans (by go_simp),
    (hc 0).trans (by go_simp), (hc 1).trans (by go_simp), (hc 2).trans (by go_simp)⟩
theorem belowTok0 {w w1 : World} {o : Obj} (hb1 : Below (w.alloc o).heap.size (w.alloc o) w1) : Below w.heap.size w w1 :=
  ((Below.refl _ w).alloc (Nat.le_refl _) o).trans (hb1.mono (by simp))
theorem belowTok {w w1 : World} (hb : Below w.heap.size w w1) (a b c : Value) : Below w.heap.size w (((w1.setCell ⟨w.heap.size, 0, none⟩ a).setCell ⟨w.heap.size, 1, none⟩ b).setCell ⟨w.heap.size, 2, none⟩ c) :=
  ((hb.setCell (p := ⟨w.heap.size, 0, none⟩) (Nat.le_refl _) a).setCell (p := ⟨w.heap.size, 1, none⟩) (Nat.le_refl _) b).setCell (p := ⟨w.heap.size, 2, none⟩) (Nat.le_refl _) c
set_option maxHeartbeats 4000000 in
set_option maxRecDepth 100000 in
theorem token_any (s : ByteArray) (k : Nat) (hk : k < s.size) (w : World) (hs : s.size ≤ 100000) :
    Calls Tryz.prog 18 #[.string s, .int .i64 k] w fun e w' => e = .returned (Lex.tokV k (Lex.one (s.data.toList.drop k))) ∧ Below w.heap.size w w' := by
  obtain ⟨R, hR⟩ : ∃ R, R = Lex.tokV k (Lex.one (s.data.toList.drop k)) := ⟨_, rfl⟩
  rw [← hR]
  have KA := kindAt_any s k hk (w.alloc (.cells #[.int .i64 0, .string ⟨#[]⟩, .int .i64 0] 23)) hs
  have hdr := drop_next s k hk
  rw [hdr] at hR KA
  have hkz : (k : Int) < (s.size : Int) := by omega
  have hkl : (k : Int) ≤ (s.size : Int) := by omega
  have hsl : s.data.toList.length = s.size := by simp
  rcases Lex.kind_cases s[k] (s.data.toList.drop (k + 1)) with ⟨-, e, eo⟩ | ⟨-, -, e, eo⟩ | ⟨-, -, -, e, eo⟩ | ⟨-, -, -, -, e, eo⟩ | ⟨-, -, -, -, -, e, eo⟩ | ⟨-, -, -, -, -, h6, e, eo⟩ | ⟨-, -, -, -, -, -, e, eo⟩
  · rw [eo, ← hdr] at hR
    rw [e] at KA
    have KA := Lib.hid KA
    clear e eo
    obtain ⟨n, hn⟩ : ∃ n, n = ((s.data.toList.drop k).takeWhile Lex.atomB).length := ⟨_, rfl⟩
    rw [← hn] at hR
    have hle : k + n ≤ s.size := by
      have := (Lex.while_all Lex.atomB (s.data.toList.drop k)).1
      rw [List.length_drop] at this
      omega
    have KP := Lib.hid (fun W => runEnd_any 20 Lex.atom1 Lex.atom1_le (fun _ _ => by kernel_rfl) (fun t W h => atomSize_any t W h) s k (by omega) W hs)
    rw [Lex.run_atom, ← hn] at KP
    have E2 : Hid (R = .tuple #[.agg #[.int .i64 0, .string (s.extract k (k + n)), .int .i64 k], .int .i64 ((k + n : Nat) : Int), .int .i64 0]) := Lib.hid (by
      rw [hR]
      show Value.tuple #[.agg #[_, .string ⟨List.toArray _⟩, _], _, _] = _
      rw [show s.extract k (k + n) = ⟨((s.data.toList.drop k).take n).toArray⟩ by rw [show (s.data.toList.drop k).take n = (s.data.toList.drop k).take (k + n - k) by rw [Nat.add_sub_cancel_left], ← Lex.sub_of]]
      rw [hn, ← (Lex.while_all Lex.atomB (s.data.toList.drop k)).2.1])
    have KC := Lib.hid (fun W => strClone_any (s.extract k (k + n)) W (by rw [ByteArray.size_extract]; omega))
    obtain ⟨m, hm⟩ : ∃ m, m = k + n := ⟨_, rfl⟩
    rw [← hm] at KP E2 KC hle
    have hmz : (m : Int) ≤ (s.size : Int) := by omega
    have hkm : (k : Int) ≤ (m : Int) := by omega
    clear hR hn hm hdr hsl
    · go_enter Tryz.func18, Tryz.ntmps18
      go_wp2_with fail
      with_reducible refine KA.out.mono ?_
      rintro e w1 ⟨rfl, rfl⟩
      go_wp2_with fail
      with_reducible refine (KP.out _).mono ?_
      rintro e w1 ⟨rfl, rfl⟩
      go_wp2_with fail
      with_reducible refine (KC.out _).mono ?_
      rintro e w2 ⟨rfl, hb2⟩
      have B2 := Lib.hid hb2
      clear hb2
      obtain ⟨hz, fz, d0, d1, d2⟩ := tokBox B2.out
      go_wp2
      refine bodyPost_ret (v := .tuple #[.agg #[.int .i64 0, .string (s.extract k m), .int .i64 k], .int .i64 m, .int .i64 0]) (by simp [results, Tryz.results18, go_sem, d0, d1, d2]) rfl ⟨congrArg Ending.returned E2.out.symm, ?_⟩
      exact belowTok (belowTok0 B2.out) _ _ _
  · rw [eo] at hR
    rw [e] at KA
    have KA := Lib.hid KA
    clear e eo
    have E2 : Hid (R = .tuple #[.agg #[.int .i64 2, .string (s.extract k (k + 1)), .int .i64 k], .int .i64 ((k : Int) + 1), .int .i64 0]) := Lib.hid (by
      rw [hR]
      show Value.tuple #[.agg #[_, .string ⟨List.toArray _⟩, _], .int .i64 ((k + 1 : Nat) : Int), _] = _
      rw [show s.extract k (k + 1) = ⟨[s[k]].toArray⟩ by
        have h := Lex.sub_of s k (k + 1)
        rw [hdr, Nat.add_sub_cancel_left, List.take_succ_cons, List.take_zero] at h
        rw [← h]]
      rfl)
    have KC := Lib.hid (fun W => strClone_any (s.extract k (k + 1)) W (by rw [ByteArray.size_extract]; omega))
    have hmz : (k : Int) + 1 ≤ (s.size : Int) := by omega
    clear hR hdr hsl
    · go_enter Tryz.func18, Tryz.ntmps18
      go_wp2_with fail
      with_reducible refine KA.out.mono ?_
      rintro e w1 ⟨rfl, rfl⟩
      go_wp2_with fail
      with_reducible refine (KC.out _).mono ?_
      rintro e w2 ⟨rfl, hb2⟩
      have B2 := Lib.hid hb2
      clear hb2
      obtain ⟨hz, fz, d0, d1, d2⟩ := tokBox B2.out
      go_wp2
      refine bodyPost_ret (v := .tuple #[.agg #[.int .i64 2, .string (s.extract k (k + 1)), .int .i64 k], .int .i64 ((k : Int) + 1), .int .i64 0]) (by simp [results, Tryz.results18, go_sem, d0, d1, d2]) rfl ⟨congrArg Ending.returned E2.out.symm, ?_⟩
      exact belowTok (belowTok0 B2.out) _ _ _
  · rw [eo, ← hdr] at hR
    rw [e] at KA
    have KA := Lib.hid KA
    clear e eo
    obtain ⟨n, hn⟩ : ∃ n, n = Lex.white (s.data.toList.drop k) := ⟨_, rfl⟩
    rw [← hn] at hR
    have hle : k + n ≤ s.size := by
      have := Lex.white_le (s.data.toList.drop k)
      rw [List.length_drop] at this
      omega
    have KP := Lib.hid (fun W => runEnd_any 31 Lex.white1 Lex.white1_le (fun _ _ => by kernel_rfl) (fun t W h => whiteSize_any t W h) s k (by omega) W hs)
    rw [Lex.run_white _ _ (Nat.le_refl _), ← hn] at KP
    have E2 : Hid (R = .tuple #[.agg #[.int .i64 4, .string (s.extract k (k + n)), .int .i64 k], .int .i64 ((k + n : Nat) : Int), .int .i64 0]) := Lib.hid (by
      rw [hR]
      show Value.tuple #[.agg #[_, .string ⟨List.toArray _⟩, _], _, _] = _
      rw [show s.extract k (k + n) = ⟨((s.data.toList.drop k).take n).toArray⟩ by rw [show (s.data.toList.drop k).take n = (s.data.toList.drop k).take (k + n - k) by rw [Nat.add_sub_cancel_left], ← Lex.sub_of]])
    have KC := Lib.hid (fun W => strClone_any (s.extract k (k + n)) W (by rw [ByteArray.size_extract]; omega))
    obtain ⟨m, hm⟩ : ∃ m, m = k + n := ⟨_, rfl⟩
    rw [← hm] at KP E2 KC hle
    have hmz : (m : Int) ≤ (s.size : Int) := by omega
    have hkm : (k : Int) ≤ (m : Int) := by omega
    clear hR hn hm hdr hsl
    · go_enter Tryz.func18, Tryz.ntmps18
      go_wp2_with fail
      with_reducible refine KA.out.mono ?_
      rintro e w1 ⟨rfl, rfl⟩
      go_wp2_with fail
      with_reducible refine (KP.out _).mono ?_
      rintro e w1 ⟨rfl, rfl⟩
      go_wp2_with fail
      with_reducible refine (KC.out _).mono ?_
      rintro e w2 ⟨rfl, hb2⟩
      have B2 := Lib.hid hb2
      clear hb2
      obtain ⟨hz, fz, d0, d1, d2⟩ := tokBox B2.out
      go_wp2
      refine bodyPost_ret (v := .tuple #[.agg #[.int .i64 4, .string (s.extract k m), .int .i64 k], .int .i64 m, .int .i64 0]) (by simp [results, Tryz.results18, go_sem, d0, d1, d2]) rfl ⟨congrArg Ending.returned E2.out.symm, ?_⟩
      exact belowTok (belowTok0 B2.out) _ _ _
  · rw [eo] at hR
    rw [e] at KA
    have KA := Lib.hid KA
    clear e eo hdr
    have KP := Lib.hid (fun W => quote_any s k hk W hs)
    rcases Lex.told_cases k 1 (Lex.quo (s.data.toList.drop (k + 1))).top with ⟨x, n, e1, e2, hx⟩ | ⟨m, E, hE, e1, e2⟩
    · rw [e1] at KP
      have hxl := Lex.top_few _ s.size (fun y j h => by have := Lex.quo_fine _ _ _ _ (Nat.le_refl _) h; have h2 := List.length_drop (i := k + 1) (l := s.data.toList); omega) x n hx
      have E2 := Lib.hid (hR.trans e2)
      have KC := Lib.hid (fun W => strClone_any ⟨x.toArray⟩ W (by simp only [ByteArray.size, List.size_toArray]; omega))
      clear hR e1 e2 hx hxl hsl
      obtain ⟨m, hm⟩ : ∃ m : Int, m = ((k + n : Nat) : Int) := ⟨_, rfl⟩
      rw [← hm] at KP E2
      clear hm
      obtain ⟨X, hX⟩ : ∃ X : ByteArray, X = ⟨x.toArray⟩ := ⟨_, rfl⟩
      rw [← hX] at KP E2 KC
      clear hX
      go_enter Tryz.func18, Tryz.ntmps18
      go_wp2_with fail
      with_reducible refine KA.out.mono ?_
      rintro e w1 ⟨rfl, rfl⟩
      go_wp2_with fail
      with_reducible refine (KP.out _).mono ?_
      rintro e w1 ⟨rfl, hb1⟩
      have B1 := Lib.hid hb1
      clear hb1
      go_wp2_with fail
      with_reducible refine (KC.out _).mono ?_
      rintro e w2 ⟨rfl, hb2⟩
      have B2 := Lib.hid hb2
      clear hb2
      have B3 := Lib.hid (B1.out.trans (B2.out.mono B1.out.size))
      obtain ⟨hz, fz, d0, d1, d2⟩ := tokBox B3.out
      go_wp2
      refine bodyPost_ret (v := .tuple #[.agg #[.int .i64 1, .string X, .int .i64 k], .int .i64 m, .int .i64 0]) (by simp [results, Tryz.results18, go_sem, d0, d1, d2]) rfl ⟨congrArg Ending.returned E2.out.symm, ?_⟩
      exact belowTok (belowTok0 B3.out) _ _ _
    · rw [e1] at KP
      have E2 := Lib.hid (hR.trans e2)
      clear hR e1 e2 hsl
      have hEz : (E == 0) = false := by rcases hE with rfl | rfl <;> rfl
      clear hE
      go_enter Tryz.func18, Tryz.ntmps18
      go_wp2_with fail
      with_reducible refine KA.out.mono ?_
      rintro e w1 ⟨rfl, rfl⟩
      go_wp2_with fail
      with_reducible refine (KP.out _).mono ?_
      rintro e w1 ⟨rfl, hb1⟩
      have B1 := Lib.hid hb1
      clear hb1
      obtain ⟨hz, fz, d0, d1, d2⟩ := tokBox B1.out
      go_wp2
      refine bodyPost_ret (v := .tuple #[.agg #[.int .i64 0, .string ⟨#[]⟩, .int .i64 0], .int .i64 m, .int .i64 E]) (by simp [results, Tryz.results18, go_sem, d0, d1, d2]) rfl ⟨congrArg Ending.returned E2.out.symm, ?_⟩
      exact belowTok (belowTok0 B1.out) _ _ _
  · rw [eo] at hR
    rw [e] at KA
    have KA := Lib.hid KA
    clear e eo hdr
    have KP : Hid (∀ W, Calls Tryz.prog 29 #[.string s, .int .i64 k] W fun e w' => e = .returned (Lex.told k (Lex.lit (s.data.toList.drop (k + 1))).top) ∧ Below W.heap.size W w') := Lib.hid (fun W => (literal_any s k hk W hs).mono fun _ _ h => ⟨h.1, h.2 ▸ Below.refl _ _⟩)
    rcases Lex.told_cases k 5 (Lex.lit (s.data.toList.drop (k + 1))).top with ⟨x, n, e1, e2, hx⟩ | ⟨m, E, hE, e1, e2⟩
    · rw [e1] at KP
      have hxl := Lex.top_few _ s.size (fun y j h => by have h1 := Lex.lit_fine _ _ _ h; have h2 := List.length_drop (i := k + 1) (l := s.data.toList); have h3 := congrArg List.length h1.2.2.1; rw [List.length_append, List.length_take] at h3; omega) x n hx
      have E2 := Lib.hid (hR.trans e2)
      have KC := Lib.hid (fun W => strClone_any ⟨x.toArray⟩ W (by simp only [ByteArray.size, List.size_toArray]; omega))
      clear hR e1 e2 hx hxl hsl
      obtain ⟨m, hm⟩ : ∃ m : Int, m = ((k + n : Nat) : Int) := ⟨_, rfl⟩
      rw [← hm] at KP E2
      clear hm
      obtain ⟨X, hX⟩ : ∃ X : ByteArray, X = ⟨x.toArray⟩ := ⟨_, rfl⟩
      rw [← hX] at KP E2 KC
      clear hX
      go_enter Tryz.func18, Tryz.ntmps18
      go_wp2_with fail
      with_reducible refine KA.out.mono ?_
      rintro e w1 ⟨rfl, rfl⟩
      go_wp2_with fail
      with_reducible refine (KP.out _).mono ?_
      rintro e w1 ⟨rfl, hb1⟩
      have B1 := Lib.hid hb1
      clear hb1
      go_wp2_with fail
      with_reducible refine (KC.out _).mono ?_
      rintro e w2 ⟨rfl, hb2⟩
      have B2 := Lib.hid hb2
      clear hb2
      have B3 := Lib.hid (B1.out.trans (B2.out.mono B1.out.size))
      obtain ⟨hz, fz, d0, d1, d2⟩ := tokBox B3.out
      go_wp2
      refine bodyPost_ret (v := .tuple #[.agg #[.int .i64 5, .string X, .int .i64 k], .int .i64 m, .int .i64 0]) (by simp [results, Tryz.results18, go_sem, d0, d1, d2]) rfl ⟨congrArg Ending.returned E2.out.symm, ?_⟩
      exact belowTok (belowTok0 B3.out) _ _ _
    · rw [e1] at KP
      have E2 := Lib.hid (hR.trans e2)
      clear hR e1 e2 hsl
      have hEz : (E == 0) = false := by rcases hE with rfl | rfl <;> rfl
      clear hE
      go_enter Tryz.func18, Tryz.ntmps18
      go_wp2_with fail
      with_reducible refine KA.out.mono ?_
      rintro e w1 ⟨rfl, rfl⟩
      go_wp2_with fail
      with_reducible refine (KP.out _).mono ?_
      rintro e w1 ⟨rfl, hb1⟩
      have B1 := Lib.hid hb1
      clear hb1
      obtain ⟨hz, fz, d0, d1, d2⟩ := tokBox B1.out
      go_wp2
      refine bodyPost_ret (v := .tuple #[.agg #[.int .i64 0, .string ⟨#[]⟩, .int .i64 0], .int .i64 m, .int .i64 E]) (by simp [results, Tryz.results18, go_sem, d0, d1, d2]) rfl ⟨congrArg Ending.returned E2.out.symm, ?_⟩
      exact belowTok (belowTok0 B1.out) _ _ _
  · rw [eo] at hR
    rw [e] at KA
    have KA := Lib.hid KA
    clear e eo hdr
    have KP : Hid (∀ W, Calls Tryz.prog 30 #[.string s, .int .i64 k] W fun e w' => e = .returned (Lex.told k (Lex.note (s.data.toList.drop (k + 1)) 1).top) ∧ Below W.heap.size W w') := Lib.hid (fun W => (note_any s k hk h6 W hs).mono fun _ _ h => ⟨h.1, h.2 ▸ Below.refl _ _⟩)
    rcases Lex.told_cases k 3 (Lex.note (s.data.toList.drop (k + 1)) 1).top with ⟨x, n, e1, e2, hx⟩ | ⟨m, E, hE, e1, e2⟩
    · rw [e1] at KP
      have hxl := Lex.top_few _ s.size (fun y j h => by have h1 := Lex.note_fine _ _ _ _ _ (Nat.le_refl _) h; have h2 := List.length_drop (i := k + 1) (l := s.data.toList); have h3 := congrArg List.length h1.2.2.1; rw [List.length_append, List.length_take] at h3; omega) x n hx
      have E2 := Lib.hid (hR.trans e2)
      have KC := Lib.hid (fun W => strClone_any ⟨x.toArray⟩ W (by simp only [ByteArray.size, List.size_toArray]; omega))
      clear hR e1 e2 hx hxl hsl
      obtain ⟨m, hm⟩ : ∃ m : Int, m = ((k + n : Nat) : Int) := ⟨_, rfl⟩
      rw [← hm] at KP E2
      clear hm
      obtain ⟨X, hX⟩ : ∃ X : ByteArray, X = ⟨x.toArray⟩ := ⟨_, rfl⟩
      rw [← hX] at KP E2 KC
      clear hX
      go_enter Tryz.func18, Tryz.ntmps18
      go_wp2_with fail
      with_reducible refine KA.out.mono ?_
      rintro e w1 ⟨rfl, rfl⟩
      go_wp2_with fail
      with_reducible refine (KP.out _).mono ?_
      rintro e w1 ⟨rfl, hb1⟩
      have B1 := Lib.hid hb1
      clear hb1
      go_wp2_with fail
      with_reducible refine (KC.out _).mono ?_
      rintro e w2 ⟨rfl, hb2⟩
      have B2 := Lib.hid hb2
      clear hb2
      have B3 := Lib.hid (B1.out.trans (B2.out.mono B1.out.size))
      obtain ⟨hz, fz, d0, d1, d2⟩ := tokBox B3.out
      go_wp2
      refine bodyPost_ret (v := .tuple #[.agg #[.int .i64 3, .string X, .int .i64 k], .int .i64 m, .int .i64 0]) (by simp [results, Tryz.results18, go_sem, d0, d1, d2]) rfl ⟨congrArg Ending.returned E2.out.symm, ?_⟩
      exact belowTok (belowTok0 B3.out) _ _ _
    · rw [e1] at KP
      have E2 := Lib.hid (hR.trans e2)
      clear hR e1 e2 hsl
      have hEz : (E == 0) = false := by rcases hE with rfl | rfl <;> rfl
      clear hE
      go_enter Tryz.func18, Tryz.ntmps18
      go_wp2_with fail
      with_reducible refine KA.out.mono ?_
      rintro e w1 ⟨rfl, rfl⟩
      go_wp2_with fail
      with_reducible refine (KP.out _).mono ?_
      rintro e w1 ⟨rfl, hb1⟩
      have B1 := Lib.hid hb1
      clear hb1
      obtain ⟨hz, fz, d0, d1, d2⟩ := tokBox B1.out
      go_wp2
      refine bodyPost_ret (v := .tuple #[.agg #[.int .i64 0, .string ⟨#[]⟩, .int .i64 0], .int .i64 m, .int .i64 E]) (by simp [results, Tryz.results18, go_sem, d0, d1, d2]) rfl ⟨congrArg Ending.returned E2.out.symm, ?_⟩
      exact belowTok (belowTok0 B1.out) _ _ _
  · rw [eo] at hR
    rw [e] at KA
    have KA := Lib.hid KA
    clear e eo hdr
    have E2 : Hid (R = .tuple #[.agg #[.int .i64 0, .string ⟨#[]⟩, .int .i64 0], .int .i64 k, .int .i64 4]) := Lib.hid hR
    clear hR hsl
    · go_enter Tryz.func18, Tryz.ntmps18
      go_wp2_with fail
      with_reducible refine KA.out.mono ?_
      rintro e w1 ⟨rfl, rfl⟩
      obtain ⟨hz, fz, d0, d1, d2⟩ := tokBox (Below.refl (w.alloc (.cells #[.int .i64 0, .string ⟨#[]⟩, .int .i64 0] 23)).heap.size (w.alloc (.cells #[.int .i64 0, .string ⟨#[]⟩, .int .i64 0] 23)))
      go_wp2
      refine bodyPost_ret (v := .tuple #[.agg #[.int .i64 0, .string ⟨#[]⟩, .int .i64 0], .int .i64 k, .int .i64 4]) (by simp [results, Tryz.results18, go_sem]) rfl ⟨congrArg Ending.returned E2.out.symm, ?_⟩
      exact (Below.refl _ w).alloc (Nat.le_refl _) _
end Go.Proofs.YtmcjgdajnppbhaaGreatDoor
