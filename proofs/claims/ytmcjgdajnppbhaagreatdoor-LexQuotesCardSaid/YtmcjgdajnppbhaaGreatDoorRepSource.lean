/-
  Proved here: the program's Source. Conditions: strings of at most 100,000 bytes.
-/
import Derived.Test.YtmcjgdajnppbhaaGreatDoorRepWalk
import Derived.Test.YtmcjgdajnppbhaaGreatDoorLexCut
import Derived.Deep.RegionHeld3
namespace Go.Proofs.YtmcjgdajnppbhaaGreatDoor
open Go.RowKit Utf
set_option maxHeartbeats 2000000 in
set_option maxRecDepth 100000 in
/-- '(*strings.Replacer).Replace', the first time. -/
theorem replace_any (g h c : Nat) (r : Value) (s : ByteArray) (w : World) (hs : s.size ≤ 100000) (H : GAt g 0 0 r (.slice (some ⟨h, 0, none⟩) 4 c) w) (M : Made g h c w) :
    Calls Tryz.prog 15 #[.pointer (some ⟨g, 0, none⟩), .string s] w fun e w' => e = .returned (.string ⟨(Lex.esc s.data.toList).toArray⟩) ∧ Below g w w' := by
  have KD := Lib.hid (do_any g h c r w H M)
  have hmf : ∀ (fn : Fn) (first cap : Array Value) (w : World), (Instr.makeFunc fn first cap).run Tryz.prog w = .ok (.func fn first cap) w := fun _ _ _ _ => rfl
  clear H M
  go_enter Tryz.func15, Tryz.ntmps15
  go_wp2_with fail
  refine KD.out.mono ?_
  rintro e w1 ⟨rfl, B, h1, hr, hb⟩
  have c3 := h1.c3
  have KR := Lib.hid (repl_any _ B s w1 hs hr)
  have HB := Lib.hid hb
  have HG := Lib.hid h1.lt
  clear h1 hr hb
  go_wp2_with fail
  refine KR.out.mono ?_
  rintro e w2 ⟨rfl, hb2⟩
  have HB2 := Lib.hid hb2
  clear hb2
  go_wp2
  go_ret
  exact ⟨rfl, HB.out.trans (HB2.out.mono (Nat.le_of_lt HG.out))⟩
theorem OwnS.room {base : Nat} {v : Value} {l : List (List UInt8)} {w : World} (h : OwnS base v l w) (hl : 0 < l.length) : ∃ g c, v = .slice (some ⟨g, 0, none⟩) l.length c ∧ l.length ≤ c ∧ base ≤ g ∧ g < w.heap.size := by
  rcases h.2 with ⟨-, h0⟩ | ⟨g, cap, cur, rfl, hb, hg, hnc, hcm, hcs, hcur⟩
  · omega
  · exact ⟨g, cap, rfl, hnc, hb, (World.ownsRow.lt h g rfl).2⟩
def NewRep (w : World) (e : Ending) (w' : World) : Prop := ∃ g h c r, e = .returned (.pointer (some ⟨g, 0, none⟩)) ∧ GAt g 0 0 r (.slice (some ⟨h, 0, none⟩) 4 c) w' ∧ Made g h c w' ∧ w.heap.size ≤ g ∧ Below w.heap.size w w'
/-- The four strings. -/
def fourL : List (List UInt8) := [[34], [92, 34], [92], [92, 92]]
set_option maxHeartbeats 2000000 in
set_option maxRecDepth 100000 in
theorem newRep_any (b : Nat) (w : World) (h0 : w.cell? ⟨b, 0, none⟩ = some (.string ⟨#[34]⟩)) (h1 : w.cell? ⟨b, 1, none⟩ = some (.string ⟨#[92, 34]⟩)) (h2 : w.cell? ⟨b, 2, none⟩ = some (.string ⟨#[92]⟩)) (h3 : w.cell? ⟨b, 3, none⟩ = some (.string ⟨#[92, 92]⟩)) :
    Calls Tryz.prog 14 #[.slice (some ⟨b, 0, none⟩) 4 4] w (NewRep w) := by
  obtain ⟨i0, hi, hz0, hz1, hz2⟩ := info_parts info_str
  have HS := Lib.hid (show ∀ j u, (fourL.map strV)[j]? = some u → w.cell? ((⟨b, 0, none⟩ : Addr).add j) = some u from fun j u hj => by
    rw [Addr.add_lit]
    match j, hj with
    | 0, hj => simp only [fourL, List.map_cons, List.getElem?_cons_zero, Option.some.injEq] at hj; subst hj; exact h0
    | 1, hj => simp only [fourL, List.map_cons, List.getElem?_cons_succ, List.getElem?_cons_zero, Option.some.injEq] at hj; subst hj; exact h1
    | 2, hj => simp only [fourL, List.map_cons, List.getElem?_cons_succ, List.getElem?_cons_zero, Option.some.injEq] at hj; subst hj; exact h2
    | 3, hj => simp only [fourL, List.map_cons, List.getElem?_cons_succ, List.getElem?_cons_zero, Option.some.injEq] at hj; subst hj; exact h3
    | j + 4, hj => simp [fourL] at hj)
  have H1 : Hid (∀ u ∈ fourL.map strV, u.oneCell' = true) := Lib.hid (fun u hu => by obtain ⟨x, -, rfl⟩ := List.mem_map.1 hu; rfl)
  clear h0 h1 h2 h3
  go_enter Tryz.func14, Tryz.ntmps14
  go_wp2_with (at_builtin; (refine wpList_append_own _ rfl _ _ 47 rfl w.heap.size 9 i0 (.string ⟨#[]⟩) 1 16 Tryz.underlying47 hi hz0 hz1 hz2 rfl (by decide) (.slice none 0 0) 0 [] rfl (World.ownsRow_nil _ _ _ _) ⟨b, 0, none⟩ 4 4 (fourL.map strV) rfl rfl HS.out H1.out (by simp [maxLen]) (by omega) (by simp) ?_); intro v2 w2 ho2 hg2 _; have HO := Lib.hid (show OwnS w.heap.size v2 fourL w2 from ho2); have HB2 := Lib.hid (show Below w.heap.size w w2 from ⟨hg2.os, hg2.tape, hg2.output, hg2.size, fun k hk => hg2.block k hk (fun e => by have : some k = (none : Option Nat) := e; cases this)⟩); clear ho2 hg2; obtain ⟨h, c, rfl, hc, hh, hlt⟩ := HO.out.room (by decide))
  go_ret
  have hc' : 4 ≤ c := hc
  refine ⟨w2.heap.size, h, c, _, rfl, heap_alloc_new w2 _, ?_, HB2.out.size, HB2.out.alloc HB2.out.size _⟩
  have hk := fun o => HO.out.keep ((Below.refl _ w2).alloc (Nat.le_refl _) o)
  exact ⟨OwnS.cell (hk _) 0 (by decide), OwnS.cell (hk _) 1 (by decide), OwnS.cell (hk _) 2 (by decide), OwnS.cell (hk _) 3 (by decide), by omega, hc'⟩
theorem newRep_at (W : World) (b : Nat) (hb : b = W.heap.size) : Calls Tryz.prog 14 #[.slice (some ⟨b, 0, none⟩) 4 4] (W.alloc (.cells #[.string ⟨#[34]⟩, .string ⟨#[92, 34]⟩, .string ⟨#[92]⟩, .string ⟨#[92, 92]⟩] 9)).drew (NewRep (W.alloc (.cells #[.string ⟨#[34]⟩, .string ⟨#[92, 34]⟩, .string ⟨#[92]⟩, .string ⟨#[92, 92]⟩] 9)).drew) := by
  subst hb
  exact newRep_any W.heap.size _ (by go_simp) (by go_simp) (by go_simp) (by go_simp)
namespace Lex
theorem ba_app (a b : List UInt8) : (⟨a.toArray⟩ : ByteArray) ++ ⟨b.toArray⟩ = ⟨(a ++ b).toArray⟩ := by
  apply ByteArray.ext
  simp [ByteArray.data_append]
theorem ba_three (c d : UInt8) (x : List UInt8) : (⟨#[c]⟩ : ByteArray) ++ ⟨x.toArray⟩ ++ ⟨#[d]⟩ = ⟨(c :: (x ++ [d])).toArray⟩ := by
  rw [show (⟨#[c]⟩ : ByteArray) = ⟨[c].toArray⟩ from rfl, show (⟨#[d]⟩ : ByteArray) = ⟨[d].toArray⟩ from rfl, ba_app, ba_app]
  rfl
end Lex
set_option maxHeartbeats 4000000 in
set_option maxRecDepth 100000 in
theorem sourceP_any (k p : Int) (s : ByteArray) (w : World) (hs : s.size ≤ 100000) : Calls Tryz.prog 9 #[.agg #[.int .i64 k, .string s, .int .i64 p]] w fun e w' => e = .returned (.string ⟨(Lex.srcT k s.data.toList).toArray⟩) ∧ Below w.heap.size w w' := by
  obtain ⟨R, hR⟩ : ∃ R : ByteArray, R = ⟨(Lex.srcT k s.data.toList).toArray⟩ := ⟨_, rfl⟩
  rw [← hR]
  by_cases h3 : k = 3
  · subst h3
    have E := Lib.hid (show R = ⟨#[40]⟩ ++ s ++ ⟨#[41]⟩ by
      rw [hR, Lex.srcT, if_pos rfl]
      have := Lex.ba_three 40 41 s.data.toList
      rw [Lex.ba_list] at this
      exact this.symm)
    clear hR
    go_enter Tryz.func9, Tryz.ntmps9
    go_wp2
    go_ret
    exact ⟨congrArg (fun x => Ending.returned (.string x)) E.out.symm, (Below.refl _ _).alloc (Nat.le_refl _) _⟩
  by_cases h5 : k = 5
  · subst h5
    have E := Lib.hid (show R = ⟨#[91]⟩ ++ s ++ ⟨#[93]⟩ by
      rw [hR, Lex.srcT, if_neg (by decide), if_pos rfl]
      have := Lex.ba_three 91 93 s.data.toList
      rw [Lex.ba_list] at this
      exact this.symm)
    clear hR
    go_enter Tryz.func9, Tryz.ntmps9
    go_wp2
    go_ret
    exact ⟨congrArg (fun x => Ending.returned (.string x)) E.out.symm, (Below.refl _ _).alloc (Nat.le_refl _) _⟩
  by_cases h1 : k = 1
  · subst h1
    have E := Lib.hid (show R = ⟨#[34]⟩ ++ ⟨(Lex.esc s.data.toList).toArray⟩ ++ ⟨#[34]⟩ by
      rw [hR, Lex.srcT, if_neg (by decide), if_neg (by decide), if_pos rfl]
      exact (Lex.ba_three 34 34 _).symm)
    have hXs : (⟨(Lex.esc s.data.toList).toArray⟩ : ByteArray).size ≤ 200000 := by
      have h1 := Lex.esc_ext s.data.toList
      have h2 := Lex.ext_le s.data.toList
      have h4 : s.data.toList.length = s.size := by simp
      show (Lex.esc s.data.toList).toArray.size ≤ _
      rw [List.size_toArray]
      omega
    have KX := Lib.hid (fun g h c r W H M => replace_any g h c r s W hs H M)
    generalize (⟨(Lex.esc s.data.toList).toArray⟩ : ByteArray) = X at E hXs KX
    have a1 : ∀ W, (Op.stringOp .add ⟨#[34]⟩ X).run Tryz.prog W = .ok (.string (⟨#[34]⟩ ++ X)) W := fun W => run_string_add_sum W _ _ (by show 1 + X.size ≤ _; omega)
    have a2 : ∀ W, (Op.stringOp .add (⟨#[34]⟩ ++ X) ⟨#[34]⟩).run Tryz.prog W = .ok (.string (⟨#[34]⟩ ++ X ++ ⟨#[34]⟩)) W := fun W => run_string_add_sum W _ _ (by rw [ByteArray.size_append]; show 1 + X.size + 1 ≤ _; omega)
    clear hR h3 h5
    have c1 : (w.alloc (.cells #[.int .i64 1, .string s, .int .i64 p] 23)).cell? ⟨w.heap.size, 1, none⟩ = some (.string s) := by go_simp
    go_enter Tryz.func9, Tryz.ntmps9
    go_wp2
    go_region_held3 (fun w' => w'.cell? ⟨w.heap.size, 1, none⟩ = some (.string s)) (go_keep) (first
      | (go_at_call 14; (with_reducible refine (newRep_at _ _ (by simp)).mono ?_); rintro e w2 ⟨g, h, c, r, rfl, hG, hM, hg, hb⟩; have B2 := Lib.hid hb; have KR := Lib.hid (KX.out g h c r w2 hG hM); have HG := Lib.hid hg; have d1 : w2.cell? ⟨w.heap.size, 1, none⟩ = some (.string s) := (hb.cell (p := ⟨w.heap.size, 1, none⟩) (by simp; omega)).trans (by go_simp); clear hb hG hM hg)
      | (go_at_call 15; (with_reducible refine KR.out.mono ?_); rintro e w3 ⟨rfl, hb3⟩; have B3 := Lib.hid hb3; have e1 : w3.cell? ⟨w.heap.size, 1, none⟩ = some (.string s) := (hb3.cell (p := ⟨w.heap.size, 1, none⟩) (show w.heap.size < g by have := HG.out; simp at this; omega)).trans d1; clear hb3))
    all_goals
      go_wp2
      go_ret
      refine ⟨congrArg (fun x => Ending.returned (.string x)) E.out.symm, ?_⟩
      have hg := HG.out
      simp at hg
      exact ((((((Below.refl _ w).alloc (Nat.le_refl _) _).drew).alloc (by simp) _)).trans (B2.out.mono (by simp; omega))).trans (B3.out.mono (by omega))
  · have E := Lib.hid (show R = s by
      rw [hR, Lex.srcT, if_neg h3, if_neg h5, if_neg h1, Lex.ba_list])
    have n1 : (k == 1) = false := by simpa using h1
    have n3 : (k == 3) = false := by simpa using h3
    have n5 : (k == 5) = false := by simpa using h5
    have KC := Lib.hid (strClone_any s (w.alloc (.cells #[.int .i64 k, .string s, .int .i64 p] 23)) hs)
    clear hR h1 h3 h5
    go_enter Tryz.func9, Tryz.ntmps9
    go_wp2_with fail
    with_reducible refine KC.out.mono ?_
    rintro e w1 ⟨rfl, hb1⟩
    have B1 := Lib.hid hb1
    clear hb1
    go_wp2
    go_ret
    exact ⟨congrArg (fun x => Ending.returned (.string x)) E.out.symm, ((Below.refl _ w).alloc (Nat.le_refl _) _).trans (B1.out.mono (by simp))⟩
end Go.Proofs.YtmcjgdajnppbhaaGreatDoor
