/-
  Proved here: the document's own framer. Conditions: what is left, and what comes, has 100,000 bytes at most.
-/
import Derived.Test.YtkcabnodhdhaaaaDoorLinRef
import Derived.Test.YtkcabnodhdhaaaaDoorLinFeed
namespace Go.Proofs.YtkcabnodhdhaaaaDoor
open Go.RowKit
/-- The document's framer in block Y. -/
def YAt (Y : Nat) (inn : List UInt8) (m : Int) (w : World) : Prop := w.heap[Y]? = some (.cells #[.string ⟨inn.toArray⟩, .int .i64 m] 32 (0, 0))
theorem YAt.lt {Y : Nat} {inn : List UInt8} {m : Int} {w : World} (h : YAt Y inn m w) : Y < w.heap.size := (Array.getElem?_eq_some_iff.1 h).1
theorem YAt.c0 {Y : Nat} {inn : List UInt8} {m : Int} {w : World} (h : YAt Y inn m w) : w.cell? ⟨Y, 0, none⟩ = some (.string ⟨inn.toArray⟩) := by unfold YAt at h; simp [World.cell?, h]
theorem YAt.c1 {Y : Nat} {inn : List UInt8} {m : Int} {w : World} (h : YAt Y inn m w) : w.cell? ⟨Y, 1, none⟩ = some (.int .i64 m) := by unfold YAt at h; simp [World.cell?, h]
theorem YAt.free {Y : Nat} {inn : List UInt8} {m : Int} {w : World} (h : YAt Y inn m w) (j : Nat) : w.frozen? ⟨Y, j, none⟩ = false := by unfold YAt at h; simp [World.frozen?, h]
theorem YAt.keep {Y : Nat} {inn : List UInt8} {m : Int} {w w' : World} (h : YAt Y inn m w) (hb : Below w.heap.size w w') : YAt Y inn m w' := (hb.block Y h.lt).trans h
theorem YAt.set0 {Y : Nat} {inn : List UInt8} {m : Int} {w : World} (h : YAt Y inn m w) (x : List UInt8) : YAt Y x m (w.setCell ⟨Y, 0, none⟩ (.string ⟨x.toArray⟩)) := by
  unfold YAt at h ⊢
  simp [World.setCell, Array.getElem?_modify, h]
theorem YAt.set1 {Y : Nat} {inn : List UInt8} {m : Int} {w : World} (h : YAt Y inn m w) (x : Int) : YAt Y inn x (w.setCell ⟨Y, 1, none⟩ (.int .i64 x)) := by
  unfold YAt at h ⊢
  simp [World.setCell, Array.getElem?_modify, h]
/-- 'append(v, k)' in a region that draws its order. -/
theorem step_fr (W : World) (base : Nat) (v : Value) (ts : List Lin.Fr) (hown : OwnF base v ts W) (hbase : base ≤ W.heap.size) (hlen : ts.length ≤ 1000000) (k : Lin.Fr)
    (N : Nat) (hN : N = W.heap.size)
    {ops : Array Oper} {o : Oper} {a : Act} {K : Act → World → Prop} {Q : Exit → Act → World → Prop} {F : Prop} (hgd : o.guard = none) (s y : Operand)
    (ho : o.op = .call { callee := .builtin .append, args := #[s, y], argTypes := #[34, 34] })
    (hs : a.eval s = v) (hx : a.eval y = .slice (some ⟨N, 0, none⟩) 1 1)
    (h : ∀ v' w', OwnF base v' (ts ++ [k]) w' → Below base W w' → K (a.put o.dst v') w') : if Region.wanted o (yielded ops a.tmps) = true then Oper.wp Tryd.prog o a (W.alloc (.cells #[.string ⟨k.text.toArray⟩, .bool k.long, .bool k.bare] 42)) K Q else F := by
  subst hN
  rw [if_pos (by simp [Region.wanted, hgd])]
  obtain ⟨i0, hi0, hz0, hs0, hb0⟩ := info_parts info_fr
  have hown' := World.ownsRow.alloc hown (.cells #[.string ⟨k.text.toArray⟩, .bool k.long, .bool k.bare] 42)
  refine wp_append_own _ s y 34 ho base 42 i0 (.agg #[.string ⟨#[]⟩, .bool false, .bool false]) 3 24 Tryd.underlying34 hi0 hz0 hs0 hb0 rfl (by decide) v ts.length (Lin.fcells ts) hs hown' ⟨W.heap.size, 0, none⟩ 1 1 (Lin.Fr.cs k) hx rfl ?_ (fun u hu => ?_) (by simp only [maxLen]; omega) (by omega) (by simp; omega) ?_
  · intro j u hj
    have e : (⟨W.heap.size, 0, none⟩ : Addr).add j = ⟨W.heap.size, j, none⟩ := by unfold Addr.add; split <;> simp_all
    have hj' : j < 3 := (List.getElem?_eq_some_iff.1 hj).1
    rw [e, World.cell?_alloc_at _ _ _ _ (by simp)]
    rw [← hj]
    rcases j with _ | _ | _ | j
    · rfl
    · rfl
    · rfl
    · omega
  · unfold Lin.Fr.cs at hu
    simp only [List.mem_cons, List.not_mem_nil, or_false] at hu
    rcases hu with rfl | rfl | rfl <;> rfl
  · intro v' w' ho' hg _
    refine h v' w' ?_ (((Below.refl _ W).alloc hbase _).grown hg (by simp; omega) fun k hk => (World.ownsRow.lt hown' k hk).1)
    unfold OwnF
    rw [List.length_append, Lin.fcells_app, show Lin.fcells [k] = Lin.Fr.cs k by unfold Lin.fcells; simp]
    exact ho'
namespace Lin
theorem told_here {most : Int} {c d : UInt8} (hc : c.toNat = 13) (hd : d.toNat = 10) (t u : List UInt8) (h : wholes (t ++ [c]) = []) : told most [] (t ++ c :: d :: u) = frame most t :: told most [] u := by
  unfold told wholes
  rw [List.nil_append, cut_here hc hd u t h]
  rfl
theorem rest_here {c d : UInt8} (hc : c.toNat = 13) (hd : d.toNat = 10) (t u : List UInt8) (h : wholes (t ++ [c]) = []) : rest (t ++ c :: d :: u) = rest u := by
  unfold rest
  rw [cut_here hc hd u t h]
theorem sub_of (s : ByteArray) (i j : Nat) : (s.extract i j).data.toList = (s.data.toList.drop i).take (j - i) := by
  rw [ByteArray.data_extract, Array.toList_extract, List.extract_eq_take_drop]
theorem drop_at {l : List UInt8} {f k : Nat} (hf : f ≤ k) : (l.drop f)[k - f]! = l[k]! := by
  rw [getElem!_def, getElem!_def, List.getElem?_drop, show f + (k - f) = k by omega]
theorem line_snoc {l : List UInt8} {f k : Nat} (hf : f ≤ k) (hk : k < l.length) : (l.drop f).take (k + 1 - f) = (l.drop f).take (k - f) ++ [l[k]!] := by
  rw [show k + 1 - f = (k - f) + 1 by omega, take_snoc _ _ (by rw [List.length_drop]; omega), drop_at hf]
theorem line_parts {l : List UInt8} {f k : Nat} (hf : f ≤ k) (hk : k + 1 < l.length) : l.drop f = (l.drop f).take (k - f) ++ l[k]! :: l[k + 1]! :: l.drop (k + 2) := by
  have h1 := line_snoc (l := l) hf (show k < l.length by omega)
  have h2 := line_snoc (l := l) (show f ≤ k + 1 by omega) hk
  rw [h1] at h2
  conv => lhs; rw [← List.take_append_drop (k + 1 + 1 - f) (l.drop f), h2, List.drop_drop, show f + (k + 1 + 1 - f) = k + 2 by omega]
  simp
/-- No line's end at k. -/
theorem line_on {l : List UInt8} {f k : Nat} (hf : f ≤ k) (hk : k + 1 < l.length) (h : wholes ((l.drop f).take (k + 1 - f)) = []) (hn : ¬ (l[k]!.toNat = 13 ∧ l[k + 1]!.toNat = 10)) : wholes ((l.drop f).take (k + 1 + 1 - f)) = [] := by
  rw [line_snoc (show f ≤ k + 1 by omega) hk]
  refine whole_snoc _ _ h fun x => hn ⟨?_, x.2⟩
  have := x.1
  rw [line_snoc hf (by omega), last13_snoc, beq_iff_eq] at this
  exact this
theorem one_whole (l : List UInt8) : wholes (l.take 1) = [] := by
  cases l <;> rfl
end Lin
set_option maxHeartbeats 1000000 in
set_option maxRecDepth 100000 in
theorem refNew_any (n : Int) (w : World) : Calls Tryd.prog 11 #[.int .i64 n] w fun e w' => e = .returned (.pointer (some ⟨w.heap.size, 0, none⟩)) ∧ YAt w.heap.size [] (max n 0) w' ∧ Below w.heap.size w w' := by
  go_enter Tryd.func11, Tryd.ntmps11
  go_wp2
  go_ret
  exact ⟨rfl, heap_alloc_new w _, below_one w _⟩
set_option maxHeartbeats 4000000 in
set_option maxRecDepth 100000 in
theorem refFeed_any (Y : Nat) (inn : List UInt8) (m : Int) (s : ByteArray) (w : World) (hY : YAt Y inn m w) (hs : inn.length + s.size ≤ 100000) : Calls Tryd.prog 15 #[.pointer (some ⟨Y, 0, none⟩), .string s] w fun e w' => ∃ L, e = .returned L ∧ OwnF w.heap.size L (Lin.told m inn s.data.toList) w' ∧ YAt Y (Lin.rest (inn ++ s.data.toList)) m w' ∧ Fed Y (.slice none 0 0) (.slice none 0 0) w w' := by
  have y0 := hY.c0
  have hYl := hY.lt
  have y1w := hY.c1
  have HY := Lib.hid hY
  obtain ⟨S, hS⟩ : ∃ S, (⟨inn.toArray⟩ : ByteArray) ++ s = S := ⟨_, rfl⟩
  have hSl : S.data.toList = inn ++ s.data.toList := by rw [← hS, ByteArray.data_append, Array.toList_append]
  have hSz : S.size = inn.length + s.size := by rw [← Lin.len_of, hSl, List.length_append, Lin.len_of]
  have e1 : Lin.told m inn s.data.toList = Lin.told m [] S.data.toList := by rw [hSl]; rfl
  rw [e1, ← hSl]
  have hs0 := hs
  rw [← hSz] at hs
  have HS := Lib.hid hSl
  clear e1 hSl hSz hY
  go_enter Tryd.func15, Tryd.ntmps15
  go_wp2
  go_loopg [6, 7, 8] (S.size + 1) (fun gk s6 s7 s8 wr => ∃ (k f : Nat) (ts : List Lin.Fr), k ≤ S.size ∧ f ≤ S.size ∧ s7 = .int .i64 f ∧ s8 = .int .i64 k ∧ S.size - k < gk ∧ ts.length ≤ f ∧ Hid (OwnF w.heap.size s6 ts wr ∧ Below w.heap.size w wr ∧ Lin.told m [] S.data.toList = ts ++ Lin.told m [] (S.data.toList.drop f) ∧ Lin.rest S.data.toList = Lin.rest (S.data.toList.drop f) ∧ (f ≤ k ∧ Lin.wholes ((S.data.toList.drop f).take (k + 1 - f)) = [] ∨ k + 1 = f)))
  case atStart => exact ⟨0, 0, [], Nat.zero_le _, Nat.zero_le _, rfl, rfl, by omega, Nat.le_refl _, Lib.hid ⟨OwnF.nil _ _, Below.refl _ _, rfl, rfl, .inl ⟨Nat.le_refl _, by cases S.data.toList <;> rfl⟩⟩⟩
  case round =>
    obtain ⟨k, f, ts, hk, hf, rfl, rfl, hg, htl, I⟩ := hrel
    have y1 := (I.out.2.1.cell (p := ⟨Y, 1, none⟩) hYl).trans y1w
    by_cases hlt : k + 1 < S.size
    · have hltz : (k : Int) + 1 < (S.size : Int) := by omega
      by_cases hfk : f ≤ k
      · have hfkz : (f : Int) ≤ (k : Int) := by omega
        have hw : Lin.wholes ((S.data.toList.drop f).take (k + 1 - f)) = [] := by
          rcases I.out.2.2.2.2 with h | h
          · exact h.2
          · omega
        obtain ⟨x, hx⟩ : ∃ x, S[k]'(by omega) = x := ⟨_, rfl⟩
        obtain ⟨y, hy⟩ : ∃ y, S[k + 1]'hlt = y := ⟨_, rfl⟩
        have hlx : S.data.toList[k]! = x := by rw [Lin.byte_of S k (by omega), hx]
        have hly : S.data.toList[k + 1]! = y := by rw [Lin.byte_of S (k + 1) hlt, hy]
        have hk1 : k + 1 < S.data.toList.length := by rw [Lin.len_of]; exact hlt
        have HW := Lib.hid hw
        have HLX := Lib.hid hlx
        have HLY := Lib.hid hly
        have HK1 := Lib.hid hk1
        clear hw hlx hly hk1
        by_cases hm : x.toNat = 13 ∧ y.toNat = 10
        · have e13 : ((x.toNat : Int) == 13) = true := beq_iff_eq.2 (by omega)
          have e10 : ((y.toNat : Int) == 10) = true := beq_iff_eq.2 (by omega)
          have h2 := Lin.line_parts hfk HK1.out
          rw [HLX.out, HLY.out] at h2
          have hw1 := HW.out
          rw [Lin.line_snoc hfk (by have := HK1.out; omega), HLX.out] at hw1
          have T1 := Lib.hid (Lin.told_here (most := m) hm.1 hm.2 ((S.data.toList.drop f).take (k - f)) (S.data.toList.drop (k + 2)) hw1)
          have R1 := Lib.hid (Lin.rest_here hm.1 hm.2 ((S.data.toList.drop f).take (k - f)) (S.data.toList.drop (k + 2)) hw1)
          have H2 := Lib.hid h2
          have HM := Lib.hid hm
          have hkS : k ≤ S.size := hk
          have ONE : Hid (∀ W, Calls Tryd.prog 22 #[.string (S.extract f k), .int .i64 m] W fun e w' => e = .returned (Lin.frame m ((S.data.toList.drop f).take (k - f))).v ∧ Below W.heap.size W w') := Lib.hid fun W => by
            have := one16_any (S.extract f k) m W (by rw [← Lin.len_of, Lin.sub_of, List.length_take, List.length_drop, Lin.len_of]; omega)
            rw [Lin.sub_of] at this
            exact this
          obtain ⟨fr, hfr⟩ : ∃ fr, Lin.frame m ((S.data.toList.drop f).take (k - f)) = fr := ⟨_, rfl⟩
          rw [hfr] at ONE T1
          have ONE : Hid (∀ W, Calls Tryd.prog 22 #[.string (S.extract f k), .int .i64 m] W fun e w' => e = .returned (.agg #[.string ⟨fr.text.toArray⟩, .bool fr.long, .bool fr.bare]) ∧ Below W.heap.size W w') := ONE
          clear h2 hw1 hm hfr
          go_upto_region 8 with (fail)
          refine wp_region_held_drew (S := (fun w' : World => w'.cell? ⟨Y, 1, none⟩ = some (.int .i64 m))) (by kernel_rfl) ?_ (fun hHeld => ?_)
          · exact y1
          have B2 : Hid (Below w.heap.size w wr.drew) := Lib.hid I.out.2.1.drew
          have O2 : Hid (OwnF w.heap.size u6 ts wr.drew) := Lib.hid (World.ownsRow.drew I.out.1)
          generalize wr.drew = d1 at B2 O2 hHeld ⊢
          refine takeL 0 38 (v := ?_) rfl rfl (by kernel_rfl) (by kernel_rfl) (by kernel_rfl) (fun _ _ _ h => h) (Or.inl ⟨by rfl, ?_⟩) (by assumption) ?_
          rotate_left
          · intro w hSw
            (try dsimp only at hSw)
            go_simp
            first | done | with_reducible rfl
          simp only [Act.put, List.setIfInBounds_toArray, List.set_cons_zero, List.set_cons_succ]
          refine takeL 1 39 (v := ?_) rfl rfl (by kernel_rfl) (by kernel_rfl) (by kernel_rfl) (fun _ _ _ h => h) (Or.inl ⟨by rfl, ?_⟩) (by assumption) ?_
          rotate_left
          · intro w hSw
            (try dsimp only at hSw)
            go_simp
            first | done | with_reducible rfl
          simp only [Act.put, List.setIfInBounds_toArray, List.set_cons_zero, List.set_cons_succ]
          refine takeL 2 40 (v := ?_) rfl rfl (by kernel_rfl) (by kernel_rfl) (by kernel_rfl) (fun _ _ _ h => h) (Or.inl ⟨by rfl, ?_⟩) (by assumption) ?_
          rotate_left
          · intro w hSw
            (try dsimp only at hSw)
            go_simp
            first | done | with_reducible rfl
          simp only [Act.put, List.setIfInBounds_toArray, List.set_cons_zero, List.set_cons_succ]
          refine takeL 3 41 (v := ?_) rfl rfl (by kernel_rfl) (by kernel_rfl) (by kernel_rfl) (fun _ _ _ h => h) (Or.inl ⟨by rfl, ?_⟩) (by assumption) ?_
          rotate_left
          · intro w hSw
            (try dsimp only at hSw)
            go_simp
            first | done | with_reducible rfl
          simp only [Act.put, List.setIfInBounds_toArray, List.set_cons_zero, List.set_cons_succ]
          refine takeL 4 42 (v := ?_) rfl rfl (by kernel_rfl) (by kernel_rfl) (by kernel_rfl) (fun _ _ _ h => h) (Or.inl ⟨by rfl, ?_⟩) (by assumption) ?_
          rotate_left
          · intro w hSw
            (try dsimp only at hSw)
            go_simp
            first | done | with_reducible rfl
          simp only [Act.put, List.setIfInBounds_toArray, List.set_cons_zero, List.set_cons_succ]
          refine takeL 5 43 (v := ?_) rfl rfl (by kernel_rfl) (by kernel_rfl) (by kernel_rfl) (fun _ _ _ h => h) (Or.inl ⟨by rfl, ?_⟩) (by assumption) ?_
          rotate_left
          · intro w hSw
            (try dsimp only at hSw)
            go_simp
            first | done | with_reducible rfl
          simp only [Act.put, List.setIfInBounds_toArray, List.set_cons_zero, List.set_cons_succ]
          refine takeL 6 44 (v := ?_) rfl rfl (by kernel_rfl) (by kernel_rfl) (by kernel_rfl) (fun _ _ _ h => h) (Or.inl ⟨by rfl, ?_⟩) (by assumption) ?_
          rotate_left
          · intro w hSw
            (try dsimp only at hSw)
            go_simp
            first | done | with_reducible rfl
          simp only [Act.put, List.setIfInBounds_toArray, List.set_cons_zero, List.set_cons_succ]
          refine takeL 7 45 (v := ?_) rfl rfl (by kernel_rfl) (by kernel_rfl) (by kernel_rfl) (fun _ _ _ h => h) (Or.inl ⟨by rfl, ?_⟩) (by assumption) ?_
          rotate_left
          · intro w hSw
            (try dsimp only at hSw)
            go_simp
            first | done | with_reducible rfl
          simp only [Act.put, List.setIfInBounds_toArray, List.set_cons_zero, List.set_cons_succ]
          refine takeL 8 46 (v := ?_) rfl rfl (by kernel_rfl) (by kernel_rfl) (by kernel_rfl) (fun _ _ _ h => h) (Or.inl ⟨by rfl, ?_⟩) (by assumption) ?_
          rotate_left
          · intro w hSw
            (try dsimp only at hSw)
            go_simp
            first | done | with_reducible rfl
          simp only [Act.put, List.setIfInBounds_toArray, List.set_cons_zero, List.set_cons_succ]
          refine wpAnyH_ready (rs := [9]) (by kernel_rfl) (by simp) ?_
          refine AllReadyH.cons (o := { dst := some 47, op := .call { callee := .value (.func 22), args := #[.tmp 42, .tmp 46], argTypes := #[9, 3] }, type := _, pos := "ref.go:37", after := _, guard := none }) rfl (fun K_ hK => ?_) AllReadyH.nil
          (try go_simp)
          go_at_call 22
          refine (ONE.out d1).mono ?_
          rintro e w2 ⟨rfl, hb⟩
          replace O2 := Lib.hid (O2.out.keep hb)
          replace B2 := Lib.hid (B2.out.trans (hb.mono B2.out.size))
          clear hb
          go_wp2_with fail
          clear hHeld
          refine hK.out _ _ ?_ (fun hHeld => ?_)
          · exact (B2.out.cell (p := ⟨Y, 1, none⟩) hYl).trans y1w
          clear hK K_
          refine wpAnyH_ready (rs := [10]) (by kernel_rfl) (by simp) ?_
          refine AllReadyH.cons (o := { dst := some 48, op := .buildSlice 34 1 #[(0, .tmp 47)], type := _, pos := "ref.go:37", after := _, guard := none }) rfl (fun K_ hK => ?_) AllReadyH.nil
          (try go_simp)
          go_wp2_with fail
          clear hHeld
          refine hK.out _ _ ?_ (fun hHeld => ?_)
          · exact ((below_new B2.out (Nat.le_refl _) _).cell (p := ⟨Y, 1, none⟩) hYl).trans y1w
          clear hK K_
          refine wpAnyH_ready (rs := [11]) (by kernel_rfl) (by simp) ?_
          refine AllReadyH.cons (o := { dst := some 49, op := .call { callee := .builtin .append, args := #[.tmp 38, .tmp 48], argTypes := #[34, 34] }, type := _, pos := "ref.go:37", after := _, guard := none }) rfl (fun K_ hK => ?_) AllReadyH.nil
          refine step_fr w2 w.heap.size _ ts O2.out B2.out.size (by omega) fr w2.heap.size rfl rfl _ _ rfl rfl rfl ?_
          intro v4 w4 ho4 hb4
          have O4 := Lib.hid ho4
          have B4 := Lib.hid (B2.out.trans hb4)
          clear ho4 hb4
          clear hHeld
          refine hK.out _ _ ?_ (fun hHeld => ?_)
          · exact (B4.out.cell (p := ⟨Y, 1, none⟩) hYl).trans y1w
          clear hK K_
          refine takeL 12 6 (v := ?_) rfl rfl (by kernel_rfl) (by kernel_rfl) (by kernel_rfl) (fun _ _ _ h => h) (Or.inl ⟨by rfl, ?_⟩) (by assumption) ?_
          rotate_left
          · intro w hSw
            (try dsimp only at hSw)
            go_simp
            first | done | with_reducible rfl
          simp only [Act.put, List.setIfInBounds_toArray, List.set_cons_zero, List.set_cons_succ]
          refine wpAnyH_done (by kernel_rfl) ?_ _
          go_wp2_with fail
          go_roundg (S.size - k)
          case measure => omega
          case rel =>
            refine ⟨k + 1, k + 2, ts ++ [fr], by omega, by omega, by simp, by simp, by omega, by rw [List.length_append, List.length_singleton]; omega, Lib.hid ⟨O4.out, B4.out, ?_, ?_, .inr rfl⟩⟩
            · rw [I.out.2.2.1, H2.out, T1.out, List.append_assoc]
              rfl
            · rw [I.out.2.2.2.1, H2.out, R1.out]
        · have J2 : Hid (Lin.wholes ((S.data.toList.drop f).take (k + 1 + 1 - f)) = []) := Lib.hid (Lin.line_on hfk HK1.out HW.out (by rw [HLX.out, HLY.out]; exact hm))
          by_cases h13 : x.toNat = 13
          · have e13 : ((x.toNat : Int) == 13) = true := beq_iff_eq.2 (by omega)
            have e10 : ((y.toNat : Int) == 10) = false := beq_eq_false_iff_ne.2 (by omega)
            clear hm
            go_wp2_with fail
            go_roundg (S.size - k)
            case measure => omega
            case rel => exact ⟨k + 1, f, ts, by omega, by omega, by simp, by simp, by omega, by omega, Lib.hid ⟨I.out.1, I.out.2.1, I.out.2.2.1, I.out.2.2.2.1, .inl ⟨by omega, J2.out⟩⟩⟩
          · have e13 : ((x.toNat : Int) == 13) = false := beq_eq_false_iff_ne.2 (by omega)
            clear hm
            go_wp2_with fail
            go_roundg (S.size - k)
            case measure => omega
            case rel => exact ⟨k + 1, f, ts, by omega, by omega, by simp, by simp, by omega, by omega, Lib.hid ⟨I.out.1, I.out.2.1, I.out.2.2.1, I.out.2.2.2.1, .inl ⟨by omega, J2.out⟩⟩⟩
      · have hkf : k + 1 = f := by
          rcases I.out.2.2.2.2 with h | h
          · omega
          · exact h
        have hfkz : ¬ (f : Int) ≤ (k : Int) := by omega
        have HKF := Lib.hid hkf
        clear hkf
        go_wp2_with fail
        go_roundg (S.size - k)
        case measure => omega
        case rel => exact ⟨k + 1, f, ts, by omega, by omega, by simp, by simp, by omega, by omega, Lib.hid ⟨I.out.1, I.out.2.1, I.out.2.2.1, I.out.2.2.2.1, .inl ⟨by have := HKF.out; omega, by rw [show k + 1 + 1 - f = 1 by have := HKF.out; omega]; exact Lin.one_whole _⟩⟩⟩
    · have hltz : ¬ (k : Int) + 1 < (S.size : Int) := by omega
      have hw : Lin.wholes (S.data.toList.drop f) = [] := by
        rcases I.out.2.2.2.2 with h | h
        · have := h.2
          rw [List.take_of_length_le (by rw [List.length_drop, Lin.len_of]; omega)] at this
          exact this
        · rw [List.drop_eq_nil_of_le (by rw [Lin.len_of]; omega)]
          rfl
      have E : S.extract f S.size = ⟨(S.data.toList.drop f).toArray⟩ := by rw [← Lin.drop_of, Lin.ba_list]
      have HE := Lib.hid E
      have HW := Lib.hid hw
      have Y0 : YAt Y inn m wr := (I.out.2.1.block Y hYl).trans HY.out
      have f0 := Y0.free 0
      have y0' := Y0.c0
      have hfz : (f : Int) ≤ (S.size : Int) := by omega
      have YN := Lib.hid (Y0.set0 (S.data.toList.drop f))
      clear E hw Y0
      go_wp2_with fail
      go_ret
      rw [HE.out]
      refine ⟨u6, rfl, ?_, ?_, ?_⟩
      · rw [I.out.2.2.1, Lin.told_none (r := []) (by rw [List.nil_append]; exact HW.out), List.append_nil]
        exact I.out.1.same fun g cur hL hg => Below.heap_setCell _ _ _ _ (fun e => by
          have h1 := (I.out.2.1.block Y hYl).trans HY.out
          rw [e] at hg
          rw [show (⟨Y, 0, none⟩ : Addr).block = Y from rfl, h1] at hg
          injection hg with hg
          injection hg with h1 h2 h3
          cases h2)
      · rw [I.out.2.2.2.1, Lin.rest_none HW.out]
        exact YN.out
      · exact (Fed.of_below I.out.2.1 Y _).trans (Fed.put Y 0 _ _ wr)
end Go.Proofs.YtkcabnodhdhaaaaDoor
