/-
  Proved here: Feed of package line tells the lines that end by a piece, and keeps the rest. Conditions: the rest and the piece have 100,000 bytes at most; the library's tables are laid.
-/
import Derived.Test.YtkcabnodhdhaaaaDoorLinTake
namespace Go.Proofs.YtkcabnodhdhaaaaDoor
open Go.RowKit
namespace Lin
theorem told_none {most : Int} {r b : List UInt8} (h : wholes (r ++ b) = []) : told most r b = [] := by unfold told; rw [h]; rfl
theorem rest_none {l : List UInt8} (h : wholes l = []) : rest l = l := cut_none _ l (Nat.le_refl _) h
/-- A line's end at k: what is told, and what is left. -/
theorem told_end {most : Int} {r b : List UInt8} {k : Nat} (hk : k < b.length) (h : wholes (r ++ b.take k) = []) (he : endsAt r b k = true) :
    ∃ t c d, r ++ b.take (k + 1) = t ++ [c, d] ∧ told most r b = frame most t :: told most [] (b.drop (k + 1)) ∧ rest (r ++ b) = rest (b.drop (k + 1)) := by
  obtain ⟨t, c, d, h1, h2⟩ := end_at hk h he
  refine ⟨t, c, d, h1, ?_, ?_⟩
  · unfold told wholes
    rw [h2]
    rfl
  · unfold rest
    rw [h2]
theorem fcell_len (k : Fr) : k.cs.length = 3 := rfl
end Lin
/-- A row of lines that a call makes is none of what there was. -/
theorem Fed.more {B : Nat} {v v1 L L' : Value} {w w5 w6 : World} (h : Fed B v v1 w w5) (g : Grew L L' w5 w6) (hL : ∀ k, L.ownBlock = some k → w.heap.size ≤ k) : Fed B v v1 w w6 :=
  ⟨g.os.trans h.os, g.tape.trans h.tape, g.output.trans h.output, Nat.le_trans h.size g.size, fun k hk h1 h2 => (g.block k (Nat.lt_of_lt_of_le hk h.size) fun e => by have := hL k e.symm; omega).trans (h.block k hk h1 h2), h.place⟩
theorem OwnF.off {base : Nat} {v : Value} {l : List Lin.Fr} {w : World} (h : OwnF base v l w) : ∀ k, v.ownBlock = some k → base ≤ k := fun k hk => (World.ownsRow.lt h k hk).1
theorem grew_drew {v v' : Value} {w w' : World} (h : Grew v v' w.drew w') : Grew v v' w w' := ⟨h.os, h.tape, h.output, h.size, h.block, h.place⟩
/-- What Feed tells, and leaves. -/
def FeedPost (base B : Nat) (m0 : Int) (v : Value) (r l : List UInt8) (w : World) (e : Ending) (w' : World) : Prop :=
  ∃ L v', e = .returned L ∧ OwnF w.heap.size L (Lin.told m0 r l) w' ∧ FAt base B m0 v' (Lin.rest (r ++ l)) w' ∧ Fed B v v' w w'
set_option maxHeartbeats 2000000 in
set_option maxRecDepth 100000 in
theorem feed_any (base B : Nat) (m0 : Int) (v : Value) (r : List UInt8) (s : ByteArray) (w : World) (hF : FAt base B m0 v r w) (hB : base ≤ B) (hbase : base ≤ w.heap.size) (hL : LT base w) (hw : Lin.wholes r = []) (hs : r.length + s.size ≤ 100000) :
    Calls Tryd.prog 14 #[.pointer (some ⟨B, 0, none⟩), .string s] w (FeedPost base B m0 v r s.data.toList w) := by
  have HF := Lib.hid hF
  have HL := Lib.hid hL
  have HW := Lib.hid hw
  clear hF hL hw
  obtain ⟨Q, hQ⟩ : ∃ Q, FeedPost base B m0 v r s.data.toList w = Q := ⟨_, rfl⟩
  rw [hQ]
  have HQ := Lib.hid hQ
  clear hQ
  go_enter Tryd.func14, Tryd.ntmps14
  go_wp2
  go_step3
  go_wp2
  go_step3
  go_wp2
  go_loopg [1, 5] (s.size + 1) (fun gk s1 s5 wr => ∃ (b : ByteArray) (r1 : List UInt8) (L v1 : Value) (ts : List Lin.Fr), s1 = .string b ∧ s5 = L ∧ b.size < gk ∧ b.size ≤ s.size ∧ r1.length + b.size ≤ 100000 ∧ ts.length + b.size ≤ s.size ∧ Hid (OwnF w.heap.size L ts wr ∧ FAt base B m0 v1 r1 wr ∧ Fed B v v1 w wr ∧ Lin.wholes r1 = [] ∧ Lin.told m0 r s.data.toList = ts ++ Lin.told m0 r1 b.data.toList ∧ Lin.rest (r ++ s.data.toList) = Lin.rest (r1 ++ b.data.toList)))
  case atStart => exact ⟨s, r, _, v, [], rfl, rfl, by omega, Nat.le_refl _, hs, by simp, Lib.hid ⟨OwnF.nil _ _, HF.out, Fed.refl _ _ _, HW.out, rfl, rfl⟩⟩
  case round =>
    obtain ⟨b, r1, L, v1, ts, rfl, e5, hg, hbs, hr1, hts, I⟩ := hrel
    replace e5 := e5.symm
    subst e5
    rename World => wo
    have hzz := I.out.2.2.1.size
    go_wp2
    go_loopg [1, 5, 9] (b.size + 1) (fun gk2 s1 s5 s9 wx => ∃ k : Nat, k ≤ b.size ∧ s1 = .string b ∧ s5 = L ∧ s9 = .int .i64 k ∧ b.size - k < gk2 ∧ Hid (Below wo.heap.size wo wx ∧ Lin.wholes (r1 ++ b.data.toList.take k) = []))
    case atStart => exact ⟨0, Nat.zero_le _, rfl, rfl, rfl, by omega, Lib.hid ⟨Below.refl _ _, by rw [List.take_zero, List.append_nil]; exact I.out.2.2.2.1⟩⟩
    case round =>
      obtain ⟨k, hk, rfl, rfl, rfl, hg2, J⟩ := hrel
      have FJ := Lib.hid (I.out.2.1.keep J.out.1)
      by_cases hlt : k < b.size
      · have E := Lib.hid (ends_any base B m0 v1 r1 wr FJ.out b k hlt (by omega) (by omega))
        cases he : Lin.endsAt r1 b.data.toList k with
        | false =>
          rw [he] at E
          have J2 := Lib.hid (Lin.no_end (by rw [Lin.len_of]; exact hlt) J.out.2 he)
          clear he
          go_wp2_with fail
          refine E.out.mono ?_
          rintro e w2 ⟨rfl, hb⟩
          have B2 := Lib.hid (J.out.1.trans (hb.mono J.out.1.size))
          clear hb
          go_wp2
          go_roundg (b.size - k)
          case measure => omega
          case rel => exact ⟨k + 1, by omega, rfl, rfl, rfl, by omega, Lib.hid ⟨B2.out, J2.out⟩⟩
        | true =>
          rw [he] at E
          obtain ⟨t, c, d, h1, h2, h3⟩ := Lin.told_end (most := m0) (by rw [Lin.len_of]; exact hlt) J.out.2 he
          have H1 := Lib.hid h1
          have H2 := Lib.hid h2
          have H3 := Lib.hid h3
          have hlt2 : t.length + 2 ≤ r1.length + (k + 1) := by
            have := congrArg List.length h1
            rw [List.length_append, List.length_append, List.length_take] at this
            simp at this
            omega
          clear he h1 h2 h3
          go_wp2_with fail
          refine E.out.mono ?_
          rintro e w2 ⟨rfl, hb⟩
          have B2 := Lib.hid (J.out.1.trans (hb.mono J.out.1.size))
          have F2 := Lib.hid (FJ.out.keep hb)
          clear hb
          have c1 := F2.out.c1
          have f1 := F2.out.free 1
          have HX := Lib.hid (show b.extract 0 (k + 1) = ⟨(b.data.toList.take (k + 1)).toArray⟩ by rw [← Lin.take_of, Lin.ba_list])
          have hxl : (b.data.toList.take (k + 1)).length ≤ k + 1 := by rw [List.length_take]; omega
          have hbz : b.size ≤ 100000 := by omega
          have hkz : (k : Int) + 1 ≤ (b.size : Int) := by omega
          have hkz0 : (0 : Int) ≤ (k : Int) + 1 := by omega
          have hwr : IntKind.i64.wrap ((k : Int) + 1) = (k : Int) + 1 := wrap_small _ (by omega) (by omega)
          have htn : ((k : Int) + 1).toNat = k + 1 := by omega
          have hbase2 : base ≤ w2.heap.size := by have := B2.out.size; omega
          obtain ⟨n3, hn3⟩ : ∃ n3, (r1 ++ b.data.toList.take (k + 1)).length = n3 := ⟨_, rfl⟩
          go_upto_region 6 with (fail)
          go_region_law ((refine step_bytes w2.drew base v1 r1 (World.ownsRow.drew F2.out.own) hbase2 (b.data.toList.take (k + 1)) HX.out (by omega) rfl _ _ rfl rfl rfl ?_; intro v3 w3 ho3 hg3; have F3 := F2.out.set1 (w := w2) ho3 ⟨hg3.os, hg3.tape, hg3.output, hg3.size, hg3.block, hg3.place⟩; obtain ⟨A3, p3, e3, -⟩ := F3.shape; rw [hn3] at e3; subst e3; have f3 : w3.frozen? ⟨B, 1, none⟩ = false := ((World.frozen?_of_block (a := ⟨B, 1, none⟩) (hg3.block B F2.out.lt F2.out.ne)).trans f1); have c3 := ((World.cell?_of_block (a := ⟨B, 1, none⟩) (hg3.block B F2.out.lt F2.out.ne)).trans c1); have G3 := Lib.hid hg3; have FF3 := Lib.hid F3; clear ho3 hg3 F3))
          clear hn3 c3 f3 hwr htn hkz hkz0
          obtain ⟨W4, hW4⟩ : ∃ W4, w3.setCell ⟨B, 1, none⟩ (.slice A3 n3 p3) = W4 := ⟨_, rfl⟩
          have F4 : FAt base B m0 (.slice A3 n3 p3) (t ++ [c, d]) W4 := by rw [← hW4, ← H1.out]; exact FF3.out
          have D4 : Fed B v1 (.slice A3 n3 p3) w2 W4 := by rw [← hW4]; exact (Fed.of_grew (grew_drew G3.out) B).trans (Fed.put B 1 _ _ w3)
          rw [hW4]
          have D42 : Fed B v (.slice A3 n3 p3) w W4 := (I.out.2.2.1.trans (Fed.of_below B2.out B v1)).trans D4
          have O4 : OwnF w.heap.size u5 ts W4 := (I.out.1.keep B2.out).fed F2.out D4
          have L4 : LT base W4 := HL.out.keep (D42.below hbase hB HF.out.own.off)
          have K4 := Lib.hid (take16_any base B m0 _ t c d W4 F4 hB (Nat.le_trans hbase D42.size) L4 (by omega))
          obtain ⟨fr, hfr⟩ : ∃ fr, Lin.frame m0 t = fr := ⟨_, rfl⟩
          rw [hfr] at K4
          have HFR := Lib.hid hfr
          have HF4 := Lib.hid F4
          have HD42 := Lib.hid D42
          have HO4 := Lib.hid O4
          clear hW4 F4 D4 D42 O4 L4 hfr G3 FF3 c1 f1 E
          go_wp2_with fail
          refine K4.out.mono ?_
          rintro e w5 ⟨he5, hF5, hD5⟩
          replace he5 : e = .returned (.agg #[.string ⟨fr.text.toArray⟩, .bool fr.long, .bool fr.bare]) := he5
          subst he5
          have O5 := Lib.hid (HO4.out.fed HF4.out hD5)
          have D5 := Lib.hid (HD42.out.trans hD5)
          have F5 := Lib.hid hF5
          have hs5 := D5.out.size
          clear hF5 hD5 HO4 HF4 HD42 K4
          go_wp2_with (at_builtin; refine append_fr w5 w.heap.size _ ts O5.out hs5 (by omega) fr w5.heap.size rfl rfl _ _ rfl rfl rfl ?_; intro v6 w6 ho6 hg6; have O6 := Lib.hid ho6; have F6 := Lib.hid (F5.out.grew O5.out hg6); have D6 := Lib.hid (D5.out.more hg6 O5.out.off); clear ho6 hg6)
          go_roundg b.size
          case measure => omega
          case rel =>
            have hsz : (b.extract (k + 1) b.size).size = b.size - (k + 1) := by rw [← Lin.len_of, Lin.drop_of, List.length_drop, Lin.len_of]
            refine ⟨_, [], v6, .slice none 0 0, ts ++ [fr], rfl, rfl, by omega, by omega, by simp; omega, by rw [List.length_append, List.length_singleton]; omega, Lib.hid ⟨O6.out, F6.out, D6.out, rfl, ?_, ?_⟩⟩
            · rw [I.out.2.2.2.2.1, H2.out, Lin.drop_of, HFR.out, List.append_assoc]
              rfl
            · rw [I.out.2.2.2.2.2, H3.out, Lin.drop_of]
              rfl
      · obtain rfl : k = b.size := by omega
        have J3 : Lin.wholes (r1 ++ b.data.toList) = [] := by
          have := J.out.2
          rw [List.take_of_length_le (by rw [Lin.len_of]; exact Nat.le_refl _)] at this
          exact this
        have HJ3 := Lib.hid J3
        have c1 := FJ.out.c1
        have f1 := FJ.out.free 1
        have hbase2 : base ≤ wr.heap.size := by have := J.out.1.size; omega
        have hbl : b.data.toList.length = b.size := Lin.len_of b
        have HX := Lib.hid (Lin.ba_list b).symm
        obtain ⟨n3, hn3⟩ : ∃ n3, (r1 ++ b.data.toList).length = n3 := ⟨_, rfl⟩
        clear J3
        go_wp2_with (at_builtin; refine append_bytes wr base v1 r1 FJ.out.own hbase2 b.data.toList HX.out (by omega) rfl _ _ rfl rfl rfl ?_; intro v3 w3 ho3 hg3; have F3 := FJ.out.set1 ho3 hg3; obtain ⟨A3, p3, e3, -⟩ := F3.shape; rw [hn3] at e3; subst e3; have f3 : w3.frozen? ⟨B, 1, none⟩ = false := ((World.frozen?_of_block (a := ⟨B, 1, none⟩) (hg3.block B FJ.out.lt FJ.out.ne)).trans f1); have c3 := ((World.cell?_of_block (a := ⟨B, 1, none⟩) (hg3.block B FJ.out.lt FJ.out.ne)).trans c1); have G3 := Lib.hid hg3; have FF3 := Lib.hid F3; clear ho3 hg3 F3)
        have hq := HQ.out
        subst hq
        have D4 : Fed B v1 (.slice A3 n3 p3) wr (w3.setCell ⟨B, 1, none⟩ (.slice A3 n3 p3)) := (Fed.of_grew G3.out B).trans (Fed.put B 1 _ _ w3)
        refine ⟨u5, .slice A3 n3 p3, rfl, ?_, ?_, ?_⟩
        · rw [I.out.2.2.2.2.1, Lin.told_none HJ3.out, List.append_nil]
          exact (I.out.1.keep J.out.1).fed FJ.out D4
        · rw [I.out.2.2.2.2.2, Lin.rest_none HJ3.out]
          exact FF3.out
        · exact (I.out.2.2.1.trans (Fed.of_below J.out.1 B v1)).trans D4
end Go.Proofs.YtkcabnodhdhaaaaDoor
