/-
  Proved here: the head of the laws of layer 5 comes out true. Conditions: none.
-/
import Derived.Test.YtkgikkdgfhonlaaPunyOwnE
import Derived.Test.YtkgikkdgfhonlaaPunyOwnH
namespace Go.Proofs.Ytkgikkdgfhonlaa
open Go.RowKit Utf
theorem encP_at (v : Value) (l : List Int) (w : World) (hl : Runes v l w) (hn : l.length ≤ 300) (hr : rightsZ l = true) {bs : List UInt8} (hb : Puny.encB l = bs) :
    Calls Try.prog 16 #[v] w (Wrote bs true w) := by
  subst hb
  exact encodeP_yes v l w hl hn hr
/-- What was read, as a walk takes it. -/
def DecAt (l : List Int) (n : Nat) (ok : Bool) (w : World) (e : Ending) (w' : World) : Prop := ∃ A c, e = .returned (.tuple #[.slice A n c, .bool ok]) ∧ Runes (.slice A n c) l w' ∧ Below w.heap.size w w'
theorem decP_at (s : ByteArray) (w : World) (hs : s.size ≤ 10000) {l : List Int} {n : Nat} (h : Puny.decB s.data.toList = some l) (hn : l.length = n) : Calls Try.prog 18 #[.string s] w (DecAt l n true w) := by
  subst hn
  have K := decodeP_any s w hs
  rw [h] at K
  exact K
theorem decP_not (s : ByteArray) (w : World) (hs : s.size ≤ 10000) (h : Puny.decB s.data.toList = none) : Calls Try.prog 18 #[.string s] w (DecAt [] 0 false w) := by
  have K := decodeP_any s w hs
  rw [h] at K
  exact K
set_option maxHeartbeats 8000000 in
set_option maxRecDepth 100000 in
theorem small5_any (w : World) : Calls Try.prog 9 #[] w fun e w' => e = .returned (.bool true) ∧ Below w.heap.size w w' := by
  have KD := Lib.hid (fun W => digitP_yes 26 W (by omega))
  rw [show Puny.digN 26 = 48 by decide] at KD
  have KV := Lib.hid (fun W => valueP_any 90 W (by omega))
  rw [show Puny.valOf 90 = some 25 by decide] at KV
  simp only [Option.getD_some, Option.isSome_some] at KV
  have KA := Lib.hid (fun W => adaptP_any 700 1 true W (by omega) (by omega))
  rw [show Puny.adapt 700 1 true = 1 by decide +kernel] at KA
  go_enter Try.func9, Try.ntmps9
  go_wp2_with fail
  refine (encP_at _ [98, 252, 99, 104, 101, 114] _ (runes_lit w [98, 252, 99, 104, 101, 114]) (by decide) (by decide +kernel) (bs := [98, 99, 104, 101, 114, 45, 107, 118, 97]) (by decide +kernel)).mono ?_
  rintro e w1 ⟨rfl, hb1⟩
  have B1 := Lib.hid (below_then (below_one w _) hb1)
  clear hb1
  go_wp2_with fail
  refine (decP_at ⟨#[98, 99, 104, 101, 114, 45, 75, 86, 65]⟩ _ (by decide) (l := [98, 252, 99, 104, 101, 114]) (n := 6) (by decide +kernel) rfl).mono ?_
  rintro e w2 ⟨A, c, rfl, hR2, hb2⟩
  have R2 := Lib.hid hR2
  have B2 := Lib.hid (below_then B1.out hb2)
  clear hR2 hb2 B1
  go_wp2_with fail
  refine (encP_at _ [97, 98] _ (runes_lit w2 [97, 98]) (by decide) (by decide +kernel) (bs := [97, 98, 45]) (by decide +kernel)).mono ?_
  rintro e w3 ⟨rfl, hb3⟩
  have R3 := Lib.hid (R2.out.keep (below_then (below_one w2 _) hb3))
  have B3 := Lib.hid (below_then B2.out (below_then (below_one w2 _) hb3))
  clear hb3 R2 B2
  go_wp2_with fail
  refine (encodeP_no _ [55296] _ (runes_lit w3 [55296]) (by decide) (by decide +kernel)).mono ?_
  rintro e w4 ⟨rfl, hb4⟩
  have R4 := Lib.hid (R3.out.keep (below_then (below_one w3 _) hb4))
  have B4 := Lib.hid (below_then B3.out (below_then (below_one w3 _) hb4))
  clear hb4 R3 B3
  go_wp2_with fail
  refine (decP_not ⟨#[45]⟩ _ (by decide) (by decide +kernel)).mono ?_
  rintro e w5 ⟨A5, c5, rfl, -, hb5⟩
  have R5 := Lib.hid (R4.out.keep hb5)
  have B5 := Lib.hid (below_then B4.out hb5)
  clear hb5 R4 B4
  go_wp2_with fail
  refine (decP_not ⟨#[98, 99, 104, 101, 114, 45, 107, 118]⟩ _ (by decide) (by decide +kernel)).mono ?_
  rintro e w6 ⟨A6, c6, rfl, -, hb6⟩
  have R6 := Lib.hid (R5.out.keep hb6)
  have B6 := Lib.hid (below_then B5.out hb6)
  clear hb6 R5 B5
  go_wp2_with fail
  refine (decP_at ⟨#[]⟩ _ (by decide) (l := []) (n := 0) (by decide +kernel) rfl).mono ?_
  rintro e w7 ⟨A7, c7, rfl, -, hb7⟩
  have R7 := R6.out.keep hb7
  have B7 := Lib.hid (below_then B6.out hb7)
  clear hb7 R6 B6
  obtain ⟨A', c', hv, -, hcell⟩ := R7.form
  obtain ⟨ad, hA, hlt, hx⟩ := hcell 1 (by decide)
  obtain rfl : A = some ad := by
    rw [hA] at hv
    injection hv
  have hx1 : w7.cell? { block := ad.block, off := ad.off + 1 } = some (.int .i32 252) := by
    have e : ad.add 1 = { block := ad.block, off := ad.off + 1 } := by unfold Addr.add; simp
    rw [e] at hx
    exact hx
  clear hcell hx R7 hv hA hlt
  go_wp2_with fail
  refine (KD.out _).mono ?_
  rintro e w8 ⟨rfl, rfl⟩
  go_wp2_with fail
  refine (KV.out _).mono ?_
  rintro e w9 ⟨rfl, rfl⟩
  go_wp2_with fail
  refine (KA.out _).mono ?_
  rintro e w10 ⟨rfl, rfl⟩
  go_wp2
  go_ret
  exact ⟨rfl, B7.out⟩
end Go.Proofs.Ytkgikkdgfhonlaa
