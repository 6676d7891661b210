/-
  Proved here: the program's six functions of layer 8. Conditions: what can be asked of ('LabFits', 'WideFits').
-/
import Derived.Test.YtmbammhkkcnoaaaGreatLabAces
namespace Go.Proofs.YtmbammhkkcnoaaaGreat
open Go.RowKit Utf
/-- What is folded, and not all ASCII, comes to. -/
def wfE (bs : List UInt8) : Int × List UInt8 × List UInt8 := if Lab.wideE bs = 0 then (0, Lab.sign ++ codeE bs, bs) else (Lab.wideE bs, [], [])
theorem sign_app (c : List UInt8) : (⟨#[120, 110, 45, 45]⟩ : ByteArray) ++ (⟨c.toArray⟩ : ByteArray) = ⟨(Lab.sign ++ c).toArray⟩ := by
  apply ByteArray.ext
  rw [ByteArray.data_append]
  simp [Lab.sign]
/-- Folded ASCII has small letters alone. -/
theorem sign_small {L : List Int} (hr : rightsZ L = true) (hf : Fold.fold L = L) (ha : Lab.ascii (encZ L) = true) : (((encZ L).take 4).map smallB == Lab.sign) = decide ((encZ L).take 4 = Lab.sign) := by
  have hs := Lab.ascii_iff.1 ha
  have hc : Lab.chars (encZ L) = L := Lab.encZ_inj (Lab.chars_right hs) hr (enc_bytes _ hs)
  have hA : Norm.ascii L := by
    intro c hc'
    rw [← hc] at hc'
    obtain ⟨b, hb, rfl⟩ := List.mem_map.1 hc'
    have := hs b hb
    omega
  rw [Norm.ascii_fold_is hA] at hf
  have hx : ∀ b ∈ encZ L, smallB b = b := by
    intro b hb
    have hm : (b.toNat : Int) ∈ L := by rw [← hc]; exact List.mem_map.2 ⟨b, hb, rfl⟩
    obtain ⟨i, hi, he⟩ := List.getElem_of_mem hm
    have h2 := congrArg (fun l : List Int => l[i]?) hf
    simp only [List.getElem?_map, List.getElem?_eq_getElem hi, Option.map_some, Option.some.injEq] at h2
    rw [he] at h2
    have h3 : ¬ (65 ≤ b.toNat ∧ b.toNat ≤ 90) := by
      intro h
      rw [if_pos (by omega)] at h2
      omega
    unfold smallB
    rw [if_neg h3]
  have hmap : ((encZ L).take 4).map smallB = (encZ L).take 4 := by
    rw [List.map_congr_left (g := id) (fun b hb => hx b (List.mem_of_mem_take hb)), List.map_id]
  rw [hmap, Bool.eq_iff_iff, beq_iff_eq, decide_eq_true_eq]
set_option maxHeartbeats 2000000 in
set_option maxRecDepth 100000 in
theorem wideL_any (t : Value) (s : ByteArray) (w : World) (hT : Table w t) (hs : WideFits s) : Calls Tryz.prog 20 #[t, .string s] w fun e w' => e = .returned (.int .i64 (Lab.wideE s.data.toList)) ∧ Below w.heap.size w w' := by
  have K := fun W (h : Below w.heap.size w W) => encode_any t s W (hT.below h) hs
  generalize Lab.wideE s.data.toList = x at K ⊢
  generalize codeE s.data.toList = c at K
  have K := Lib.hid K
  obtain ⟨b0, b1, b2, b3, rfl, -, -, -, -⟩ := hT
  clear hs
  go_enter Tryz.func20, Tryz.ntmps20
  go_wp2_with fail
  refine (K.out _ (below_one _ _)).mono ?_
  rintro e w2 ⟨rfl, hb2⟩
  have BX := Lib.hid (boxT hb2)
  clear hb2
  go_wp2
  go_ret
  exact ⟨rfl, BX.out.1⟩
end Go.Proofs.YtmbammhkkcnoaaaGreat
