/-
  Proved here: what the laws of layer 10 ask of the program's four functions. Conditions: as they stand in each.
-/
import Derived.Test.YtmbammhkkcnoaaaGreatPrecPlainB
namespace Go.Proofs.YtmbammhkkcnoaaaGreat
open Go.RowKit Utf
/-- What the program's four functions tell. -/
structure PrecOk : Prop where
  char : ∀ (t : Value) (r : Int) (w : World), Table w t → Calls Tryz.prog 14 #[t, .int .i32 r] w fun e w' => e = .returned (.bool (Prec.charOk r)) ∧ Below w.heap.size w w'
  cls : ∀ (t : Value) (s : ByteArray) (w : World), Table w t → WideFits s → Calls Tryz.prog 12 #[t, .string s] w fun e w' => e = .returned (.int .i64 (Prec.classE s.data.toList)) ∧ Below w.heap.size w w'
  name : ∀ (t : Value) (s : ByteArray) (w : World), Table w t → LabFits s → Calls Tryz.prog 10 #[t, .string s] w fun e w' => e = .returned (.tuple #[.string ⟨(Prec.nameE s.data.toList).2.toArray⟩, .int .i64 (Prec.nameE s.data.toList).1]) ∧ Below w.heap.size w w'
  alike : ∀ (t : Value) (a b : ByteArray) (w : World), Table w t → LabFits a → LabFits b → Calls Tryz.prog 16 #[t, .string a, .string b] w fun e w' => e = .returned (.bool (Prec.alike a.data.toList b.data.toList)) ∧ Below w.heap.size w w'
theorem PrecOk.char_at (B : PrecOk) (t : Value) (r : Int) (w : World) (hT : Table w t) {x : Bool} (hx : Prec.charOk r = x) : Calls Tryz.prog 14 #[t, .int .i32 r] w fun e w' => e = .returned (.bool x) ∧ Below w.heap.size w w' := by
  subst hx
  exact B.char t r w hT
theorem PrecOk.cls_at (B : PrecOk) (t : Value) (s : ByteArray) (w : World) (hT : Table w t) (hs : WideFits s) {x : Int} (hx : Prec.classE s.data.toList = x) : Calls Tryz.prog 12 #[t, .string s] w fun e w' => e = .returned (.int .i64 x) ∧ Below w.heap.size w w' := by
  subst hx
  exact B.cls t s w hT hs
theorem PrecOk.name_at (B : PrecOk) (t : Value) (s : ByteArray) (w : World) (hT : Table w t) (hs : LabFits s) {x : Int} {n : List UInt8} (hx : Prec.nameE s.data.toList = (x, n)) : Calls Tryz.prog 10 #[t, .string s] w fun e w' => e = .returned (.tuple #[.string ⟨n.toArray⟩, .int .i64 x]) ∧ Below w.heap.size w w' := by
  have := B.name t s w hT hs
  rwa [hx] at this
theorem PrecOk.alk_at (B : PrecOk) (t : Value) (a b : ByteArray) (w : World) (hT : Table w t) (ha : LabFits a) (hb : LabFits b) {x : Bool} (hx : Prec.alike a.data.toList b.data.toList = x) : Calls Tryz.prog 16 #[t, .string a, .string b] w fun e w' => e = .returned (.bool x) ∧ Below w.heap.size w w' := by
  subst hx
  exact B.alike t a b w hT ha hb
end Go.Proofs.YtmbammhkkcnoaaaGreat
