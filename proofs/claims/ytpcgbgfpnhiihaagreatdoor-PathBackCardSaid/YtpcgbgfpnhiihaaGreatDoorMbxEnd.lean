import Derived.Test.YtpcgbgfpnhiihaaGreatDoorMbxOkB
namespace Go.Proofs.YtpcgbgfpnhiihaaGreatDoor
section
open Go.RowKit Utf
structure Arm (B b0 b1 b2 b3:Nat) (x y u v:ByteArray) (W:World):Prop where
 m:Pt B b0 b1 b2 b3 x y W
 c:CAt (B+2) u v W
theorem Arm.all {B b0 b1 b2 b3:Nat} {x y u v:ByteArray} {W:World} (h:Arm B b0 b1 b2 b3 x y u v W):W.cell? ⟨B,0,none⟩=some (.slice (some ⟨b0,0,none⟩) 74 74)/\W.cell? ⟨B,1,none⟩=some (.slice (some ⟨b1,0,none⟩) 10 10)/\W.cell? ⟨B,2,none⟩=some (.slice (some ⟨b2,0,none⟩) 11 11)/\W.cell? ⟨B,3,none⟩=some (.slice (some ⟨b3,0,none⟩) 42 42)/\W.cell? ⟨B+1,0,none⟩=some (.string x)/\W.cell? ⟨B+1,1,none⟩=some (.string y)/\W.cell? ⟨B+2,0,none⟩=some (.string u)/\W.cell? ⟨B+2,1,none⟩=some (.string v):=⟨h.m.t0,h.m.t1,h.m.t2,h.m.t3,h.m.m0,h.m.m1,h.c.c0,h.c.c1⟩
end
section
open Go.RowKit Utf
theorem Ke {l:List UInt8} (h:l.length<=400):Au ⟨l.toArray⟩:=Fs (by show l.toArray.size<=_;rw [List.size_toArray];exact h)
end
section
open Go.RowKit Utf
theorem Ad {W:World} {g j D k:Nat} {z:Value} (h:g ≠ D):(W.setCell ⟨D,k,none⟩ z).cell? ⟨g,j,none⟩=W.cell? ⟨g,j,none⟩:=World.cell?_of_block (w:=W) (Below.heap_setCell _ _ _ _ h)
theorem Ar4 (t:Value) (x y:ByteArray) (w:World) (hT:Table w t) (hx:Au x) (hy:Au y) {u v:List UInt8} (hu:Mbx.Aa2 x.data.toList=u) (hv:Mbx.Anw y.data.toList=v) :
  Calls Tryz.prog 19 #[t,.agg #[.string x,.string y]] w λe w'=>e=.returned (.agg #[.string ⟨u.toArray⟩,.string ⟨v.toArray⟩])/\Below w.heap.size w w':=by
 subst hu hv
 exact Aiq t x y w hT hx hy
theorem Apl (x y:ByteArray) (w:World) (hx:x.size<=10000) (hy:y.size<=100000) {z:List UInt8} (h:Mbx.Ew x.data.toList y.data.toList=z) :
  Calls Tryz.prog 17 #[.agg #[.string x,.string y]] w λe w'=>e=.returned (.string ⟨z.toArray⟩)/\Below w.heap.size w w':=by
 subst h
 exact Akl x y w hx hy
theorem Acz (x y:ByteArray) (w:World) (hx:x.size<=150) (hy:y.size<=200):Calls Tryz.prog 10 #[.agg #[.string x,.string y]] w λe w'=>e=.returned (.bool true)/\Below w.heap.size w w':=by
 have zx:(x.size:Int)<=150:=by omega
 have zy:(y.size:Int)<=200:=by omega
 clear hx hy
 go_enter Tryz.func10,Tryz.ntmps10
 go_wp2
 go_ret
 exact ⟨rfl,Ab _ _⟩
theorem Asq (x y:ByteArray) (w:World) (h:¬ (x.size<=150/\y.size<=200)):Calls Tryz.prog 10 #[.agg #[.string x,.string y]] w λe w'=>e=.returned (.bool false)/\Below w.heap.size w w':=by
 by_cases hx:x.size<=150
 ·have zx:(x.size:Int)<=150:=by omega
  have zy:¬ (y.size:Int)<=200:=by omega
  clear hx h
  go_enter Tryz.func10,Tryz.ntmps10
  go_wp2
  go_ret
  exact ⟨rfl,Ab _ _⟩
 ·have zx:¬ (x.size:Int)<=150:=by omega
  clear hx h
  go_enter Tryz.func10,Tryz.ntmps10
  go_wp2
  go_ret
  exact ⟨rfl,Ab _ _⟩
end
end Go.Proofs.YtpcgbgfpnhiihaaGreatDoor
