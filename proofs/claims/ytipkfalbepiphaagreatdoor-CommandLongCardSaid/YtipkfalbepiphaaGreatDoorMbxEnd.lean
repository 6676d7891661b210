import Derived.Test.YtipkfalbepiphaaGreatDoorMbxOkB
namespace Go.Proofs.YtipkfalbepiphaaGreatDoor
open Tryz
section
open Go.RowKit Utf
structure Axm (B b0 b1 b2 b3:Nat) (x y u v:ByteArray) (W:World):Prop where
 m:Amg B b0 b1 b2 b3 x y W
 c:CAt (B+2) u v W
theorem Axm.all {B b0 b1 b2 b3:Nat} {x y u v:ByteArray} {W:World} (h:Axm B b0 b1 b2 b3 x y u v W):W.cell? ⟨B,0,none⟩=some (.slice (some ⟨b0,0,none⟩) 74 74)/\W.cell? ⟨B,1,none⟩=some (.slice (some ⟨b1,0,none⟩) 10 10)/\W.cell? ⟨B,2,none⟩=some (.slice (some ⟨b2,0,none⟩) 11 11)/\W.cell? ⟨B,3,none⟩=some (.slice (some ⟨b3,0,none⟩) 42 42)/\W.cell? ⟨B+1,0,none⟩=some (.string x)/\W.cell? ⟨B+1,1,none⟩=some (.string y)/\W.cell? ⟨B+2,0,none⟩=some (.string u)/\W.cell? ⟨B+2,1,none⟩=some (.string v):=⟨h.m.t0,h.m.t1,h.m.t2,h.m.t3,h.m.m0,h.m.m1,h.c.c0,h.c.c1⟩
end
section
open Go.RowKit Utf
theorem Aum {l:List UInt8} (h:l.length<=510):Cx ⟨l.toArray⟩:=Aj7 (by show l.toArray.size<=_;rw [List.size_toArray];exact h)
end
section
open Go.RowKit Utf
theorem Sa {α:Type _} (l:List α) (i:Nat) (a:α):l.toArray.setIfInBounds i a=(l.set i a).toArray:=jad ..
theorem Sb {α:Type _} {a b:α} {l:List α}:(a::l).set 0 b=b::l:=rfl
theorem Sc {α:Type _} {a b:α} {l:List α} {n:Nat}:(a::l).set (n+1) b=a::l.set n b:=rfl
theorem Er {W:World} {g j D k:Nat} {z:Value} (h:g ≠ D):(W.setCell ⟨D,k,none⟩ z).cell? ⟨g,j,none⟩=W.cell? ⟨g,j,none⟩:=World.cell?_of_block (w:=W) (Below.heap_setCell _ _ _ _ h)
theorem Ava (x y:ByteArray) (w:World) (hx:x.size<=10000) (hy:y.size<=100000) {z:List UInt8} (h:Mbx.Fq x.data.toList y.data.toList=z) :
  Calls prog 31 #[.agg #[.string x,.string y]] w λe w'=>e=.returned (.string ⟨z.toArray⟩)/\Below w.heap.size w w':=by
 subst h;exact Ao8 x y w hx hy
theorem Ard (x y:ByteArray) (w:World) (hx:x.size<=150) (hy:y.size<=200):Calls prog 15 #[.agg #[.string x,.string y]] w λe w'=>e=.returned (.bool true)/\Below w.heap.size w w':=by
 have zx:(x.size:Int)<=150:=jO
 have zy:(y.size:Int)<=200:=jO
 clear hx hy;go_enter func15,ntmps15;go_wp2;go_ret;exact ⟨rfl,Ab _ _⟩
theorem A5z (x y:ByteArray) (w:World) (h:¬ (x.size<=150/\y.size<=200)):Calls prog 15 #[.agg #[.string x,.string y]] w λe w'=>e=.returned (.bool false)/\Below w.heap.size w w':=by
 by_cases hx:x.size<=150
 ·have zx:(x.size:Int)<=150:=jO
  have zy:¬ (y.size:Int)<=200:=jO
  clear hx h;go_enter func15,ntmps15;go_wp2;go_ret;exact ⟨rfl,Ab _ _⟩
 ·have zx:¬ (x.size:Int)<=150:=jO
  clear hx h;go_enter func15,ntmps15;go_wp2;go_ret;exact ⟨rfl,Ab _ _⟩
end
