import Derived.Test.YtickpkccpafjaaaGreatDoorMbxOkB
namespace Go.Proofs.YtickpkccpafjaaaGreatDoor
open Tryz
section
open Go.RowKit Utf
structure Wn (B b0 b1 b2 b3:Nat) (x y u v:ByteArray) (W:World):Prop where
 m:Ad0 B b0 b1 b2 b3 x y W
 c:CAt (B+2) u v W
theorem Wn.Ae {B b0 b1 b2 b3:Nat} {x y u v:ByteArray} {W W':World} (h:Wn B b0 b1 b2 b3 x y u v W) (hb:Below W.heap.size W W'):Wn B b0 b1 b2 b3 x y u v W':=⟨h.m.Ae hb,h.c.Ae hb⟩
theorem Wn.all {B b0 b1 b2 b3:Nat} {x y u v:ByteArray} {W:World} (h:Wn B b0 b1 b2 b3 x y u v W):W.cell? ⟨B,0,none⟩=some (.slice (some ⟨b0,0,none⟩) 74 74)/\W.cell? ⟨B,1,none⟩=some (.slice (some ⟨b1,0,none⟩) 10 10)/\W.cell? ⟨B,2,none⟩=some (.slice (some ⟨b2,0,none⟩) 11 11)/\W.cell? ⟨B,3,none⟩=some (.slice (some ⟨b3,0,none⟩) 42 42)/\W.cell? ⟨B+1,0,none⟩=some (.string x)/\W.cell? ⟨B+1,1,none⟩=some (.string y)/\W.cell? ⟨B+2,0,none⟩=some (.string u)/\W.cell? ⟨B+2,1,none⟩=some (.string v):=⟨h.m.t0,h.m.t1,h.m.t2,h.m.t3,h.m.m0,h.m.m1,h.c.c0,h.c.c1⟩
end
section
open Go.RowKit Utf
theorem Yh {l:List UInt8} (h:l.length<=400):De ⟨l.toArray⟩:=Aw1 (by show l.toArray.size<=_;rw [List.size_toArray];exact h)
end
section
open Go.RowKit Utf
theorem Sa {α:Type _} (l:List α) (i:Nat) (a:α):l.toArray.setIfInBounds i a=(l.set i a).toArray:=jad ..
theorem Sb {α:Type _} {a b:α} {l:List α}:(a::l).set 0 b=b::l:=rfl
theorem Sc {α:Type _} {a b:α} {l:List α} {n:Nat}:(a::l).set (n+1) b=a::l.set n b:=rfl
theorem Yv (t:Value) (s:ByteArray) (w:World) (hT:Table w t) (hs:s.size<=400) {E:Int} {x y:List UInt8} (hp:Mbx.Ty s.data.toList=(E,x,y)) :
  Calls prog 18 #[t,.string s] w λe w'=>e=.returned (.tuple #[.agg #[.string ⟨x.toArray⟩,.string ⟨y.toArray⟩],.int .i64 E])/\Below w.heap.size w w' :=
 Am1 t s w hT jO (λts x y n hl ht=>Aw1 (by
  have h1:=Mbx.Awr hl ht;have h2:s.data.toList.length=s.size:=by simp
  show y.toArray.size<=_;rw [List.size_toArray];omega)) hp
theorem A2u (x y:ByteArray) (w:World) (hx:x.size<=150) (hy:y.size<=200):Calls prog 19 #[.agg #[.string x,.string y]] w λe w'=>e=.returned (.bool true)/\Below w.heap.size w w':=by
 have zx:(x.size:Int)<=150:=jO
 have zy:(y.size:Int)<=200:=jO
 clear hx hy;go_enter func19,ntmps19;go_wp2;go_ret;exact ⟨rfl,Ac _ _⟩
theorem A2v (x y:ByteArray) (w:World) (h:¬ (x.size<=150/\y.size<=200)):Calls prog 19 #[.agg #[.string x,.string y]] w λe w'=>e=.returned (.bool false)/\Below w.heap.size w w':=by
 by_cases hx:x.size<=150
 ·have zx:(x.size:Int)<=150:=jO
  have zy:¬ (y.size:Int)<=200:=jO
  clear hx h;go_enter func19,ntmps19;go_wp2;go_ret;exact ⟨rfl,Ac _ _⟩
 ·have zx:¬ (x.size:Int)<=150:=jO
  clear hx h;go_enter func19,ntmps19;go_wp2;go_ret;exact ⟨rfl,Ac _ _⟩
end
