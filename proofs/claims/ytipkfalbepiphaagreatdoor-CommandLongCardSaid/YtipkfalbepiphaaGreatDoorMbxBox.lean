import Derived.Test.YtipkfalbepiphaaGreatDoorMbxChar
import Derived.Test.YtipkfalbepiphaaGreatDoorLabMid
import Derived.Test.YtipkfalbepiphaaGreatDoorLexSeq
set_option maxRecDepth 100000
set_option maxHeartbeats 4000000
namespace Go.Proofs.YtipkfalbepiphaaGreatDoor
open Tryz
open Go.RowKit Utf
structure Amg (B b0 b1 b2 b3:Nat) (x y:ByteArray) (W:World):Prop where
 t0:W.cell? ⟨B,0,none⟩=some (.slice (some ⟨b0,0,none⟩) 74 74)
 t1:W.cell? ⟨B,1,none⟩=some (.slice (some ⟨b1,0,none⟩) 10 10)
 t2:W.cell? ⟨B,2,none⟩=some (.slice (some ⟨b2,0,none⟩) 11 11)
 t3:W.cell? ⟨B,3,none⟩=some (.slice (some ⟨b3,0,none⟩) 42 42)
 m0:W.cell? ⟨B+1,0,none⟩=some (.string x)
 m1:W.cell? ⟨B+1,1,none⟩=some (.string y)
 lt:B+1<W.heap.size
theorem Amg.Ac {B b0 b1 b2 b3:Nat} {x y:ByteArray} {W W':World} (h:Amg B b0 b1 b2 b3 x y W) (hb:Below W.heap.size W W'):Amg B b0 b1 b2 b3 x y W':=by
 have hl:=h.lt;have e:∀ k,W'.cell? ⟨B,k,none⟩=W.cell? ⟨B,k,none⟩:=λk=>hb.cell (p:=⟨B,k,none⟩) (show B<_ by omega);have f:∀ k,W'.cell? ⟨B+1,k,none⟩=W.cell? ⟨B+1,k,none⟩:=λk=>hb.cell (p:=⟨B+1,k,none⟩) (show B+1<_ by omega);exact ⟨(e 0).trans h.t0,(e 1).trans h.t1,(e 2).trans h.t2,(e 3).trans h.t3,(f 0).trans h.m0,(f 1).trans h.m1,jas hl hb.size⟩
theorem Amg.new {w:World} {B:Nat} (hB:w.heap.size=B) (b0 b1 b2 b3:Nat) (x y:ByteArray) :
  Amg B b0 b1 b2 b3 x y ((w.alloc (.cells #[.slice (some ⟨b0,0,none⟩) 74 74,.slice (some ⟨b1,0,none⟩) 10 10,.slice (some ⟨b2,0,none⟩) 11 11,.slice (some ⟨b3,0,none⟩) 42 42] 35)).alloc (.cells #[.string x,.string y] 23)):=by
 subst hB;have e:∀ k,((w.alloc (.cells #[.slice (some ⟨b0,0,none⟩) 74 74,.slice (some ⟨b1,0,none⟩) 10 10,.slice (some ⟨b2,0,none⟩) 11 11,.slice (some ⟨b3,0,none⟩) 42 42] 35)).alloc (.cells #[.string x,.string y] 23)).cell? ⟨w.heap.size,k,none⟩=(w.alloc (.cells #[.slice (some ⟨b0,0,none⟩) 74 74,.slice (some ⟨b1,0,none⟩) 10 10,.slice (some ⟨b2,0,none⟩) 11 11,.slice (some ⟨b3,0,none⟩) 42 42] 35)).cell? ⟨w.heap.size,k,none⟩:=λk =>
  (Ab _ _).cell (p:=⟨w.heap.size,k,none⟩) (show w.heap.size<_ by simp)
 refine ⟨(e 0).trans ?_,(e 1).trans ?_,(e 2).trans ?_,(e 3).trans ?_,?_,?_,by simp⟩<;>go_simp
structure CAt (C:Nat) (u v:ByteArray) (W:World):Prop where
 blk:W.heap[C]? = some (.cells #[.string u,.string v] 23 (0,0))
section
variable {C:Nat} {u v:ByteArray} {W W':World}
theorem CAt.lt (H:CAt C u v W):C<W.heap.size:=(Array.getElem?_eq_some_iff.1 H.blk).1
theorem CAt.c0 (H:CAt C u v W):W.cell? ⟨C,0,none⟩=some (.string u):=by have:=H.blk;simp [World.cell?,this]
theorem CAt.c1 (H:CAt C u v W):W.cell? ⟨C,1,none⟩=some (.string v):=by have:=H.blk;simp [World.cell?,this]
theorem CAt.fr (H:CAt C u v W) (k:Nat):W.frozen? ⟨C,k,none⟩=false:=by have:=H.blk;simp [World.frozen?,this]
theorem CAt.Ac (H:CAt C u v W) (hb:Below W.heap.size W W'):CAt C u v W':=⟨(hb.block C H.lt).trans H.blk⟩
theorem CAt.new (W:World) (u v:ByteArray):CAt W.heap.size u v (W.alloc (.cells #[.string u,.string v] 23)):=⟨heap_alloc_new W _⟩
end
theorem Yw (x y:ByteArray) (w:World):Calls prog 73 #[.agg #[.string x,.string y]] w λe w'=>e=.returned (.bool (Mbx.E7 y.data.toList))/\Below w.heap.size w w':=by
 by_cases h0:y.size=0
 ·obtain rfl:y=⟨#[]⟩:=ByteArray.ext (Array.eq_empty_of_size_eq_zero h0);clear h0;go_enter func73,ntmps73;go_wp2_with (first | (go_at_call 100;go_in) | (go_at_call 104;go_in));go_ret;exact ⟨rfl,Ab _ _⟩
 ·have hz:(1:Int)<=(y.size:Int):=jO
  have a0:=Lab.Q0 (s:=y) (k:=0) jO 91;have e:Mbx.E7 y.data.toList=((y.extract 0 (0+1)).toList == [91]):=by
   rw [a0,Lab.Fa (show 0<y.size by omega)];unfold Mbx.E7;have hl:0<y.data.toList.length:=by simp;omega
   rw [List.head?_eq_getElem?,List.getElem?_eq_getElem hl];have hq:y.data.toList[0]=y[0]:=by simp;rfl
   rw [hq,Bool.eq_iff_iff,beq_iff_eq,beq_iff_eq];constructor
   ·intro h;injection h with h
    rw [h]
   ·intro h;have:y[0]=91:=UInt8.toNat_inj.1 (by rw [show (91:UInt8).toNat=91 from rfl] at h ⊢;omega);rw [this]
  rw [e];clear e a0 h0;cases e0:((y.extract 0 (0+1)).toList == [91])
  all_goals
   go_enter func73,ntmps73;go_wp2_with (first | (go_at_call 100;go_in) | (go_at_call 104;go_in));go_ret;exact ⟨rfl,Ab _ _⟩
theorem Vy (s:ByteArray) (w:World) (hs:s.size<=100000):Calls prog 71 #[.string s] w λe w'=>e=.returned (.bool (decide ((Au s.data.toList).2=-1)))/\Below w.heap.size w w':=by
 have K:=jH (Vb s w hs);have hx:decide ((Au s.data.toList).2<0)=decide ((Au s.data.toList).2=-1):=by
  rw [decide_eq_decide];rcases Eu (s:=s.data.toList) (m:=(Au s.data.toList).1) (z:=(Au s.data.toList).2) rfl with ⟨-,-,⟨h,-⟩ | ⟨k,h,-⟩⟩<;>omega
 rw [<- hx];obtain ⟨z,hz⟩:∃ z,z=(Au s.data.toList).2:=⟨_,rfl⟩
 unfold Tp at K;rw [<- hz] at K ⊢;clear hx hz;cases h:decide (z<0)
 all_goals
  go_enter func71,ntmps71;go_wp2_with fail;refine K.out.mono ?_;rintro e w1 ⟨v,rfl,-,hb⟩;have B:=jH hb;clear hb;go_wp2;go_ret;exact ⟨rfl,B.out⟩
