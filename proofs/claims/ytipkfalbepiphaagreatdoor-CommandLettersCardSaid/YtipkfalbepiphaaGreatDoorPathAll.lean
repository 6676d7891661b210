import Derived.Test.YtipkfalbepiphaaGreatDoorPathPl
import Derived.Test.YtipkfalbepiphaaGreatDoorMbxEnd
set_option maxRecDepth 100000
set_option maxHeartbeats 4000000
namespace Go.Proofs.YtipkfalbepiphaaGreatDoor
open Tryz
section
open Go.RowKit Utf
structure PAt (C:Nat) (n:Bool) (u v:ByteArray) (W:World):Prop where
 blk:W.heap[C]? = some (.cells #[.bool n,.string u,.string v] 25 (0,0))
structure TAt (B b0 b1 b2 b3:Nat) (W:World):Prop where
 blk:W.heap[B]? = some (.cells #[.slice (some ⟨b0,0,none⟩) 74 74,.slice (some ⟨b1,0,none⟩) 10 10,.slice (some ⟨b2,0,none⟩) 11 11,.slice (some ⟨b3,0,none⟩) 42 42] 35 (0,0))
section
variable {B C b0 b1 b2 b3:Nat} {n:Bool} {u v:ByteArray} {W W':World}
theorem PAt.lt (H:PAt C n u v W):C<W.heap.size:=(Array.getElem?_eq_some_iff.1 H.blk).1
theorem PAt.all (H:PAt C n u v W):W.cell? ⟨C,0,none⟩=some (.bool n)/\W.cell? ⟨C,1,none⟩=some (.string u)/\W.cell? ⟨C,2,none⟩=some (.string v):=by have:=H.blk;simp [World.cell?,this]
theorem PAt.fr (H:PAt C n u v W):W.frozen? ⟨C,0,none⟩=false/\W.frozen? ⟨C,1,none⟩=false/\W.frozen? ⟨C,2,none⟩=false:=by have:=H.blk;simp [World.frozen?,this]
theorem PAt.Ac (H:PAt C n u v W) (hb:Below W.heap.size W W'):PAt C n u v W':=⟨(hb.block C H.lt).trans H.blk⟩
theorem PAt.other (H:PAt C n u v W) {D:Nat} (hD:C ≠ D) (k:Nat) (z:Value):PAt C n u v (W.setCell ⟨D,k,none⟩ z):=⟨(Below.heap_setCell _ _ _ _ hD).trans H.blk⟩
theorem PAt.set (H:PAt C n u v W) (m:Bool) (x y:ByteArray):PAt C m x y (((W.setCell ⟨C,0,none⟩ (.bool m)).setCell ⟨C,1,none⟩ (.string x)).setCell ⟨C,2,none⟩ (.string y)) :=
 ⟨by have:=H.blk;simp [World.setCell,Array.getElem?_modify,this]⟩
theorem PAt.new (W:World) (n:Bool) (u v:ByteArray):PAt W.heap.size n u v (W.alloc (.cells #[.bool n,.string u,.string v] 25)):=⟨heap_alloc_new W _⟩
theorem TAt.lt (H:TAt B b0 b1 b2 b3 W):B<W.heap.size:=(Array.getElem?_eq_some_iff.1 H.blk).1
theorem TAt.all (H:TAt B b0 b1 b2 b3 W):W.cell? ⟨B,0,none⟩=some (.slice (some ⟨b0,0,none⟩) 74 74)/\W.cell? ⟨B,1,none⟩=some (.slice (some ⟨b1,0,none⟩) 10 10)/\W.cell? ⟨B,2,none⟩=some (.slice (some ⟨b2,0,none⟩) 11 11)/\W.cell? ⟨B,3,none⟩=some (.slice (some ⟨b3,0,none⟩) 42 42):=by have:=H.blk;simp [World.cell?,this]
theorem TAt.Ac (H:TAt B b0 b1 b2 b3 W) (hb:Below W.heap.size W W'):TAt B b0 b1 b2 b3 W':=⟨(hb.block B H.lt).trans H.blk⟩
theorem TAt.other (H:TAt B b0 b1 b2 b3 W) {D:Nat} (hD:B ≠ D) (k:Nat) (z:Value):TAt B b0 b1 b2 b3 (W.setCell ⟨D,k,none⟩ z):=⟨(Below.heap_setCell _ _ _ _ hD).trans H.blk⟩
theorem TAt.new (W:World) (b0 b1 b2 b3:Nat):TAt W.heap.size b0 b1 b2 b3 (W.alloc (.cells #[.slice (some ⟨b0,0,none⟩) 74 74,.slice (some ⟨b1,0,none⟩) 10 10,.slice (some ⟨b2,0,none⟩) 11 11,.slice (some ⟨b3,0,none⟩) 42 42] 35)):=⟨heap_alloc_new W _⟩
theorem Cf {w:World} {k:Nat} (h:Below k w W) (hk:k<=C) (x y z:Value):Below k w (((W.setCell ⟨C,0,none⟩ x).setCell ⟨C,1,none⟩ y).setCell ⟨C,2,none⟩ z) :=
 ((h.setCell (p:=⟨C,0,none⟩) hk x).setCell (p:=⟨C,1,none⟩) hk y).setCell (p:=⟨C,2,none⟩) hk z
end
theorem Yz (n:Bool) (x y:ByteArray) (w:World) (hx:x.size<=100000):Calls prog 30 #[.agg #[.bool n,.string x,.string y]] w λe w'=>e=.returned (.bool (Pth.Eg n x.data.toList y.data.toList))/\Below w.heap.size w w':=by
 obtain ⟨R,hR⟩:∃ R,R=Pth.Eg n x.data.toList y.data.toList:=⟨_,rfl⟩
 rw [<- hR];unfold Pth.Eg at hR;have B0:=jH (Ab w (.cells #[.bool n,.string x,.string y] 25));cases n
 case true =>
  have E:=jH (show R=false from hR);clear hR hx;go_enter func30,ntmps30;go_wp2;go_ret;exact ⟨by rw [E.out];rfl,B0.out⟩
 by_cases h0:y.size=0
 case neg =>
  have e1:(y.toList == [])=false:=by
   rw [ByteArray.toList_eq,beq_eq_false_iff_ne];intro e;have hl:y.data.toList.length=y.size:=by simp
   rw [e] at hl;exact h0 hl.symm
  have E:=jH (show R=false by rw [hR,<- ByteArray.toList_eq y,e1];rfl);clear hR hx h0;go_enter func30,ntmps30;go_wp2;go_ret;exact ⟨by rw [E.out];rfl,B0.out⟩
 obtain rfl:y=⟨#[]⟩:=ByteArray.ext (Array.eq_empty_of_size_eq_zero h0);have KP:=λW=>Hm x W hx;obtain ⟨P,hP⟩:∃ P:ByteArray,P=⟨(x.data.toList.map Af).toArray⟩:=⟨_,rfl⟩
 rw [<- hP] at KP;have hRP:R=(P.toList == [112,111,115,116,109,97,115,116,101,114]):=by rw [hR,hP,ByteArray.toList_eq];rfl
 clear hR hP hx h0;cases hq:(P.toList == [112,111,115,116,109,97,115,116,101,114])
 all_goals
  rw [hq] at hRP;have E:=jH hRP;have K:=jH KP;clear hRP KP;go_enter func30,ntmps30;go_wp2_with fail;refine (K.out _).mono ?_;rintro e w1 ⟨rfl,hb⟩;have B1:=jH (Aa B0.out hb);clear hb;go_wp2;go_ret;exact ⟨by rw [E.out];rfl,B1.out⟩
theorem Su (k p:Int) (U T:ByteArray) (w:World):Calls prog 135 #[.agg #[.int .i64 k,.string U,.int .i64 p],.string T] w λe w'=>e=.returned (.bool ((k == 2) && (U.toList == T.toList)))/\Below w.heap.size w w':=by
 cases hq:(k == 2)<;>cases ht:(U.toList == T.toList)
 all_goals
  go_enter func135,ntmps135;go_wp2;go_ret;exact ⟨rfl,Ab _ _⟩
theorem Aip (k p:Int) (U:ByteArray) (w:World):Calls prog 137 #[.agg #[.int .i64 k,.string U,.int .i64 p]] w λe w'=>e=.returned (.bool (k == 4 || k == 3))/\Below w.heap.size w w':=by
 cases h4:(k == 4)<;>cases h3:(k == 3)
 all_goals
  go_enter func137,ntmps137;go_wp2;go_ret;exact ⟨rfl,Ab _ _⟩
theorem Ap4 (N:Nat) (v:Value) (l:List Mbx.S) (w:World) (H:Ft N v l w) (hN:N<=w.heap.size) (hl:l.length<=100000) :
  Calls prog 163 #[v,.func (.func 137) #[] #[]] w λe w'=>(∃ z:Int,e=.returned (.int .i64 z)/\decide (0<=z)=l.any Mbx.Bi)/\Below w.heap.size w w':=by
 have eg:∀ args w,(callFunc 137 args).run prog w=.ok (.enter 137 args) w:=enters_of func137 jK rfl;obtain ⟨r,hr⟩:∃ r,r=l.any Mbx.Bi:=⟨_,rfl⟩
 rw [<- hr];have hyes:∀ k (h:k<l.length),Mbx.Bi l[k]=true->r=true:=λk h e=>by rw [hr];exact List.any_eq_true.2 ⟨_,List.getElem_mem h,e⟩
 have hno:(∀ k (h:k<l.length),Mbx.Bi l[k]=false)->r=false:=λh=>by
  rw [hr,List.any_eq_false];intro x hx;obtain ⟨j,hj,rfl⟩:=List.getElem_of_mem hx;rw [h j hj];decide
 have HY:=jH hyes;have HO:=jH hno;clear hr hyes hno;obtain ⟨A,c,rfl,hc,h⟩:=H.flat;rcases Nat.eq_zero_or_pos l.length with h0 | h0
 ·have E:=jH (HO.out λk hk=>by omega);have hz:¬ (0:Int)<(l.length:Int):=jO
  clear h H h0 HY HO hl;generalize l.length=len at *;go_enter func163,ntmps163;go_wp2;go_loopg [5,8] 1 (λgk _ s8 wr=>s8=.int .i64 0/\0<gk/\w=wr)
  case atStart=>exact ⟨rfl,by omega,rfl⟩
  case round =>
   obtain ⟨rfl,hg,rfl⟩:=hrel;go_wp2;go_ret;exact ⟨⟨-1,rfl,by rw [E.out];rfl⟩,jan _ _⟩
 obtain ⟨g,o,rfl,hg,h⟩:=h h0;have HT:=jH (λi hi=>h i hi);have hgw:g<w.heap.size:=jas hg hN;clear h H h0 hg hN;go_enter func163,ntmps163;go_wp2;go_loopg [5,8] (l.length+1) (λgk _ s8 wr=>∃ k:Nat,s8=.int .i64 k/\k<=l.length/\l.length - k<gk/\Hid ((∀ j (h:j<l.length),j<k->Mbx.Bi l[j]=false)/\Below w.heap.size w wr))
 case atStart=>exact ⟨0,rfl,Nat.zero_le _,by omega,jH ⟨λj _ hj=>absurd hj (Nat.not_lt_zero _),jan _ _⟩⟩
 case round =>
  obtain ⟨k,rfl,hk,hg,I⟩:=hrel;by_cases hlt:k<l.length
  ·have hkz:(k:Int)<(l.length:Int):=jO
   obtain ⟨t0,t1,p,t2⟩:=HT.out k hlt;have e:∀ j,wr.cell? ⟨g,j,none⟩=w.cell? ⟨g,j,none⟩:=λj=>I.out.2.cell (p:=⟨g,j,none⟩) hgw;replace t0:=(e _).trans t0;replace t1:=(e _).trans t1;replace t2:=(e _).trans t2;have hyk:=HY.out k hlt;have hst:Mbx.Bi l[k]=false->Hid ((∀ j (h:j<l.length),j<k+1->Mbx.Bi l[j]=false)/\Below w.heap.size w wr):=λhq=>jH ⟨λj h hj=>by
    by_cases e:j=k
    · subst e;exact hq
    · exact I.out.1 j h jO,I.out.2⟩
   obtain ⟨⟨q,u⟩,hq⟩:∃ q,l[k]=q:=⟨_,rfl⟩
   rw [hq] at t0 t1 hyk hst;simp only at t0 t1;obtain ⟨U,hU⟩:∃ U:ByteArray,U=⟨u.toArray⟩:=⟨_,rfl⟩
   rw [<- hU] at t1;have hn:Mbx.Bi (q,u)=(q == 4 || q == 3):=rfl;rw [hn] at hyk hst;have KD:=Aip q p U wr;clear hq hU hn e;cases hb:(q == 4 || q == 3)
   ·rw [hb] at KD;have I2:=hst hb;have KD:=jH KD;clear hyk hst hb;go_wp2_with fail;refine KD.out.mono ?_;rintro e w2 ⟨rfl,hb2⟩;have I3:Hid ((∀ j (h:j<l.length),j<k+1->Mbx.Bi l[j]=false)/\Below w.heap.size w w2):=jH ⟨I2.out.1,Aa I2.out.2 hb2⟩;clear hb2 t0 t1 t2;go_wp2;go_roundg (l.length - k)
    case measure=>omega
    case rel=>exact ⟨k+1,by go_num,by omega,by omega,I3⟩
   ·rw [hb] at KD;have E:=jH (hyk hb);have KD:=jH KD;clear hyk hst hb;go_wp2_with fail;refine KD.out.mono ?_;rintro e w2 ⟨rfl,hb2⟩;have B2:=jH (Aa I.out.2 hb2);clear hb2 t0 t1 t2;go_wp2;go_ret;exact ⟨⟨(k:Int),rfl,by rw [E.out,decide_eq_true_eq];omega⟩,B2.out⟩
  ·obtain rfl:k=l.length:=jO
   have E:=jH (HO.out λj hj=>I.out.1 j hj hj);have hkz:¬ (l.length:Int)<(l.length:Int):=jO
   go_wp2;go_ret;exact ⟨⟨-1,rfl,by rw [E.out];rfl⟩,I.out.2⟩
theorem Abz (N:Nat) (v:Value) (l:List Mbx.S) (w:World) (H:Ft N v l w) (hN:N<=w.heap.size) (hl:l.length<=100000) :
  Calls prog 136 #[v,.func (.func 137) #[] #[]] w λe w'=>e=.returned (.bool (l.any Mbx.Bi))/\Below w.heap.size w w':=by
 have K:=jH (Ap4 N v l w H hN hl);obtain ⟨A,c,rfl,-⟩:=H;generalize l.any Mbx.Bi=r at K ⊢;clear hN hl;go_enter func136,ntmps136;go_wp2_with fail;refine K.out.mono ?_;rintro e w2 ⟨⟨z,rfl,hz⟩,hb⟩;have B2:=jH hb;have HZ:=jH hz;clear hb hz;cases r
 ·have hz:decide (0<=z)=false:=HZ.out;go_wp2;go_ret;exact ⟨rfl,B2.out⟩
 ·have hz:decide (0<=z)=true:=HZ.out;go_wp2;go_ret;exact ⟨rfl,B2.out⟩
end
section
open Go.RowKit Utf
theorem A2d {w:World} {B:Nat} (hB:w.heap.size=B) (b0 b1 b2 b3:Nat) (n:Bool) (x y:ByteArray) {W:World} (hW:W=(w.alloc (.cells #[.slice (some ⟨b0,0,none⟩) 74 74,.slice (some ⟨b1,0,none⟩) 10 10,.slice (some ⟨b2,0,none⟩) 11 11,.slice (some ⟨b3,0,none⟩) 42 42] 35)).alloc (.cells #[.bool n,.string x,.string y] 25)):TAt B b0 b1 b2 b3 W/\PAt (B+1) n x y W/\Below w.heap.size w W/\W.heap.size=B+2:=by
 subst hB;have hs:(w.alloc (.cells #[.slice (some ⟨b0,0,none⟩) 74 74,.slice (some ⟨b1,0,none⟩) 10 10,.slice (some ⟨b2,0,none⟩) 11 11,.slice (some ⟨b3,0,none⟩) 42 42] 35)).heap.size=w.heap.size+1:=by simp
 rw [hW];exact ⟨(TAt.new w b0 b1 b2 b3).Ac (Ab _ _),hs ▸ PAt.new _ _ _ _,Bl _ _ _,by simp⟩
theorem A19 {w:World} {B:Nat} (hB:w.heap.size=B) (b0 b1 b2 b3:Nat) (n m:Bool) (x y u v:ByteArray) {W:World} (hW:W=((w.alloc (.cells #[.slice (some ⟨b0,0,none⟩) 74 74,.slice (some ⟨b1,0,none⟩) 10 10,.slice (some ⟨b2,0,none⟩) 11 11,.slice (some ⟨b3,0,none⟩) 42 42] 35)).alloc (.cells #[.bool n,.string x,.string y] 25)).alloc (.cells #[.bool m,.string u,.string v] 25)):TAt B b0 b1 b2 b3 W/\PAt (B+1) n x y W/\PAt (B+2) m u v W/\Below w.heap.size w W/\W.heap.size=B+3:=by
 obtain ⟨h1,h2,h3,h4⟩:=A2d hB b0 b1 b2 b3 n x y rfl;rw [hW];exact ⟨h1.Ac (Ab _ _),h2.Ac (Ab _ _),h4 ▸ PAt.new _ _ _ _,Aa h3 (Ab _ _),by rw [World.size_alloc,h4]⟩
theorem O6 {x:ByteArray} (h:¬ x.size=0):(x.toList == [])=false:=by
 rw [ByteArray.toList_eq,beq_eq_false_iff_ne];intro e;have hl:x.data.toList.length=x.size:=by simp
 rw [e] at hl;exact h hl.symm
theorem Nw {x:ByteArray} (h:¬ x.size=0):x.data.toList ≠ []:=λe=>by
 have hl:x.data.toList.length=x.size:=by simp
 rw [e] at hl;exact h hl.symm
theorem P8 (t:Value) (n:Bool) (x y:ByteArray) (w:World) (hT:Table w t) (hx:x.size<=100000) (hy:Cx y):Calls prog 36 #[t,.agg #[.bool n,.string x,.string y]] w λe w'=>e=.returned (.int .i64 (Pth.Bo n x.data.toList y.data.toList))/\Below w.heap.size w w':=by
 obtain ⟨R,hR⟩:∃ R,R=Pth.Bo n x.data.toList y.data.toList:=⟨_,rfl⟩
 rw [<- hR];unfold Pth.Bo at hR;have hT0:=hT;obtain ⟨b0,b1,b2,b3,rfl,-,-,-,-⟩:=hT0;obtain ⟨B,hB⟩:∃ B,w.heap.size=B:=⟨_,rfl⟩
 obtain ⟨W0,hW0⟩:∃ W0,W0=(w.alloc (.cells #[.slice (some ⟨b0,0,none⟩) 74 74,.slice (some ⟨b1,0,none⟩) 10 10,.slice (some ⟨b2,0,none⟩) 11 11,.slice (some ⟨b3,0,none⟩) 42 42] 35)).alloc (.cells #[.bool n,.string x,.string y] 25):=⟨_,rfl⟩
 obtain ⟨T0,P0,B0,-⟩:=A2d hB b0 b1 b2 b3 n x y hW0;have HW0:=jH hW0.symm;have KM:=λW=>Yz n x y W hx;have KR:=jH (λW (h:Below w.heap.size w W)=>Api _ x y W (hT.below h) hx hy);clear hT hy hW0;cases n
 case true =>
  rw [if_pos rfl] at hR;have BB:=jH B0;clear KM KR T0 P0 B0;by_cases hx0:x.size=0
  ·obtain rfl:x=⟨#[]⟩:=ByteArray.ext (Array.eq_empty_of_size_eq_zero hx0);by_cases hy0:y.size=0
   ·obtain rfl:y=⟨#[]⟩:=ByteArray.ext (Array.eq_empty_of_size_eq_zero hy0);have E:=jH (show R=0 by rw [hR];rfl);clear hR hx hx0 hy0;go_enter func36,ntmps36;go_wp2;rw [HW0.out];go_ret;exact ⟨by rw [E.out];rfl,BB.out⟩
   ·have e2:=O6 hy0;have E:=jH (show R=1 by rw [hR,if_neg (λh=>Nw hy0 h.2)]);clear hR hx hx0 hy0;go_enter func36,ntmps36;go_wp2;rw [HW0.out];go_ret;exact ⟨by rw [E.out];rfl,BB.out⟩
  ·have e1:=O6 hx0;have E:=jH (show R=1 by rw [hR,if_neg (λh=>Nw hx0 h.1)]);by_cases hy0:y.size=0
   ·obtain rfl:y=⟨#[]⟩:=ByteArray.ext (Array.eq_empty_of_size_eq_zero hy0);clear hR hx hx0 hy0;go_enter func36,ntmps36;go_wp2;rw [HW0.out];go_ret;exact ⟨by rw [E.out];rfl,BB.out⟩
   ·have e2:=O6 hy0;clear hR hx hx0 hy0;go_enter func36,ntmps36;go_wp2;rw [HW0.out];go_ret;exact ⟨by rw [E.out];rfl,BB.out⟩
 rw [if_neg jD] at hR;generalize Pth.Eg false x.data.toList y.data.toList=m at KM hR;generalize Mbx.Ga x.data.toList y.data.toList=G at KR hR;have TT:=jH T0;have PP:=jH P0;have BB:=jH B0;have KM:=jH KM;clear T0 P0 B0 hx;cases m
 ·have E:=jH (show R=G by rw [hR,if_neg jD]);clear hR;go_enter func36,ntmps36;go_wp2_with fail;rw [HW0.out];refine (KM.out _).mono ?_;rintro e w1 ⟨rfl,hb⟩;replace TT:=jH (TT.out.Ac hb);replace PP:=jH (PP.out.Ac hb);replace BB:=jH (Aa BB.out hb);clear hb;obtain ⟨t0,t1,t2,t3⟩:=TT.out.all;obtain ⟨p0,p1,p2⟩:=PP.out.all;go_wp2_with fail;refine (KR.out _ BB.out).mono ?_;rintro e w2 ⟨rfl,hb⟩;replace TT:=jH (TT.out.Ac hb);replace PP:=jH (PP.out.Ac hb);replace BB:=jH (Aa BB.out hb);clear hb;clear t0 t1 t2 t3 p0 p1 p2;obtain ⟨t0,t1,t2,t3⟩:=TT.out.all;obtain ⟨p0,p1,p2⟩:=PP.out.all;go_wp2;go_ret;exact ⟨by rw [E.out];rfl,BB.out⟩
 ·have E:=jH (show R=0 by rw [hR,if_pos rfl]);clear hR;go_enter func36,ntmps36;go_wp2_with fail;rw [HW0.out];refine (KM.out _).mono ?_;rintro e w1 ⟨rfl,hb⟩;replace TT:=jH (TT.out.Ac hb);replace PP:=jH (PP.out.Ac hb);replace BB:=jH (Aa BB.out hb);clear hb;obtain ⟨t0,t1,t2,t3⟩:=TT.out.all;obtain ⟨p0,p1,p2⟩:=PP.out.all;go_wp2;go_ret;exact ⟨by rw [E.out];rfl,BB.out⟩
theorem Abw (n:Bool) (x y:ByteArray) (w:World) (hx:x.size<=10000) (hy:y.size<=100000):Calls prog 20 #[.agg #[.bool n,.string x,.string y]] w λe w'=>e=.returned (.string ⟨(Pth.A9 n x.data.toList y.data.toList).toArray⟩)/\Below w.heap.size w w':=by
 obtain ⟨S,hS⟩:∃ S:ByteArray,S=⟨(Pth.Qb n x.data.toList y.data.toList).toArray⟩:=⟨_,rfl⟩
 obtain ⟨T1,hT1⟩:∃ T:ByteArray,T=(⟨#[60]⟩:ByteArray) ++ S:=⟨_,rfl⟩
 obtain ⟨T2,hT2⟩:∃ T:ByteArray,T=T1 ++ (⟨#[62]⟩:ByteArray):=⟨_,rfl⟩
 have hSs:S.size<=200000:=by
  rw [hS];show (Pth.Qb n x.data.toList y.data.toList).toArray.size<=_;rw [List.size_toArray];have hxl:x.data.toList.length=x.size:=by simp
  have hyl:y.data.toList.length=y.size:=by simp
  have:=Mbx.Pe x.data.toList;unfold Pth.Qb Mbx.Fq;split
  ·simp
  ·split
   · omega
   · rw [jab,jac];omega
 have a1:∀ W,(Op.stringOp .add ⟨#[60]⟩ S).run prog W=.ok (.string T1) W:=λW=>by rw [hT1];exact run_string_add_sum W _ _ (by show 1+S.size<=_;omega)
 have s1:T1.size=1+S.size:=by rw [hT1,ByteArray.size_append];rfl
 have a2:∀ W,(Op.stringOp .add T1 ⟨#[62]⟩).run prog W=.ok (.string T2) W:=λW=>by rw [hT2];exact run_string_add_sum W _ _ (by rw [s1];show 1+S.size+1<=_;omega)
 have E:=jH (show (⟨(Pth.A9 n x.data.toList y.data.toList).toArray⟩:ByteArray)=T2 by
  rw [hT2,hT1,hS];apply ByteArray.ext;unfold Pth.A9;simp [ByteArray.data_append])
 rw [E.out];unfold Pth.Qb at hS;have KM:=λW=>Yz n x y W jO;have KP:=jH (λW=>Ava x y W hx hy rfl);obtain ⟨B,hB⟩:∃ B,w.heap.size=B:=⟨_,rfl⟩
 obtain ⟨W0,hW0⟩:∃ W0,W0=w.alloc (.cells #[.bool n,.string x,.string y] 25):=⟨_,rfl⟩
 have P0:PAt B n x y W0:=by rw [hW0,<- hB];exact PAt.new _ _ _ _
 have B0:Below w.heap.size w W0:=by rw [hW0];exact Ab _ _
 have HW0:=jH hW0.symm;clear hT1 hT2 hSs s1 E hW0;cases n
 case true =>
  rw [if_pos rfl] at hS;obtain rfl:S=⟨#[]⟩:=hS;have BB:=jH B0;clear KM KP P0 B0 hx hy;go_enter func20,ntmps20;go_wp2;go_ret;exact ⟨rfl,by first | exact BB.out | (rw [HW0.out];exact BB.out)⟩
 rw [if_neg jD] at hS;have PP:=jH P0;have BB:=jH B0;clear P0 B0 hx hy;cases hm:Pth.Eg false x.data.toList y.data.toList
 ·rw [hm,if_neg jD] at hS;rw [hm] at KM;have KM:=jH KM;have HS:=jH hS.symm;clear hS hm;go_enter func20,ntmps20;go_wp2_with fail;rw [HW0.out];refine (KM.out _).mono ?_;rintro e w1 ⟨rfl,hb⟩;replace PP:=jH (PP.out.Ac hb);replace BB:=jH (Aa BB.out hb);clear hb;obtain ⟨p0,p1,p2⟩:=PP.out.all;go_wp2_with fail;refine (KP.out _).mono ?_;rintro e w2 ⟨rfl,hb⟩;replace PP:=jH (PP.out.Ac hb);replace BB:=jH (Aa BB.out hb);clear hb;clear p0 p1 p2;obtain ⟨p0,p1,p2⟩:=PP.out.all;rw [HS.out];go_wp2;go_ret;exact ⟨rfl,BB.out⟩
 ·rw [hm,if_pos rfl] at hS;rw [hm] at KM;have KM:=jH KM;obtain rfl:S=x:=hS;clear hm;go_enter func20,ntmps20;go_wp2_with fail;rw [HW0.out];refine (KM.out _).mono ?_;rintro e w1 ⟨rfl,hb⟩;replace PP:=jH (PP.out.Ac hb);replace BB:=jH (Aa BB.out hb);clear hb;obtain ⟨p0,p1,p2⟩:=PP.out.all;go_wp2;go_ret;exact ⟨rfl,BB.out⟩
end
section
open Go.RowKit Utf
namespace Pth
open Mbx (S)
theorem Ahi {l:List S} (h:Mbx.isS l 0 [60]=false):within l=false:=by unfold within;rw [h];simp
theorem Al8 {l:List S} (h:Mbx.isS l (l.length - 1) [62]=false):within l=false:=by unfold within;rw [h];simp
theorem Aqg {l:List S} (h:l.length<2):within l=false:=by unfold within;rw [decide_eq_false jO];rfl
theorem Al9 {l:List S} (h1:2<=l.length) (h2:Mbx.isS l 0 [60]=true) (h3:Mbx.isS l (l.length - 1) [62]=true):within l=!(mid l).any Mbx.Bi:=by unfold within;rw [h2,h3,decide_eq_true h1];rfl
theorem Ars {l:List S} (h:2<=l.length):(mid l).length=l.length - 2:=by unfold mid;rw [jak,jaj];omega
theorem A6a {l:List S} {i:Nat} (h:i<(mid l).length):∃ h2:i+1<l.length,(mid l)[i]=l[i+1]:=by
 have h0:i<l.length - 2:=by
  have h1:=h;unfold mid at h1;rw [jak,jaj] at h1;omega
 have e:(mid l)[i]? = l[i+1]?:=by
  unfold mid;rw [List.getElem?_take,if_pos h0,List.getElem?_drop,Nat.add_comm]
 rw [List.getElem?_eq_getElem h,List.getElem?_eq_getElem (show i+1<l.length by omega)] at e;exact ⟨by omega,Option.some.inj e⟩
theorem A34 {l:List S} (F:Few l):Few (mid l):=⟨by unfold mid;rw [jak,jaj];have:=F.len;omega,λk hk=>F.text k (List.mem_of_mem_drop (List.mem_of_mem_take hk))⟩
theorem Azh {l:List S} {i:Nat} (h:i<l.length) {q:Int} {U T:ByteArray} (h1:l[i].1=q) (h2:(⟨l[i].2.toArray⟩:ByteArray)=U):Mbx.isS l i T.data.toList=((q == 2) && (U.toList == T.toList)):=by
 unfold Mbx.isS;rw [List.getElem?_eq_getElem h,ByteArray.toList_eq,ByteArray.toList_eq,<- h1,<- h2];obtain ⟨k,u⟩:=l[i];by_cases e:k=2<;>by_cases f:u=T.data.toList<;>simp [e,f]
end Pth
def Xs (N:Nat) (l:List Mbx.S) (w:World) (e:Ending) (w':World):Prop :=
 ∃ v,e=.returned (.tuple #[v,.bool (Pth.within l)])/\(Pth.within l=true->Ft N v (Pth.mid l) w')/\Below w.heap.size w w'
theorem Aqf (N:Nat) (v:Value) (l:List Mbx.S) (w:World) (H:Ft N v l w) (hN:N<=w.heap.size) (F:Few l) :
  Calls prog 106 #[v] w (Xs N l w):=by
 have hl:=F.len;obtain ⟨A,c,rfl,hc,h⟩:=H.flat;by_cases h2:2<=l.length
 case neg =>
  have hz:(l.length:Int) - 1<1:=jO
  have E:=jH (Pth.Aqg jO:Pth.within l=false);clear h H F hc h2 hN;go_enter func106,ntmps106;go_wp2;go_ret2;exact ⟨_,by rw [E.out];rfl,λh=>absurd (h.symm.trans E.out) jD,jan _ _⟩
 obtain ⟨m,hm⟩:∃ m,l.length=m+1:=⟨l.length - 1,by omega⟩
 have hmz:(l.length:Int) - 1=(m:Int):=jO
 have hm1:¬ (m:Int)<1:=jO
 have hm2:(m:Int)<(l.length:Int):=jO
 have hm3:(1:Int)<=(m:Int):=jO
 have hlc:(l.length:Int)<=(c:Int):=jO
 obtain ⟨g,o,rfl,hg,h⟩:=h jO;have hgw:g<w.heap.size:=jas hg hN;have hs00:=h 0 jO;rw [show o+0*3=o by omega] at hs00;obtain ⟨s0,s1,pa,s2⟩:=hs00;obtain ⟨e0,e1,pz,e2⟩:=h m jO;have HM:Ft N (.slice (some ⟨g,o+3,none⟩) (m - 1) (c - 1)) (Pth.mid l) w:=by
  have hml:=Pth.Ars h2;refine ⟨some ⟨g,o+3,none⟩,c - 1,by rw [hml,show l.length - 2=m - 1 by omega],by omega,λi hi=>?_⟩;obtain ⟨hi2,e⟩:=Pth.A6a hi;have:=h (i+1) hi2;rw [e];exact ⟨g,o+3,rfl,hg,by rw [show o+3+i*3=o+(i+1)*3 by omega];exact this⟩
 have hwr:=Pth.Al9 h2 (l:=l);have hwf:=Pth.Ahi (l:=l);have hwl:=Pth.Al8 (l:=l);rw [show l.length - 1=m by omega] at hwr hwl;obtain ⟨U,hU⟩:∃ U:ByteArray,(⟨l[0].2.toArray⟩:ByteArray)=U:=⟨_,rfl⟩
 obtain ⟨V,hV⟩:∃ V:ByteArray,(⟨l[m].2.toArray⟩:ByteArray)=V:=⟨_,rfl⟩
 obtain ⟨q,hq⟩:∃ q,l[0].1=q:=⟨_,rfl⟩
 obtain ⟨r,hr⟩:∃ r,l[m].1=r:=⟨_,rfl⟩
 have i0:Mbx.isS l 0 [60]=_:=Pth.Azh (T:=⟨#[60]⟩) jO hq hU;have i1:Mbx.isS l m [62]=_:=Pth.Azh (T:=⟨#[62]⟩) jO hr hV;rw [hq] at s0;rw [hr] at e0;rw [hU] at s1;rw [hV] at e1;have KA:=λW=>Su q pa U ⟨#[60]⟩ W;have KZ:=λW=>Su r pz V ⟨#[62]⟩ W;rw [<- i0] at KA;rw [<- i1] at KZ;have KC:=λW (hb:Below w.heap.size w W)=>Abz N _ (Pth.mid l) W (HM.Ac λk hk=>hb.block k (jas hk hN)) (Nat.le_trans hN hb.size) (by rw [Pth.Ars h2];omega);have HMK:=jH (λW (hb:Below w.heap.size w W)=>HM.Ac λk hk=>hb.block k (jas hk hN));have hkeep:∀ W (hb:Below w.heap.size w W) j,W.cell? ⟨g,j,none⟩=w.cell? ⟨g,j,none⟩:=λW hb j=>hb.cell (p:=⟨g,j,none⟩) hgw;have HK:=jH hkeep;clear hU hV hq hr i0 i1 h H F hN hg hc HM hkeep hgw;cases b0:Mbx.isS l 0 [60]
 ·rw [b0] at KA;have E:=jH (hwf b0);have KA:=jH KA;clear hwr hwf hwl KZ KC b0 hm h2;go_enter func106,ntmps106;go_wp2_with fail;refine (KA.out _).mono ?_;rintro e w1 ⟨rfl,hb⟩;have B1:=jH hb;clear hb;go_wp2;go_ret2;exact ⟨_,by rw [E.out];rfl,λh=>absurd (h.symm.trans E.out) jD,B1.out⟩
 rw [b0] at KA;have KA:=jH KA;cases b1:Mbx.isS l m [62]
 ·rw [b1] at KZ;have E:=jH (hwl b1);have KZ:=jH KZ;clear hwr hwf hwl KC b0 b1 hm h2;go_enter func106,ntmps106;go_wp2_with fail;refine (KA.out _).mono ?_;rintro e w1 ⟨rfl,hb⟩;have B1:=jH hb;have e0':=(HK.out _ hb _).trans e0;have e1':=(HK.out _ hb _).trans e1;have e2':=(HK.out _ hb _).trans e2;clear hb s0 s1 s2 e0 e1 e2;go_wp2_with fail;refine (KZ.out _).mono ?_;rintro e w2 ⟨rfl,hb⟩;have B2:=jH (Aa B1.out hb);clear hb;go_wp2;go_ret2;exact ⟨_,by rw [E.out];rfl,λh=>absurd (h.symm.trans E.out) jD,B2.out⟩
 rw [b1] at KZ;have KZ:=jH KZ;have hE:=hwr b0 b1;generalize hx:(Pth.mid l).any Mbx.Bi=x at KC hE;have E:=jH hE;have KC:=jH KC;clear hwr hwf hwl b0 b1 hm h2 hE hx;cases x
 all_goals
  go_enter func106,ntmps106;go_wp2_with fail;refine (KA.out _).mono ?_;rintro e w1 ⟨rfl,hb⟩;have B1:=jH hb;have e0':=(HK.out _ hb _).trans e0;have e1':=(HK.out _ hb _).trans e1;have e2':=(HK.out _ hb _).trans e2;clear hb s0 s1 s2 e0 e1 e2;go_wp2_with fail;refine (KZ.out _).mono ?_;rintro e w2 ⟨rfl,hb⟩;have B2:=jH (Aa B1.out hb);clear hb e0' e1' e2';go_wp2_with fail;refine (KC.out _ B2.out).mono ?_;rintro e w3 ⟨rfl,hb⟩;have B3:=jH (Aa B2.out hb);clear hb;go_wp2;go_ret2
  first
   | exact ⟨_,(by rw [E.out];rfl),λ_=>HMK.out _ B3.out,B3.out⟩
   | exact ⟨.slice none 0 0,(by rw [E.out];rfl),λh=>absurd (h.symm.trans E.out) jD,B3.out⟩
def Xp (l:List Mbx.S) (w:World) (e:Ending) (w':World):Prop :=
 (∃ (n:Bool) (x y:ByteArray),e=.returned (.tuple #[.agg #[.bool n,.string x,.string y],.bool (Pth.Eh l).isSome])/\(∀ p,Pth.Eh l=some p->n=p.1/\x=⟨p.2.1.toArray⟩/\y=⟨p.2.2.toArray⟩))/\Below w.heap.size w w'
theorem Ape (N:Nat) (v:Value) (l:List Mbx.S) (w:World) (H:Ft N v l w) (hN:N<=w.heap.size) (F:Few l) :
  Calls prog 107 #[v] w (Xp l w):=by
 have hl:=F.len;obtain ⟨B,hB⟩:∃ B,w.heap.size=B:=⟨_,rfl⟩
 obtain ⟨W0,hW0⟩:∃ W0,W0=w.alloc (.cells #[.bool false,.string ⟨#[]⟩,.string ⟨#[]⟩] 25):=⟨_,rfl⟩
 have R0:PAt B false ⟨#[]⟩ ⟨#[]⟩ W0:=by rw [hW0,<- hB];exact PAt.new _ _ _ _
 have B0:Below w.heap.size w W0:=by rw [hW0];exact Ab _ _
 have hs0:W0.heap.size=B+1:=by rw [hW0,World.size_alloc,hB]
 have KT:=λW (hb:Below w.heap.size w W)=>A16 v l W ((H.Ac λk hk=>hb.block k (jas hk hN)).up (Nat.le_trans hN hb.size)) F;obtain ⟨T,hT⟩:∃ T,Mbx.take l=T:=⟨_,rfl⟩
 rw [hT] at KT;obtain ⟨A,c,rfl,hc,h⟩:=H.flat;have HW0:=jH hW0.symm;have hu:Pth.Eh l=if l.length=0 then some (true,[],[]) else if l.length=1/\(l.headD (0,[])).1=0 then (if Pth.Eg false (l.headD (0,[])).2 []=true then some (false,(l.headD (0,[])).2,[]) else none) else match T with
  | none=>none
  | some (x,y,n)=>if n=l.length then some (false,x,y) else none:=by unfold Pth.Eh;rw [hT];rfl
 obtain ⟨S,hS⟩:∃ S,Pth.Eh l=S:=⟨_,rfl⟩
 unfold Xp;rw [hS] at hu ⊢;clear hS hW0 H hT;by_cases h0:l.length=0
 ·rw [if_pos h0] at hu;have E:=jH hu;have hz:(l.length:Int)=0:=jO
  have RR:=jH R0;have BB:=jH B0;obtain ⟨r0,r1,r2⟩:=RR.out.all;obtain ⟨f0,f1,f2⟩:=RR.out.fr;clear h hu KT h0 F hN R0 B0;go_enter func107,ntmps107;go_upto_region 1 with (fail)
  rw [HW0.out];go_wp2;refine bodyPost_ret (v:=.tuple #[.agg #[.bool true,.string ⟨#[]⟩,.string ⟨#[]⟩],.bool true]) (by simp [results,results107,go_sem,r0,r1,r2]) rfl ⟨⟨true,_,_,by rw [E.out];rfl,λp hp=>?_⟩,?_⟩
  ·rw [E.out] at hp;injection hp with hp
   subst hp;exact ⟨rfl,rfl,rfl⟩
  ·exact Cf (C:=B) BB.out jO _ _ _
 rw [if_neg h0] at hu;have e0:((l.length:Int) == 0)=false:=by simpa using (by omega:¬ (l.length:Int)=0)
 have hpos:(0:Int)<(l.length:Int):=jO
 obtain ⟨g,o,rfl,hg,h⟩:=h jO;have hgw:g<w.heap.size:=jas hg hN;have hs00:=h 0 jO;rw [show o+0*3=o by omega] at hs00;obtain ⟨s0,s1,-⟩:=hs00;have hhd:l.headD (0,[])=l[0]:=by cases l with | nil=>exact absurd rfl h0 | cons a b=>rfl
 rw [hhd] at hu;have hb100:=F.at (show 0<l.length by omega);obtain ⟨⟨q,u⟩,hq⟩:∃ p,l[0]=p:=⟨_,rfl⟩
 rw [hq] at hu s0 s1 hb100;simp only at hu s0 s1 hb100;obtain ⟨U,hU⟩:∃ U:ByteArray,U=⟨u.toArray⟩:=⟨_,rfl⟩
 have hUu:U.data.toList=u:=by rw [hU]
 rw [<- hU] at s1;rw [<- hUu] at hu;have hUs:U.size<=100000:=by rw [hU];show u.toArray.size<=_;rw [List.size_toArray];exact hb100
 have c0:W0.cell? ⟨g,o,none⟩=some (.int .i64 q):=(B0.cell (p:=⟨g,o,none⟩) hgw).trans s0;have c1:W0.cell? ⟨g,o+1,none⟩=some (.string U):=(B0.cell (p:=⟨g,o+1,none⟩) hgw).trans s1;have HUU:=jH (show (⟨u.toArray⟩:ByteArray)=U from hU.symm);clear hhd hq h hU hUu hb100 s0 s1 hg hgw h0 F hN;by_cases h1:l.length=1
 ·have e1:((l.length:Int) == 1)=true:=by simpa using (by omega:(l.length:Int)=1)
  by_cases hk:q=0
  ·rw [if_pos ⟨h1,hk⟩] at hu;have ek:(q == 0)=true:=by simpa using hk
   have KM:=λW=>Yz false U ⟨#[]⟩ W hUs;change ∀ W,Calls _ _ _ W λe w'=>e=.returned (.bool (Pth.Eg false U.data.toList []))/\_ at KM;generalize Pth.Eg false U.data.toList []=m at KM hu;have HU:=jH hu;have KM:=jH KM;have RR:=jH R0;have BB:=jH B0;obtain ⟨W1,hW1⟩:∃ W1,W1=W0.alloc (.cells #[.bool false,.string U,.string ⟨#[]⟩] 25):=⟨_,rfl⟩
   have P1:Hid (PAt (B+1) false U ⟨#[]⟩ W1):=jH (by rw [hW1,<- hs0];exact PAt.new _ _ _ _);have R1:Hid (PAt B false ⟨#[]⟩ ⟨#[]⟩ W1):=jH (by rw [hW1];exact RR.out.Ac (Ab _ _));have B1:Hid (Below w.heap.size w W1):=jH (by rw [hW1];exact Aa BB.out (Ab _ _));have HW1:=jH hW1.symm;clear KT hu h1 hk hW1 R0 B0 RR BB;go_enter func107,ntmps107;go_upto_region 1 with (fail)
   rw [HW0.out];go_upto_region 5 with (fail)
   rw [HW1.out];obtain ⟨d0,d1,d2⟩:=P1.out.all;clear c0 c1;go_region_held3 (λw'=>w'.cell? ⟨B+1,0,none⟩=some (.bool false)/\w'.cell? ⟨B+1,1,none⟩=some (.string U)/\w'.cell? ⟨B+1,2,none⟩=some (.string ⟨#[]⟩)) (first | go_keep | exact (((P2.out.other (show B+1 ≠ B by omega) 0 (.bool false)).other (show B+1 ≠ B by omega) 1 (.string U)).other (show B+1 ≠ B by omega) 2 (.string ⟨#[]⟩)).all) ((go_at_call 30;(with_reducible refine (KM.out _).mono ?_);rintro e w2 ⟨rfl,hb⟩;have hb:=Ag hb;have P2:=jH (P1.out.Ac hb);have R2:=jH (R1.out.Ac hb);have B2:=jH (Aa B1.out hb);obtain ⟨g0,g1,g2⟩:=P2.out.all;obtain ⟨r0,r1,r2⟩:=R2.out.all;obtain ⟨f0,f1,f2⟩:=R2.out.fr;clear hb))
   all_goals
    go_wp2;refine bodyPost_ret (v:=.tuple #[.agg #[.bool false,.string U,.string ⟨#[]⟩],.bool m]) (by simp [results,results107,go_sem,r0,r1,r2]) rfl ⟨⟨false,_,_,by rw [HU.out];cases m<;>rfl,λp hp=>?_⟩,?_⟩
    ·rw [HU.out] at hp;cases m
     ·rw [if_neg jD] at hp;cases hp
     ·rw [if_pos rfl] at hp;injection hp with hp
      subst hp;exact ⟨rfl,rfl,rfl⟩
    ·exact Cf (C:=B) B2.out jO _ _ _
  ·rw [if_neg (λh=>hk h.2)] at hu;have ek:(q == 0)=false:=by simpa using hk
   clear hk h1;have RR:=jH R0;have BB:=jH B0;clear R0 B0 hs0;cases T with
   | none =>
    replace hu:S=none:=hu;have HU:=jH hu;rw [Mbx.Aau] at KT;have KT:=jH KT;clear hu;go_enter func107,ntmps107;go_upto_region 1 with (fail)
    rw [HW0.out];go_wp2_with fail;with_reducible refine (KT.out _ BB.out).mono ?_
    rintro e w1 ⟨rfl,hb⟩;have R2:=jH ((RR.out.Ac hb).Ac (Ab w1 (.cells #[.string ⟨#[]⟩,.string ⟨#[]⟩] 23)));have B2:=jH (Aa (Aa BB.out hb) (Ab w1 (.cells #[.string ⟨#[]⟩,.string ⟨#[]⟩] 23)));obtain ⟨r0,r1,r2⟩:=R2.out.all;obtain ⟨f0,f1,f2⟩:=R2.out.fr;clear hb c0 c1;go_wp2;refine bodyPost_ret (v:=.tuple #[.agg #[.bool false,.string ⟨#[]⟩,.string ⟨#[]⟩],.bool false]) (by simp [results,results107,go_sem,r0,r1,r2]) rfl ⟨⟨false,_,_,by rw [HU.out];rfl,λp hp=>by rw [HU.out] at hp;cases hp⟩,?_⟩;exact Cf (C:=B) B2.out jO _ _ _
   | some tr =>
    obtain ⟨x,y,k⟩:=tr;replace hu:S=if k=l.length then some (false,x,y) else none:=hu;rw [Mbx.Aav] at KT;have HU:=jH hu;have KT:=jH KT;obtain ⟨X,hX⟩:∃ X:ByteArray,X=⟨x.toArray⟩:=⟨_,rfl⟩
    obtain ⟨Y,hY⟩:∃ Y:ByteArray,Y=⟨y.toArray⟩:=⟨_,rfl⟩
    rw [<- hX,<- hY] at KT;have HX:=jH hX;have HY:=jH hY;clear hu hX hY;cases hk:((k:Int) == (l.length:Int))
    all_goals
     have HKK:=jH hk;go_enter func107,ntmps107;go_upto_region 1 with (fail)
     rw [HW0.out];go_wp2_with fail;with_reducible refine (KT.out _ BB.out).mono ?_
     rintro e w1 ⟨rfl,hb⟩;have R2:=jH ((RR.out.Ac hb).Ac (Ab w1 (.cells #[.string X,.string Y] 23)));have B2:=jH (Aa (Aa BB.out hb) (Ab w1 (.cells #[.string X,.string Y] 23)));obtain ⟨r0,r1,r2⟩:=R2.out.all;obtain ⟨f0,f1,f2⟩:=R2.out.fr;clear hb c0 c1;go_wp2
     first
      | refine bodyPost_ret (v:=.tuple #[.agg #[.bool false,.string X,.string Y],.bool false]) (by simp [results,results107,go_sem,r0,r1,r2]) rfl ⟨⟨false,_,_,by rw [HU.out,if_neg (by have:=HKK.out;simp at this;omega)];rfl,λp hp=>?_⟩,?_⟩
      | refine bodyPost_ret (v:=.tuple #[.agg #[.bool false,.string X,.string Y],.bool true]) (by simp [results,results107,go_sem,r0,r1,r2]) rfl ⟨⟨false,_,_,by rw [HU.out,if_pos (by have:=HKK.out;simp at this;omega)];rfl,λp hp=>?_⟩,?_⟩
     ·rw [HU.out] at hp;split at hp
      ·injection hp with hp
       subst hp;exact ⟨rfl,HX.out,HY.out⟩
      ·cases hp
     ·exact Cf (C:=B) B2.out jO _ _ _
 ·rw [if_neg (λh=>h1 h.1)] at hu;have e1:((l.length:Int) == 1)=false:=by simpa using (by omega:¬ (l.length:Int)=1)
  clear h1;have RR:=jH R0;have BB:=jH B0;clear R0 B0 hs0;cases T with
  | none =>
   replace hu:S=none:=hu;have HU:=jH hu;rw [Mbx.Aau] at KT;have KT:=jH KT;clear hu;go_enter func107,ntmps107;go_upto_region 1 with (fail)
   rw [HW0.out];go_wp2_with fail;with_reducible refine (KT.out _ BB.out).mono ?_
   rintro e w1 ⟨rfl,hb⟩;have R2:=jH ((RR.out.Ac hb).Ac (Ab w1 (.cells #[.string ⟨#[]⟩,.string ⟨#[]⟩] 23)));have B2:=jH (Aa (Aa BB.out hb) (Ab w1 (.cells #[.string ⟨#[]⟩,.string ⟨#[]⟩] 23)));obtain ⟨r0,r1,r2⟩:=R2.out.all;obtain ⟨f0,f1,f2⟩:=R2.out.fr;clear hb c0 c1;go_wp2;refine bodyPost_ret (v:=.tuple #[.agg #[.bool false,.string ⟨#[]⟩,.string ⟨#[]⟩],.bool false]) (by simp [results,results107,go_sem,r0,r1,r2]) rfl ⟨⟨false,_,_,by rw [HU.out];rfl,λp hp=>by rw [HU.out] at hp;cases hp⟩,?_⟩;exact Cf (C:=B) B2.out jO _ _ _
  | some tr =>
   obtain ⟨x,y,k⟩:=tr;replace hu:S=if k=l.length then some (false,x,y) else none:=hu;rw [Mbx.Aav] at KT;have HU:=jH hu;have KT:=jH KT;obtain ⟨X,hX⟩:∃ X:ByteArray,X=⟨x.toArray⟩:=⟨_,rfl⟩
   obtain ⟨Y,hY⟩:∃ Y:ByteArray,Y=⟨y.toArray⟩:=⟨_,rfl⟩
   rw [<- hX,<- hY] at KT;have HX:=jH hX;have HY:=jH hY;clear hu hX hY;cases hk:((k:Int) == (l.length:Int))
   all_goals
    have HKK:=jH hk;go_enter func107,ntmps107;go_upto_region 1 with (fail)
    rw [HW0.out];go_wp2_with fail;with_reducible refine (KT.out _ BB.out).mono ?_
    rintro e w1 ⟨rfl,hb⟩;have R2:=jH ((RR.out.Ac hb).Ac (Ab w1 (.cells #[.string X,.string Y] 23)));have B2:=jH (Aa (Aa BB.out hb) (Ab w1 (.cells #[.string X,.string Y] 23)));obtain ⟨r0,r1,r2⟩:=R2.out.all;obtain ⟨f0,f1,f2⟩:=R2.out.fr;clear hb c0 c1;go_wp2
    first
     | refine bodyPost_ret (v:=.tuple #[.agg #[.bool false,.string X,.string Y],.bool false]) (by simp [results,results107,go_sem,r0,r1,r2]) rfl ⟨⟨false,_,_,by rw [HU.out,if_neg (by have:=HKK.out;simp at this;omega)];rfl,λp hp=>?_⟩,?_⟩
     | refine bodyPost_ret (v:=.tuple #[.agg #[.bool false,.string X,.string Y],.bool true]) (by simp [results,results107,go_sem,r0,r1,r2]) rfl ⟨⟨false,_,_,by rw [HU.out,if_pos (by have:=HKK.out;simp at this;omega)];rfl,λp hp=>?_⟩,?_⟩
    ·rw [HU.out] at hp;split at hp
     ·injection hp with hp
      subst hp;exact ⟨rfl,HX.out,HY.out⟩
     ·cases hp
    ·exact Cf (C:=B) B2.out jO _ _ _
end
section
open Go.RowKit Utf
structure Axl (B b0 b1 b2 b3:Nat) (n:Bool) (x y:ByteArray) (k:Bool) (u v:ByteArray) (W:World):Prop where
 t:TAt B b0 b1 b2 b3 W
 p:PAt (B+1) n x y W
 q:PAt (B+2) k u v W
theorem Axl.all {B b0 b1 b2 b3:Nat} {n k:Bool} {x y u v:ByteArray} {W:World} (h:Axl B b0 b1 b2 b3 n x y k u v W):W.cell? ⟨B,0,none⟩=some (.slice (some ⟨b0,0,none⟩) 74 74)/\W.cell? ⟨B,1,none⟩=some (.slice (some ⟨b1,0,none⟩) 10 10)/\W.cell? ⟨B,2,none⟩=some (.slice (some ⟨b2,0,none⟩) 11 11)/\W.cell? ⟨B,3,none⟩=some (.slice (some ⟨b3,0,none⟩) 42 42)/\W.cell? ⟨B+1,0,none⟩=some (.bool n)/\W.cell? ⟨B+1,1,none⟩=some (.string x)/\W.cell? ⟨B+1,2,none⟩=some (.string y)/\W.cell? ⟨B+2,0,none⟩=some (.bool k)/\W.cell? ⟨B+2,1,none⟩=some (.string u)/\W.cell? ⟨B+2,2,none⟩=some (.string v) :=
 ⟨h.t.all.1,h.t.all.2.1,h.t.all.2.2.1,h.t.all.2.2.2,h.p.all.1,h.p.all.2.1,h.p.all.2.2,h.q.all.1,h.q.all.2.1,h.q.all.2.2⟩
end
section
open Go.RowKit Utf
theorem Abv (t:Value) (s:ByteArray) (w:World) (hT:Table w t) (hs:s.size<=100000)
  (hf:∀ ts n x y,Lex.Ee s.data.toList=(0,0,ts)->Pth.Eh (Pth.mid (ts.map Lex.Fi))=some (n,x,y)->x.length<=100000/\Cx ⟨y.toArray⟩)
  {E:Int} {n:Bool} {x y:List UInt8} (hp:Pth.Bc s.data.toList=(E,n,x,y)):Calls prog 79 #[t,.string s] w λe w'=>e=.returned (.tuple #[.agg #[.bool n,.string ⟨x.toArray⟩,.string ⟨y.toArray⟩],.int .i64 E])/\Below w.heap.size w w':=by
 have hT0:=hT;obtain ⟨b0,b1,b2,b3,rfl,-,-,-,-⟩:=hT0;obtain ⟨B,hB⟩:∃ B,w.heap.size=B:=⟨_,rfl⟩
 obtain ⟨W0,hW0⟩:∃ W0,W0=((w.alloc (.cells #[.slice (some ⟨b0,0,none⟩) 74 74,.slice (some ⟨b1,0,none⟩) 10 10,.slice (some ⟨b2,0,none⟩) 11 11,.slice (some ⟨b3,0,none⟩) 42 42] 35)).alloc (.cells #[.bool false,.string ⟨#[]⟩,.string ⟨#[]⟩] 25)).alloc (.cells #[.bool false,.string ⟨#[]⟩,.string ⟨#[]⟩] 25):=⟨_,rfl⟩
 obtain ⟨T0,R0,P0,B0,-⟩:=A19 hB b0 b1 b2 b3 false false ⟨#[]⟩ ⟨#[]⟩ ⟨#[]⟩ ⟨#[]⟩ hW0;have HW0:=jH hW0.symm;have TT:=jH T0;have RR:=jH R0;have PP:=jH P0;have BB:=jH B0;clear hW0 T0 R0 P0 B0;obtain ⟨⟨F,pl,ts⟩,hl⟩:∃ q,Lex.Ee s.data.toList=q:=⟨_,rfl⟩
 have hsl:s.data.toList.length=s.size:=by simp
 have hfew:=(Mbx.A3w hl jO).1;have KL:∀ W,Calls _ _ _ W (Rc F pl ts W):=λW=>Arl.A59 s W hs hl;have KL:=jH KL;have KW:=λv W (h:Abc v ts W)=>Aqf W.heap.size v (ts.map Lex.Fi) W (Ft.of h) (jaa _) hfew;have KR:=λN v W (h:Ft N v (Pth.mid (ts.map Lex.Fi)) W) (hN:N<=W.heap.size)=>Ape N v _ W h hN (Pth.A34 hfew);unfold Pth.Bc at hp;rw [hl] at hp;simp only at hp;by_cases hF:F=0
 case neg =>
  rw [if_pos hF] at hp;injection hp with q1 hp;injection hp with q2 hp;injection hp with q3 q4
  subst q1 q2 q3 q4;have e0:(F != 0)=true:=by simpa using hF
  clear hF hf hl hT KW KR hfew;go_enter func79,ntmps79;go_wp2;refine G7 0 rfl ?_;go_wp2_with fail;rw [HW0.out];refine (KL.out _).mono ?_;rintro e w1 ⟨A,c,rfl,hv,hb⟩;replace TT:=jH (TT.out.Ac hb);replace RR:=jH (RR.out.Ac hb);replace PP:=jH (PP.out.Ac hb);replace BB:=jH (Aa BB.out hb);clear hb;obtain ⟨t0,t1,t2,t3⟩:=TT.out.all;obtain ⟨r0,r1,r2⟩:=RR.out.all;obtain ⟨f0,f1,f2⟩:=RR.out.fr;obtain ⟨p0,p1,p2⟩:=PP.out.all;obtain ⟨j0,j1,j2⟩:=PP.out.fr;go_wp2;go_step3;refine ⟨rfl,?_⟩;go_wp2;rw [Exit.noGoto_ret];refine bodyPost_ret (v:=.tuple #[.agg #[.bool false,.string ⟨#[]⟩,.string ⟨#[]⟩],.int .i64 F]) (by simp [results,results79,go_sem,r0,r1,r2]) rfl ⟨rfl,?_⟩;exact Cf (C:=B+1) BB.out jO _ _ _
 subst hF;rw [if_neg (show ¬ ((0:Int) ≠ 0) by decide)] at hp;have hpl:pl=0:=by
  rcases Lex.Jg s.data.toList with ⟨-,e⟩ | ⟨-,F,q,e,h1,-⟩ | ⟨-,us,e,hc,-⟩
  ·rw [e] at hl;injection hl with h _;cases h
  ·rw [e] at hl;injection hl with h _;omega
  ·rw [e] at hl;injection hl with _ h;injection h with h _;exact h.symm
 subst hpl;have hf:=λn x y=>hf ts n x y hl;unfold Pth.J0 at hp;unfold Xs at KW;clear hl hfew hsl;cases hw:Pth.within (ts.map Lex.Fi)
 ·rw [hw,if_neg jD] at hp;simp only [hw] at KW;have KW:=jH KW;injection hp with q1 hp;injection hp with q2 hp;injection hp with q3 q4
  subst q1 q2 q3 q4;clear hf hT KR hw;go_enter func79,ntmps79;go_wp2;refine G7 0 rfl ?_;go_wp2_with fail;rw [HW0.out];refine (KL.out _).mono ?_;rintro e w1 ⟨A,c,rfl,hv,hb⟩;replace TT:=jH (TT.out.Ac hb);replace RR:=jH (RR.out.Ac hb);replace PP:=jH (PP.out.Ac hb);replace BB:=jH (Aa BB.out hb);clear hb;obtain ⟨t0,t1,t2,t3⟩:=TT.out.all;obtain ⟨r0,r1,r2⟩:=RR.out.all;obtain ⟨f0,f1,f2⟩:=RR.out.fr;obtain ⟨p0,p1,p2⟩:=PP.out.all;obtain ⟨j0,j1,j2⟩:=PP.out.fr;have HV:=jH hv;clear hv;go_wp2_with fail;refine (KW.out _ _ HV.out).mono ?_;rintro e w2 ⟨v',rfl,-,hb⟩;replace TT:=jH (TT.out.Ac hb);replace RR:=jH (RR.out.Ac hb);replace PP:=jH (PP.out.Ac hb);replace BB:=jH (Aa BB.out hb);clear hb;clear t0 t1 t2 t3 p0 p1 p2 j0 j1 j2 r0 r1 r2 f0 f1 f2;obtain ⟨t0,t1,t2,t3⟩:=TT.out.all;obtain ⟨r0,r1,r2⟩:=RR.out.all;obtain ⟨f0,f1,f2⟩:=RR.out.fr;obtain ⟨p0,p1,p2⟩:=PP.out.all;obtain ⟨j0,j1,j2⟩:=PP.out.fr;go_wp2;go_step3;refine ⟨rfl,?_⟩;go_wp2;rw [Exit.noGoto_ret];refine bodyPost_ret (v:=.tuple #[.agg #[.bool false,.string ⟨#[]⟩,.string ⟨#[]⟩],.int .i64 4]) (by simp [results,results79,go_sem,r0,r1,r2]) rfl ⟨rfl,?_⟩;exact Cf (C:=B+1) BB.out jO _ _ _
 rw [hw,if_pos rfl] at hp;simp only [hw] at KW;have KW:=jH KW;unfold Xp at KR;clear hw;cases hr:Pth.Eh (Pth.mid (ts.map Lex.Fi)) with
 | none =>
  rw [hr] at hp KR;injection hp with q1 hp;injection hp with q2 hp;injection hp with q3 q4
  subst q1 q2 q3 q4;have KR:=jH KR;clear hf hT hr;go_enter func79,ntmps79;go_wp2;refine G7 0 rfl ?_;go_wp2_with fail;rw [HW0.out];refine (KL.out _).mono ?_;rintro e w1 ⟨A,c,rfl,hv,hb⟩;replace TT:=jH (TT.out.Ac hb);replace RR:=jH (RR.out.Ac hb);replace PP:=jH (PP.out.Ac hb);replace BB:=jH (Aa BB.out hb);clear hb;obtain ⟨t0,t1,t2,t3⟩:=TT.out.all;obtain ⟨r0,r1,r2⟩:=RR.out.all;obtain ⟨f0,f1,f2⟩:=RR.out.fr;obtain ⟨p0,p1,p2⟩:=PP.out.all;obtain ⟨j0,j1,j2⟩:=PP.out.fr;have HV:=jH hv;clear hv;go_wp2_with fail;refine (KW.out _ _ HV.out).mono ?_;rintro e w2 ⟨v',rfl,hm,hb⟩;have LE:=jH hb.size;replace TT:=jH (TT.out.Ac hb);replace RR:=jH (RR.out.Ac hb);replace PP:=jH (PP.out.Ac hb);replace BB:=jH (Aa BB.out hb);clear hb;clear t0 t1 t2 t3 p0 p1 p2 j0 j1 j2 r0 r1 r2 f0 f1 f2;obtain ⟨t0,t1,t2,t3⟩:=TT.out.all;obtain ⟨r0,r1,r2⟩:=RR.out.all;obtain ⟨f0,f1,f2⟩:=RR.out.fr;obtain ⟨p0,p1,p2⟩:=PP.out.all;obtain ⟨j0,j1,j2⟩:=PP.out.fr;have HM:=jH (hm (by trivial));clear hm;go_wp2_with fail;refine (KR.out _ _ _ HM.out LE.out).mono ?_;rintro e w3 ⟨⟨n',x',y',rfl,-⟩,hb⟩;replace TT:=jH (TT.out.Ac hb);replace RR:=jH (RR.out.Ac hb);replace PP:=jH (PP.out.Ac hb);replace BB:=jH (Aa BB.out hb);clear hb;clear t0 t1 t2 t3 p0 p1 p2 j0 j1 j2 r0 r1 r2 f0 f1 f2;obtain ⟨t0,t1,t2,t3⟩:=TT.out.all;obtain ⟨r0,r1,r2⟩:=RR.out.all;obtain ⟨f0,f1,f2⟩:=RR.out.fr;obtain ⟨p0,p1,p2⟩:=PP.out.all;obtain ⟨j0,j1,j2⟩:=PP.out.fr;go_wp2;go_step3;refine ⟨rfl,?_⟩;go_wp2;rw [Exit.noGoto_ret];refine bodyPost_ret (v:=.tuple #[.agg #[.bool false,.string ⟨#[]⟩,.string ⟨#[]⟩],.int .i64 4]) (by simp [results,results79,go_sem,r0,r1,r2]) rfl ⟨rfl,?_⟩
  exact Cf (C:=B+1) (Cf (C:=B+2) BB.out jO (.bool n') (.string x') (.string y')) jO _ _ _
 | some tr =>
  obtain ⟨n1,x1,y1⟩:=tr;obtain ⟨hx1,hy1⟩:=hf _ _ _ hr;rw [hr] at hp KR;obtain ⟨X,hX⟩:∃ X:ByteArray,X=⟨x1.toArray⟩:=⟨_,rfl⟩
  obtain ⟨Y,hY⟩:∃ Y:ByteArray,Y=⟨y1.toArray⟩:=⟨_,rfl⟩
  have KG:=λW (h:Below w.heap.size w W)=>P8 _ n1 X Y W (hT.below h) (by rw [hX];show x1.toArray.size<=_;rw [List.size_toArray];exact hx1) (by rw [hY];exact hy1);rw [show X.data.toList=x1 by rw [hX],show Y.data.toList=y1 by rw [hY]] at KG;simp only at hp;generalize Pth.Bo n1 x1 y1=G at KG hp;have KG:=jH KG;have HX:=jH hX;have HY:=jH hY;have KR:=jH KR;clear hf hT hr hx1 hy1 hX hY;by_cases hG:G=0
  ·subst hG;rw [if_pos rfl] at hp;injection hp with q1 hp;injection hp with q2 hp;injection hp with q3 q4
   subst q1 q2 q3 q4;go_enter func79,ntmps79;go_wp2;refine G7 0 rfl ?_;go_wp2_with fail;rw [HW0.out];refine (KL.out _).mono ?_;rintro e w1 ⟨A,c,rfl,hv,hb⟩;replace TT:=jH (TT.out.Ac hb);replace RR:=jH (RR.out.Ac hb);replace PP:=jH (PP.out.Ac hb);replace BB:=jH (Aa BB.out hb);clear hb;obtain ⟨t0,t1,t2,t3⟩:=TT.out.all;obtain ⟨r0,r1,r2⟩:=RR.out.all;obtain ⟨f0,f1,f2⟩:=RR.out.fr;obtain ⟨p0,p1,p2⟩:=PP.out.all;obtain ⟨j0,j1,j2⟩:=PP.out.fr;have HV:=jH hv;clear hv;go_wp2_with fail;refine (KW.out _ _ HV.out).mono ?_;rintro e w2 ⟨v',rfl,hm,hb⟩;have LE:=jH hb.size;replace TT:=jH (TT.out.Ac hb);replace RR:=jH (RR.out.Ac hb);replace PP:=jH (PP.out.Ac hb);replace BB:=jH (Aa BB.out hb);clear hb;clear t0 t1 t2 t3 p0 p1 p2 j0 j1 j2 r0 r1 r2 f0 f1 f2;obtain ⟨t0,t1,t2,t3⟩:=TT.out.all;obtain ⟨r0,r1,r2⟩:=RR.out.all;obtain ⟨f0,f1,f2⟩:=RR.out.fr;obtain ⟨p0,p1,p2⟩:=PP.out.all;obtain ⟨j0,j1,j2⟩:=PP.out.fr;have HM:=jH (hm (by trivial));clear hm;go_wp2_with fail;refine (KR.out _ _ _ HM.out LE.out).mono ?_;rintro e w3 ⟨⟨n',x',y',rfl,ht⟩,hb⟩;replace TT:=jH (TT.out.Ac hb);replace RR:=jH (RR.out.Ac hb);replace PP:=jH (PP.out.Ac hb);replace BB:=jH (Aa BB.out hb);clear hb;clear t0 t1 t2 t3 p0 p1 p2 j0 j1 j2 r0 r1 r2 f0 f1 f2;obtain ⟨t0,t1,t2,t3⟩:=TT.out.all;obtain ⟨r0,r1,r2⟩:=RR.out.all;obtain ⟨f0,f1,f2⟩:=RR.out.fr;obtain ⟨p0,p1,p2⟩:=PP.out.all;obtain ⟨j0,j1,j2⟩:=PP.out.fr;obtain ⟨h1,h2,h3⟩:=ht _ rfl;replace h2:x'=X:=h2.trans HX.out.symm;replace h3:y'=Y:=h3.trans HY.out.symm;subst h1 h2 h3;clear ht;go_wp2_with fail
   replace TT:=jH (((TT.out.other (D:=B+2) jO 0 (.bool n')).other (D:=B+2) jO 1 (.string x')).other (D:=B+2) jO 2 (.string y'));replace RR:=jH (((RR.out.other (D:=B+2) jO 0 (.bool n')).other (D:=B+2) jO 1 (.string x')).other (D:=B+2) jO 2 (.string y'));replace PP:=jH (PP.out.set n' x' y');replace BB:=jH (Cf (C:=B+2) BB.out jO (.bool n') (.string x') (.string y'));clear t0 t1 t2 t3 p0 p1 p2 j0 j1 j2 r0 r1 r2 f0 f1 f2;obtain ⟨t0,t1,t2,t3⟩:=TT.out.all;obtain ⟨r0,r1,r2⟩:=RR.out.all;obtain ⟨f0,f1,f2⟩:=RR.out.fr;obtain ⟨p0,p1,p2⟩:=PP.out.all;obtain ⟨j0,j1,j2⟩:=PP.out.fr;refine (KG.out _ BB.out).mono ?_;rintro e w4 ⟨rfl,hb⟩;replace TT:=jH (TT.out.Ac hb);replace RR:=jH (RR.out.Ac hb);replace PP:=jH (PP.out.Ac hb);replace BB:=jH (Aa BB.out hb);clear hb;clear t0 t1 t2 t3 p0 p1 p2 j0 j1 j2 r0 r1 r2 f0 f1 f2;obtain ⟨t0,t1,t2,t3⟩:=TT.out.all;obtain ⟨r0,r1,r2⟩:=RR.out.all;obtain ⟨f0,f1,f2⟩:=RR.out.fr;obtain ⟨p0,p1,p2⟩:=PP.out.all;obtain ⟨j0,j1,j2⟩:=PP.out.fr;go_wp2;rw [Sg];refine bodyPost_ret (v:=.tuple #[.agg #[.bool n',.string x',.string y'],.int .i64 0]) (by simp [results,results79,go_sem,r0,r1,r2]) rfl ⟨by rw [<- HX.out,<- HY.out],?_⟩;exact Cf (C:=B+1) BB.out jO _ _ _
  ·rw [if_neg hG] at hp;have e1:(G != 0)=true:=by simpa using hG
   injection hp with q1 hp;injection hp with q2 hp;injection hp with q3 q4
   subst q1 q2 q3 q4;clear hG;go_enter func79,ntmps79;go_wp2;refine G7 0 rfl ?_;go_wp2_with fail;rw [HW0.out];refine (KL.out _).mono ?_;rintro e w1 ⟨A,c,rfl,hv,hb⟩;replace TT:=jH (TT.out.Ac hb);replace RR:=jH (RR.out.Ac hb);replace PP:=jH (PP.out.Ac hb);replace BB:=jH (Aa BB.out hb);clear hb;obtain ⟨t0,t1,t2,t3⟩:=TT.out.all;obtain ⟨r0,r1,r2⟩:=RR.out.all;obtain ⟨f0,f1,f2⟩:=RR.out.fr;obtain ⟨p0,p1,p2⟩:=PP.out.all;obtain ⟨j0,j1,j2⟩:=PP.out.fr;have HV:=jH hv;clear hv;go_wp2_with fail;refine (KW.out _ _ HV.out).mono ?_;rintro e w2 ⟨v',rfl,hm,hb⟩;have LE:=jH hb.size;replace TT:=jH (TT.out.Ac hb);replace RR:=jH (RR.out.Ac hb);replace PP:=jH (PP.out.Ac hb);replace BB:=jH (Aa BB.out hb);clear hb;clear t0 t1 t2 t3 p0 p1 p2 j0 j1 j2 r0 r1 r2 f0 f1 f2;obtain ⟨t0,t1,t2,t3⟩:=TT.out.all;obtain ⟨r0,r1,r2⟩:=RR.out.all;obtain ⟨f0,f1,f2⟩:=RR.out.fr;obtain ⟨p0,p1,p2⟩:=PP.out.all;obtain ⟨j0,j1,j2⟩:=PP.out.fr;have HM:=jH (hm (by trivial));clear hm;go_wp2_with fail;refine (KR.out _ _ _ HM.out LE.out).mono ?_;rintro e w3 ⟨⟨n',x',y',rfl,ht⟩,hb⟩;replace TT:=jH (TT.out.Ac hb);replace RR:=jH (RR.out.Ac hb);replace PP:=jH (PP.out.Ac hb);replace BB:=jH (Aa BB.out hb);clear hb;clear t0 t1 t2 t3 p0 p1 p2 j0 j1 j2 r0 r1 r2 f0 f1 f2;obtain ⟨t0,t1,t2,t3⟩:=TT.out.all;obtain ⟨r0,r1,r2⟩:=RR.out.all;obtain ⟨f0,f1,f2⟩:=RR.out.fr;obtain ⟨p0,p1,p2⟩:=PP.out.all;obtain ⟨j0,j1,j2⟩:=PP.out.fr;obtain ⟨h1,h2,h3⟩:=ht _ rfl;replace h2:x'=X:=h2.trans HX.out.symm;replace h3:y'=Y:=h3.trans HY.out.symm;subst h1 h2 h3;clear ht
   go_wp2_with fail;replace TT:=jH (((TT.out.other (D:=B+2) jO 0 (.bool n')).other (D:=B+2) jO 1 (.string x')).other (D:=B+2) jO 2 (.string y'));replace RR:=jH (((RR.out.other (D:=B+2) jO 0 (.bool n')).other (D:=B+2) jO 1 (.string x')).other (D:=B+2) jO 2 (.string y'));replace PP:=jH (PP.out.set n' x' y');replace BB:=jH (Cf (C:=B+2) BB.out jO (.bool n') (.string x') (.string y'));clear t0 t1 t2 t3 p0 p1 p2 j0 j1 j2 r0 r1 r2 f0 f1 f2;obtain ⟨t0,t1,t2,t3⟩:=TT.out.all;obtain ⟨r0,r1,r2⟩:=RR.out.all;obtain ⟨f0,f1,f2⟩:=RR.out.fr;obtain ⟨p0,p1,p2⟩:=PP.out.all;obtain ⟨j0,j1,j2⟩:=PP.out.fr;refine (KG.out _ BB.out).mono ?_;rintro e w4 ⟨rfl,hb⟩;replace TT:=jH (TT.out.Ac hb);replace RR:=jH (RR.out.Ac hb);replace PP:=jH (PP.out.Ac hb);replace BB:=jH (Aa BB.out hb);clear hb;clear t0 t1 t2 t3 p0 p1 p2 j0 j1 j2 r0 r1 r2 f0 f1 f2;obtain ⟨t0,t1,t2,t3⟩:=TT.out.all;obtain ⟨r0,r1,r2⟩:=RR.out.all;obtain ⟨f0,f1,f2⟩:=RR.out.fr;obtain ⟨p0,p1,p2⟩:=PP.out.all;obtain ⟨j0,j1,j2⟩:=PP.out.fr;go_wp2;go_step3;refine ⟨rfl,?_⟩;go_wp2;rw [Exit.noGoto_ret];refine bodyPost_ret (v:=.tuple #[.agg #[.bool false,.string ⟨#[]⟩,.string ⟨#[]⟩],.int .i64 G]) (by simp [results,results79,go_sem,r0,r1,r2]) rfl ⟨rfl,?_⟩;exact Cf (C:=B+1) BB.out jO _ _ _
end
section
open Go.RowKit Utf
namespace Pth
theorem Az4 (l:List Mbx.S):(Mbx.Et (mid l)).length<=(Mbx.Et l).length:=by
 unfold mid;refine Nat.le_trans ?_ (Mbx.O0 l 1);generalize l.drop 1=r;generalize l.length - 2=n;unfold Mbx.Et;induction r generalizing n with
 | nil=>simp
 | cons k t ih =>
  cases n with
  | zero=>simp
  | succ n =>
   rw [List.take_succ_cons,jao,jao,jab,jab];have:=ih n;omega
theorem Z7 {m:List Mbx.S} {n:Bool} {x y:List UInt8} (h:Eh m=some (n,x,y)):x.length<=(Mbx.Et m).length/\y.length<=(Mbx.Et m).length:=by
 unfold Eh at h;by_cases h0:m.length=0
 ·rw [if_pos h0] at h;injection h with h;injection h with _ h;injection h with h1 h2
  subst h1 h2;exact ⟨Nat.zero_le _,Nat.zero_le _⟩
 rw [if_neg h0] at h;by_cases h1:m.length=1/\(m.headD (0,[])).1=0
 ·rw [if_pos h1] at h;split at h
  ·injection h with h;injection h with _ h;injection h with h2 h3
   subst h2 h3;refine ⟨Mbx.Pm m _ ?_,Nat.zero_le _⟩;cases m with
   | nil=>exact absurd rfl h0
   | cons a b=>simp
  ·cases h
 ·rw [if_neg h1] at h;cases ht:Mbx.take m with
  | none=>rw [ht] at h;cases h
  | some p =>
   obtain ⟨u,v,k⟩:=p;rw [ht] at h;replace h:(if k=m.length then some (false,u,v) else none)=some (n,x,y):=h;split at h
   ·injection h with h;injection h with _ h;injection h with h2 h3
    subst h2 h3;exact ⟨Mbx.Awt ht,(Mbx.take_len ht).1⟩
   ·cases h
theorem Ajq {s:List UInt8} {ts:List Lex.Tok} (h:Lex.Ee s=(0,0,ts)) {n:Bool} {x y:List UInt8} (hr:Eh (mid (ts.map Lex.Fi))=some (n,x,y)):x.length<=s.length/\y.length<=s.length:=by
 have h1:=Z7 hr;have h2:=Az4 (ts.map Lex.Fi);have h3:(Mbx.Et (ts.map Lex.Fi)).length<=s.length:=by
  rcases Lex.Jg s with ⟨-,e⟩ | ⟨-,E,p,e,h1,-⟩ | ⟨-,us,e,hc,-⟩
  ·rw [e] at h;injection h with h _;cases h
  ·rw [e] at h;injection h with h _;omega
  ·rw [e] at h;injection h with _ h
   injection h with _ h
   subst h;rw [Mbx.U0];exact (Lex.Akn hc).1
 omega
end Pth
theorem Agk (t:Value) (s:ByteArray) (w:World) (hT:Table w t) (hs:s.size<=510) {E:Int} {n:Bool} {x y:List UInt8} (hp:Pth.Bc s.data.toList=(E,n,x,y)) :
  Calls prog 79 #[t,.string s] w λe w'=>e=.returned (.tuple #[.agg #[.bool n,.string ⟨x.toArray⟩,.string ⟨y.toArray⟩],.int .i64 E])/\Below w.heap.size w w' :=
 Abv t s w hT jO (λts n x y hl hr=>by
  have h1:=Pth.Ajq hl hr;have h2:s.data.toList.length=s.size:=by simp
  exact ⟨by omega,Aum jO⟩) hp
theorem Agm (t:Value) (n:Bool) (x y:ByteArray) (w:World) (hT:Table w t) (hx:x.size<=100000) (hy:Cx y) {E:Int} (h:Pth.Bo n x.data.toList y.data.toList=E) :
  Calls prog 36 #[t,.agg #[.bool n,.string x,.string y]] w λe w'=>e=.returned (.int .i64 E)/\Below w.heap.size w w':=by
 subst h;exact P8 t n x y w hT hx hy
theorem Agl (n:Bool) (x y:ByteArray) (w:World) (hx:x.size<=10000) (hy:y.size<=100000) {z:List UInt8} (h:Pth.A9 n x.data.toList y.data.toList=z) :
  Calls prog 20 #[.agg #[.bool n,.string x,.string y]] w λe w'=>e=.returned (.string ⟨z.toArray⟩)/\Below w.heap.size w w':=by
 subst h;exact Abw n x y w hx hy
end
