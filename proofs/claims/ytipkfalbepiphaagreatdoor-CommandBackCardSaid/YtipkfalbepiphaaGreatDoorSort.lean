import Derived.Test.YtipkfalbepiphaaGreatDoorNormRef
import Derived.BigRegion
set_option maxRecDepth 100000
set_option maxHeartbeats 20000000
namespace Go.Proofs.YtipkfalbepiphaaGreatDoor
open Tryz
section
open Go.RowKit Utf
structure Place where
 base:Nat
 w0:World
 g:Nat
 o:Nat
 pre:List Int
 post:List Int
 n:Nat
 c:Nat
def Seg (p:Place) (d:List Int) (wr:World):Prop :=
 Av p.base (.slice (some ⟨p.g,0,none⟩) p.n p.c) (p.pre ++ (d ++ p.post)) wr/\Below p.base p.w0 wr/\p.pre.length=p.o/\p.base<=p.g
theorem Seg.Ac {p:Place} {d:List Int} {w w':World} (h:Seg p d w) (hb:Below w.heap.size w w') (hs:p.base<=w.heap.size):Seg p d w' :=
 ⟨h.1.Ac hb,h.2.1.trans (hb.mono hs),h.2.2⟩
theorem Seg.drew {p:Place} {d:List Int} {w:World} (h:Seg p d w):Seg p d w.drew:=⟨h.1.drew,h.2.1.drew,h.2.2⟩
theorem Seg.cell {p:Place} {d:List Int} {w:World} (h:Seg p d w) (k:Nat) (hk:k<d.length):w.cell? ⟨p.g,p.o+k,none⟩=some (.int .i32 d[k]!):=by
 have:=h.1.cell (p.o+k) (by rw [jab,jab];have:=h.2.2.1;omega);rw [this,Norm.C5 (by have:=h.2.2.1;omega),h.2.2.1,Nat.add_sub_cancel_left,Norm.Dk hk]
theorem Seg.free {p:Place} {d:List Int} {w:World} (h:Seg p d w) (k:Nat):w.frozen? ⟨p.g,p.o+k,none⟩=false:=h.1.free (p.o+k)
theorem Seg.put {p:Place} {d:List Int} {w:World} (h:Seg p d w) (k:Nat) (hk:k<d.length) (x:Int):Seg p (d.set k x) (w.setCell ⟨p.g,p.o+k,none⟩ (.int .i32 x)):=by
 refine ⟨?_,h.2.1.setCell (p:=⟨p.g,p.o+k,none⟩) h.2.2.2 _,h.2.2⟩;have:=h.1.put (p.o+k) x;rwa [List.set_append_right _ _ (by have:=h.2.2.1;omega),h.2.2.1,Nat.add_sub_cancel_left,List.set_append_left _ _ hk] at this
def Ab7 (p:Place) (R:List Int->Prop) (e:Ending) (w':World):Prop:=∃ d,e=.returned (.tuple #[])/\R d/\Seg p d w'
namespace Norm
structure F1 (a b k:Nat) (L M:List Int):Prop where
 len:M.length=L.length
 fst:∀ i,i<k->M[a+i]! = L[b+i]!
 snd:∀ i,i<k->M[b+i]! = L[a+i]!
 out:∀ i,(i<a\/a+k<=i)->(i<b\/b+k<=i)->M[i]! = L[i]!
theorem F1.zero (a b:Nat) (L:List Int):F1 a b 0 L L:=⟨rfl,λi h=>by omega,λi h=>by omega,λ_ _ _=>rfl⟩
theorem F1.next {a b k n:Nat} {L M:List Int} (h:F1 a b k L M) (hk:k<n) (hab:a+n<=b) (hb:b+n<=L.length):F1 a b (k+1) L ((M.set (a+k) M[b+k]!).set (b+k) M[a+k]!):=by
 have e:∀ i,((M.set (a+k) M[b+k]!).set (b+k) M[a+k]!)[i]! = if i=b+k then M[a+k]! else if i=a+k then M[b+k]! else M[i]!:=λi=>by
  rw [Ro _ _ _ _ (by rw [List.length_set,h.len];omega),Ro _ _ _ _ (by rw [h.len];omega)]
 refine ⟨by rw [List.length_set,List.length_set,h.len],λi hi=>?_,λi hi=>?_,λi h1 h2=>?_⟩
 ·rw [e,if_neg jO];by_cases hk:i=k
  · subst hk;rw [if_pos rfl];exact h.out _ jO jO
  · rw [if_neg jO];exact h.fst i jO
 ·rw [e];by_cases hk:i=k
  · subst hk;rw [if_pos rfl];exact h.out _ jO jO
  · rw [if_neg jO,if_neg jO];exact h.snd i jO
 ·rw [e,if_neg jO,if_neg jO];exact h.out i jO jO
end Norm
theorem Ku (p:Place) (d:List Int) (w:World) (hs:Seg p d w) (cc:Nat) (f:Value) (a b n:Nat) (hab:a+n<=b) (hb:b+n<=d.length) (hl:d.length<=1000000) :
  Calls prog 355 #[.slice (some ⟨p.g,p.o,none⟩) d.length cc,.int .i64 a,.int .i64 b,.int .i64 n,f] w (Ab7 p (Norm.F1 a b n d)):=by
 have HS:=jH hs;clear hs;go_enter func355,ntmps355;go_wp2;go_loopg [10] (n+1) (λgk i wr=>∃ (k:Nat) (M:List Int),k<=n/\i=.int .i64 k/\n - k<gk/\Hid (Norm.F1 a b k d M/\Seg p M wr))
 case atStart=>exact ⟨0,d,Nat.zero_le _,rfl,by omega,⟨Norm.F1.zero _ _ _,HS.out⟩⟩
 case round =>
  obtain ⟨k,M,hk,rfl,hg,I⟩:=hrel;by_cases hlt:k<n
  ·obtain ⟨x,hx⟩:∃ x,x=M[a+k]!:=⟨_,rfl⟩
   obtain ⟨y,hy⟩:∃ y,y=M[b+k]!:=⟨_,rfl⟩
   have hML:=I.out.1.len;have c1:=I.out.2.cell (a+k) jO;have c2:=I.out.2.cell (b+k) jO;rw [<- hx] at c1;rw [<- hy] at c2;have f1:=I.out.2.free (a+k);have f2:=I.out.2.free (b+k);have J:Hid (Norm.F1 a b (k+1) d ((M.set (a+k) y).set (b+k) x)/\Seg p ((M.set (a+k) y).set (b+k) x) (((wr.setCell ⟨p.g,p.o+(a+k),none⟩ (.int .i32 y)).setCell ⟨p.g,p.o+(b+k),none⟩ (.int .i32 x)).drew)):=by
    refine ⟨?_,((I.out.2.put (a+k) jO y).put (b+k) (by rw [List.length_set];omega) x).drew⟩;have:=I.out.1.next hlt hab hb;rwa [<- hx,<- hy] at this
   clear hx hy I;go_wp2;go_region;go_wp2;go_roundg (n - k)
   case measure=>omega
   case rel=>exact ⟨k+1,_,by omega,by go_num,by omega,J⟩
  ·obtain rfl:k=n:=jO
   go_wp2;go_end0;exact ⟨M,rfl,I.out.1,I.out.2⟩
namespace Norm
def Left (a m b i j:Nat) (L M:List Int):Prop:=M.length=L.length/\∀ D,Rot (m - i) m (m+j) M D->Rot a m b L D
theorem Left.start {a m b:Nat} (L:List Int) (h1:a<=m) (h2:m<=b):Left a m b (m - a) (b - m) L L:=by
 refine ⟨rfl,λD h=>?_⟩;rw [show m - (m - a)=a by omega,show m+(b - m)=b by omega] at h;exact h
theorem Left.fst {a m b i j:Nat} {L M M':List Int} (h:Left a m b i j L M) (hi:i<=m) (hij:j<i) (hs:F1 (m - i) m j M M'):Left a m b (i - j) j L M':=by
 refine ⟨hs.len.trans h.1,λD hD=>h.2 D ?_⟩;refine ⟨hD.len.trans hs.len,λk h1 h2=>?_,λk h1 h2=>?_,λk hk=>?_⟩
 ·rw [hD.out k jO,show k=m - i+(k - (m - i)) by omega,hs.fst _ jO];congr 1;omega
 ·by_cases hk:k<m - (i - j)+j
  ·rw [hD.fst k jO jO,show k+(m - (m - (i - j)))=m+(k+i - j - m) by omega,hs.snd _ jO];congr 1;omega
  ·rw [hD.snd k jO jO,hs.out _ jO jO]
 ·rw [hD.out k jO,hs.out k jO jO]
theorem Left.snd {a m b i j:Nat} {L M M':List Int} (h:Left a m b i j L M) (hi:i<=m) (hij:i<j) (hs:F1 (m - i) (m+j - i) i M M'):Left a m b i (j - i) L M':=by
 refine ⟨hs.len.trans h.1,λD hD=>h.2 D ?_⟩;refine ⟨hD.len.trans hs.len,λk h1 h2=>?_,λk h1 h2=>?_,λk hk=>?_⟩
 ·by_cases hk:k<m - i+(j - i)
  ·rw [hD.fst k jO jO,hs.out _ jO jO]
  ·rw [hD.snd k jO jO,show k - (m+(j - i) - m)=m - i+(k - (j - i) - (m - i)) by omega,hs.fst _ jO];congr 1;omega
 ·rw [hD.out k jO,show k=m+j - i+(k - (m+j - i)) by omega,hs.snd _ jO];congr 1;omega
 ·rw [hD.out k jO,hs.out k jO jO]
theorem Left.last {a m b i:Nat} {L M M':List Int} (h:Left a m b i i L M) (hi:i<=m) (hs:F1 (m - i) m i M M'):Rot a m b L M':=by
 refine h.2 M' ⟨hs.len,λk h1 h2=>?_,λk h1 h2=>?_,λk hk=>?_⟩
 ·rw [show k=m - i+(k - (m - i)) by omega,hs.fst _ jO];congr 1;omega
 ·rw [show k=m+(k - m) by omega,hs.snd _ jO];congr 1;omega
 ·exact hs.out k jO jO
end Norm
theorem Fh (p:Place) (d:List Int) (w:World) (hs:Seg p d w) (cc:Nat) (f:Value) (a m b:Nat) (ham:a<m) (hmb:m<b) (hb:b<=d.length) (hl:d.length<=1000000) :
  Calls prog 351 #[.slice (some ⟨p.g,p.o,none⟩) d.length cc,.int .i64 a,.int .i64 m,.int .i64 b,f] w (Ab7 p (Norm.Rot a m b d)):=by
 have HS:=jH hs;clear hs;go_enter func351,ntmps351;go_wp2;go_loopg [10,11] (b - a+1) (λgk si sj wr=>∃ (i j:Nat) (M:List Int),si=.int .i64 i/\sj=.int .i64 j/\0<i/\0<j/\i+j<gk/\i<=m/\m+j<=d.length/\Hid (Norm.Left a m b i j d M/\Seg p M wr))
 case atStart =>
  exact ⟨m - a,b - m,d,by rw [show ((m - a:Nat):Int)=(m:Int) - a by omega],by rw [show ((b - m:Nat):Int)=(b:Int) - m by omega],by omega,by omega,by omega,by omega,by omega,⟨Norm.Left.start d jO jO,HS.out⟩⟩
 case round =>
  obtain ⟨i,j,M,rfl,rfl,hi,hj,hg,him,hjm,I⟩:=hrel;have hML:=I.out.1.1;by_cases hij:i=j
  ·subst hij;have hc:=Ku p M wr I.out.2 cc f (m - i) m i jO jO jO;rw [hML,show ((m - i:Nat):Int)=(m:Int) - i by omega] at hc;go_wp2_with fail;refine hc.mono ?_;rintro e w2 ⟨M2,rfl,h2,s2⟩;have R:=jH (I.out.1.last him h2);have S2:=jH s2;clear hc h2 s2;go_wp2;go_end0;exact ⟨M2,rfl,R.out,S2.out⟩
  ·have hne:((i:Int) == (j:Int))=false:=by rw [beq_eq_false_iff_ne];omega
   by_cases hlt:j<i
   ·have hc:=Ku p M wr I.out.2 cc f (m - i) m j jO jO jO;rw [hML,show ((m - i:Nat):Int)=(m:Int) - i by omega] at hc;go_wp2_with fail;refine hc.mono ?_;rintro e w2 ⟨M2,rfl,h2,s2⟩;have J:Hid (Norm.Left a m b (i - j) j d M2/\Seg p M2 w2):=⟨I.out.1.fst him hlt h2,s2⟩
    clear hc h2 s2;go_wp2;go_roundg (i+j)
    case measure=>omega
    case rel=>exact ⟨i - j,j,M2,by rw [show ((i - j:Nat):Int)=(i:Int) - j by omega],rfl,by omega,by omega,by omega,by omega,by omega,J⟩
   ·have hc:=Ku p M wr I.out.2 cc f (m - i) (m+j - i) i jO jO jO;rw [hML,show ((m - i:Nat):Int)=(m:Int) - i by omega,show ((m+j - i:Nat):Int)=(m:Int)+j - i by omega] at hc;go_wp2_with fail;refine hc.mono ?_;rintro e w2 ⟨M2,rfl,h2,s2⟩;have J:Hid (Norm.Left a m b i (j - i) d M2/\Seg p M2 w2):=⟨I.out.1.snd him jO h2,s2⟩
    clear hc h2 s2;go_wp2;go_roundg (i+j)
    case measure=>omega
    case rel=>exact ⟨i,j - i,M2,rfl,by rw [show ((j - i:Nat):Int)=(j:Int) - i by omega],by omega,by omega,by omega,by omega,by omega,J⟩
end
section
open Go.RowKit Utf
def Lx (a b:Int):Int:=if a<b then -1 else if b<a then 1 else 0
theorem Ow {a b:Int} (h:a<b):Lx a b=-1:=by unfold Lx;rw [if_pos h]
theorem Rs {a b:Int} (h:b<=a):0<=Lx a b:=by unfold Lx;rw [if_neg jO];split<;>omega
theorem Rt (a b:Int):-1<=Lx a b/\Lx a b<=1:=by unfold Lx;split<;>(try split)<;>omega
theorem Ul (a:Int) (w:World):Calls prog 321 #[.int .i64 a] w λe w'=>e=.returned (.bool false)/\w=w':=by
 go_enter func321,ntmps321;go_wp2;go_ret;exact ⟨by simp,rfl⟩
theorem Aid (a b:Int) (w:World):Calls prog 304 #[.int .i64 a,.int .i64 b] w λe w'=>e=.returned (.int .i64 (Lx a b))/\w=w':=by
 rcases (show a<b\/b<a\/a=b by omega) with h | h | rfl
 ·rw [Ow h];go_enter func304,ntmps304;go_wp2_with (go_at_call 321;refine (Ul _ _).mono ?_;rintro e w1 ⟨rfl,rfl⟩);go_ret;exact ⟨rfl,rfl⟩
 ·rw [show Lx a b=1 by unfold Lx;rw [if_neg jO,if_pos h]];have h1:¬ a<b:=jO
  go_enter func304,ntmps304;go_wp2_with (go_at_call 321;refine (Ul _ _).mono ?_;rintro e w1 ⟨rfl,rfl⟩);go_ret;exact ⟨rfl,rfl⟩
 ·rw [show Lx a a=0 by unfold Lx;rw [if_neg jO,if_neg jO]];go_enter func304,ntmps304;go_wp2_with (go_at_call 321;refine (Ul _ _).mono ?_;rintro e w1 ⟨rfl,rfl⟩);go_ret;exact ⟨rfl,rfl⟩
def Boxed (bt:Nat) (w:World):Prop:=∃ b0 b1 b2 b3,Table w (.agg #[.slice (some ⟨b0,0,none⟩) 74 74,.slice (some ⟨b1,0,none⟩) 10 10,.slice (some ⟨b2,0,none⟩) 11 11,.slice (some ⟨b3,0,none⟩) 42 42])/\bt<w.heap.size /\
 w.cell? ⟨bt,0,none⟩=some (.slice (some ⟨b0,0,none⟩) 74 74)/\w.cell? ⟨bt,1,none⟩=some (.slice (some ⟨b1,0,none⟩) 10 10)/\w.cell? ⟨bt,2,none⟩=some (.slice (some ⟨b2,0,none⟩) 11 11)/\w.cell? ⟨bt,3,none⟩=some (.slice (some ⟨b3,0,none⟩) 42 42)
theorem Boxed.Ac {bt:Nat} {w w':World} (h:Boxed bt w) (hb:Below w.heap.size w w'):Boxed bt w':=by
 obtain ⟨b0,b1,b2,b3,hT,hl,c0,c1,c2,c3⟩:=h;exact ⟨b0,b1,b2,b3,hT.below hb,jas hl hb.size,(hb.cell (p:=⟨bt,0,none⟩) hl).trans c0,(hb.cell (p:=⟨bt,1,none⟩) hl).trans c1,(hb.cell (p:=⟨bt,2,none⟩) hl).trans c2,(hb.cell (p:=⟨bt,3,none⟩) hl).trans c3⟩
theorem Ah6 (bt:Nat) (x y:Int) (w:World) (hB:Boxed bt w) :
  Calls prog 303 #[.int .i32 x,.int .i32 y,.pointer (some ⟨bt,0,none⟩)] w λe w'=>e=.returned (.int .i64 (Lx (Ad x) (Ad y)))/\Below w.heap.size w w':=by
 obtain ⟨b0,b1,b2,b3,hT,hl,c0,c1,c2,c3⟩:=hB;have KX:=jH (λW (h:Below w.heap.size w W)=>Ky _ x W (hT.below h));have KY:=jH (λW (h:Below w.heap.size w W)=>Ky _ y W (hT.below h));generalize Ad x=cx at KX ⊢;generalize Ad y=cy at KY ⊢;clear hT;go_enter func303,ntmps303;go_wp2;go_region_with (first
  | (go_at_call 278;((with_reducible refine (KX.out _ (jan _ w).drew).mono ?_);rintro e w1 ⟨rfl,hb1⟩;have B1:=jH (Ag hb1);have hl1:=jas hl B1.out.size;have d0:=(B1.out.cell (p:=⟨bt,0,none⟩) hl).trans c0;have d1:=(B1.out.cell (p:=⟨bt,1,none⟩) hl).trans c1;have d2:=(B1.out.cell (p:=⟨bt,2,none⟩) hl).trans c2;have d3:=(B1.out.cell (p:=⟨bt,3,none⟩) hl).trans c3;clear hb1 c0 c1 c2 c3 hl))
  | (go_at_call 278;((with_reducible refine (KY.out _ B1.out).mono ?_);rintro e w2 ⟨rfl,hb2⟩;have B2:=jH (Aa B1.out hb2);clear hb2))
  | (go_at_call 304;((with_reducible refine (Aid _ _ _).mono ?_);rintro e w3 ⟨rfl,rfl⟩)))
 all_goals
  go_wp2;go_ret;exact ⟨rfl,B2.out⟩
end
section
open Go.RowKit Utf
def Ps (p:Place) (bt:Nat):Prop:=p.base=p.w0.heap.size/\Boxed bt p.w0
theorem Ps.cmp {p:Place} {bt:Nat} (h:Ps p bt) (x y:Int) (W:World) (hb:Below p.base p.w0 W) :
  Calls prog 303 #[.int .i32 x,.int .i32 y,.pointer (some ⟨bt,0,none⟩)] W λe w'=>e=.returned (.int .i64 (Lx (Ad x) (Ad y)))/\Below W.heap.size W w' :=
 Ah6 bt x y W (h.2.Ac (by have:=h.1;rw [<- this];exact hb))
theorem Seg.drewN {p:Place} {d:List Int} {w:World} (h:Seg p d w) (n:Nat):Seg p d (w.drewN n):=⟨h.1.drewN n,below_drewN h.2.1 n,h.2.2⟩
theorem Seg.next {p:Place} {bt:Nat} {d:List Int} {w w':World} (h:Seg p d w) (hp:Ps p bt) (hb:Below w.heap.size w w'):Seg p d w' :=
 h.Ac hb (by have:=h.2.1.size;have:=hp.1;omega)
namespace Norm
def Gap (M:List Int) (a i j:Nat):Prop:=∀ x y,a<=x->x<y->y<=i->y ≠ j->Ad M[x]!<=Ad M[y]!
theorem Gap.start {M:List Int} {a i:Nat} (h:Up M a i):Gap M a i i:=λx y h1 h2 h3 h4=>h x y h1 h2 jO
theorem Gap.Gb {M:List Int} {a i j:Nat} (h:Gap M a i (j+1)) (ha:a<=j) (hj:j+1<=i) (hl:i<M.length) (hc:Ad M[j+1]!<Ad M[j]!):Gap (Gb M j) a i j:=by
 intro x y h1 h2 h3 h4;rw [Jk _ _ _ jO,Jk _ _ _ jO];by_cases y1:y=j+1
 ·rw [if_pos y1,if_neg jO];by_cases x1:x=j
  ·rw [if_pos x1];omega
  ·rw [if_neg x1];exact h x j h1 jO jO jO
 ·rw [if_neg y1,if_neg h4];by_cases x1:x=j+1
  ·rw [if_pos x1];exact h j y ha jO h3 y1
  ·rw [if_neg x1];by_cases x2:x=j
   · rw [if_pos x2];exact h (j+1) y jO jO h3 y1
   · rw [if_neg x2];exact h x y h1 h2 h3 y1
theorem Gap.done {M:List Int} {a i j:Nat} (h:Gap M a i j) (hc:j=a\/(a<j/\Ad M[j - 1]!<=Ad M[j]!)):Up M a (i+1):=by
 intro x y h1 h2 h3;by_cases y1:y=j
 ·subst y1;rcases hc with rfl | ⟨h4,h5⟩
  ·omega
  ·by_cases x1:x=y - 1
   · rw [x1];exact h5
   · exact Int.le_trans (h x (y - 1) h1 jO jO jO) h5
 ·exact h x y h1 h2 jO y1
end Norm
theorem Pv (p:Place) (bt:Nat) (hp:Ps p bt) (d:List Int) (w:World) (hs:Seg p d w) (cc a b:Nat) (hab:a<=b) (hb:b<=d.length) (hl:d.length<=1000000) :
  Calls prog 342 #[.slice (some ⟨p.g,p.o,none⟩) d.length cc,.int .i64 a,.int .i64 b,.func (.func 303) #[] #[.pointer (some ⟨bt,0,none⟩)]] w (Ab7 p (λM=>Norm.Ar a b d M/\Norm.Up M a b)):=by
 have HS:=jH hs;have HP:=jH hp;clear hs hp;go_enter func342,ntmps342;go_wp2;go_loopg [8,9] (b+2) (λgk si _ wr=>∃ (i:Nat) (M:List Int),si=.int .i64 i/\a+1<=i/\i<=b+1/\b+1 - i<gk/\Hid (Norm.Ar a b d M/\Norm.Up M a i/\Seg p M wr))
 case atStart=>exact ⟨a+1,d,by go_num,jaa _,by omega,by omega,⟨Norm.Ar.refl _ _ _,Norm.Up.small (jaa _),HS.out⟩⟩
 case round =>
  obtain ⟨i,M,rfl,hai,hib,hg,I⟩:=hrel;by_cases hlt:i<b
  ·have IM:=I.out.1.len;go_wp2;go_loopg [9] (i+1) (λgk sj wr=>∃ (j:Nat) (M:List Int),sj=.int .i64 j/\a<=j/\j<=i/\j<gk/\Hid (Norm.Ar a b d M/\Norm.Gap M a i j/\Seg p M wr))
   case atStart=>exact ⟨i,M,rfl,by omega,jaa _,by omega,⟨I.out.1,Norm.Gap.start I.out.2.1,I.out.2.2⟩⟩
   case round =>
    clear I IM;obtain ⟨j,M,rfl,haj,hji,hgj,J⟩:=hrel;have hML:=J.out.1.len;by_cases hja:a<j
    ·obtain ⟨k,rfl⟩:∃ k,j=k+1:=⟨j - 1,by omega⟩
     rw [show ((k+1:Nat):Int)=(k:Int)+1 by omega];have hjz:(a:Int)<(k:Int)+1:=jO
     obtain ⟨x,hx⟩:∃ x,x=M[k+1]!:=⟨_,rfl⟩
     obtain ⟨y,hy⟩:∃ y,y=M[k]!:=⟨_,rfl⟩
     have c1:=J.out.2.2.cell (k+1) jO;have c2:=J.out.2.2.cell k jO;rw [<- hx] at c1;rw [<- hy] at c2;have K:=jH (HP.out.cmp x y wr.drew J.out.2.2.drew.2.1);have HX:=jH hx;have HY:=jH hy;clear hx hy;have g1:(0:Int)<=(k:Int):=jO
     have g4:IntKind.i64.wrap (k:Int)=(k:Int):=by rw [IntWalk.i64_in _ jO]
     have g0:(0:Int)<=(k:Int)+1:=jO
     have g2:(k:Int)+1<(d.length:Int):=jO
     have g3:(k:Int)<(d.length:Int):=jO
     by_cases hc:Ad x<Ad y
     ·rw [Ow hc] at K;have HCC:=jH hc;clear hc;go_wp2;go_region_held3 (λw'=>w'.cell? ⟨p.g,p.o+(k+1),none⟩=some (.int .i32 x)/\w'.cell? ⟨p.g,p.o+k,none⟩=some (.int .i32 y)) (go_keep) ((go_at_call 303;(with_reducible refine K.out.mono ?_);rintro e w2 ⟨rfl,hb2⟩;have S2:=jH (J.out.2.2.next HP.out (Ag hb2));have d1:=S2.out.cell (k+1) jO;have d2:=S2.out.cell k jO;rw [<- HX.out] at d1;rw [<- HY.out] at d2;have f1:=S2.out.free (k+1);have f2:=S2.out.free k;clear hb2 c1 c2))
      all_goals
       have J2:Hid (Norm.Ar a b d (Norm.Gb M k)/\Norm.Gap (Norm.Gb M k) a i k/\Seg p (Norm.Gb M k) (((w2.setCell ⟨p.g,p.o+(k+1),none⟩ (.int .i32 y)).setCell ⟨p.g,p.o+k,none⟩ (.int .i32 x)).drew)):=by
        have hcc:Ad M[k+1]!<Ad M[k]!:=by rw [<- HX.out,<- HY.out];exact HCC.out
        refine ⟨J.out.1.trans (Norm.Ar.Gb M jO jO jO hcc),J.out.2.1.Gb jO jO jO hcc,?_⟩;have:=((S2.out.put (k+1) jO y).put k (by rw [List.length_set];omega) x).drew;rwa [show (M.set (k+1) y).set k x=Norm.Gb M k by unfold Norm.Gb;rw [List.set_comm _ _ jO,HX.out,HY.out]] at this
       clear J S2;go_wp2;go_region;go_wp2;go_roundg (k+1)
       case measure=>omega
       case rel=>exact ⟨k,_,by go_num,by omega,by omega,by omega,J2⟩
     ·have hv:=Rs (a:=Ad x) (b:=Ad y) jO;have hv1:=(Rt (Ad x) (Ad y)).2;generalize Lx (Ad x) (Ad y)=v at K hv hv1;have U:=jH (J.out.2.1.done (.inr ⟨hja,by rw [Nat.add_sub_cancel,<- HX.out,<- HY.out];omega⟩));have JM:=jH J.out.1;clear hc;go_wp2;go_region_held3 (λw'=>w'.cell? ⟨p.g,p.o+(k+1),none⟩=some (.int .i32 x)/\w'.cell? ⟨p.g,p.o+k,none⟩=some (.int .i32 y)) (go_keep) ((go_at_call 303;(with_reducible refine K.out.mono ?_);rintro e w2 ⟨rfl,hb2⟩;have S2:=jH (J.out.2.2.next HP.out (Ag hb2));have d1:=S2.out.cell (k+1) jO;have d2:=S2.out.cell k jO;rw [<- HX.out] at d1;rw [<- HY.out] at d2;clear hb2 c1 c2))
      all_goals
       clear J;go_wp2;go_roundg (b+1 - i)
       case measure=>omega
       case rel=>exact ⟨i+1,M,by go_num,by omega,by omega,by omega,⟨JM.out,U.out,S2.out⟩⟩
    ·obtain rfl:j=a:=jO
     have hjz:¬ (j:Int)<(j:Int):=jO
     have U:=jH (J.out.2.1.done (.inl rfl));have JM:=jH J.out.1;have S2:=jH J.out.2.2;clear J;go_wp2;go_quiet (fail);go_wp2;go_roundg (b+1 - i)
     case measure=>omega
     case rel=>exact ⟨i+1,M,by go_num,by omega,by omega,by omega,⟨JM.out,U.out,S2.out.drewN _⟩⟩
  ·have U:=jH (I.out.2.1.part (jaa a) (show b<=i by omega));have hz:¬ (i:Int)<(b:Int):=jO
   go_wp2;go_end0;exact ⟨M,rfl,⟨I.out.1,U.out⟩,I.out.2.2⟩
end
section
open Go.RowKit Utf
namespace Norm
structure Aba (a k:Nat) (L M:List Int):Prop where
 len:M.length=L.length
 low:∀ t,a<=t->t<k->M[t]! = L[t+1]!
 one:M[k]! = L[a]!
 out:∀ t,t<a\/k<t->M[t]! = L[t]!
theorem Aba.start (a:Nat) (L:List Int):Aba a a L L:=⟨rfl,λt h1 h2=>by omega,rfl,λ_ _=>rfl⟩
theorem Aba.next {a k:Nat} {L M:List Int} (h:Aba a k L M) (hk:k+1<L.length) (ha:a<=k):Aba a (k+1) L (Gb M k):=by
 have hl:=h.len;have e:=λi=>Jk M k i jO;refine ⟨(Aax _ _).trans hl,λt h1 h2=>?_,?_,λt ht=>?_⟩
 ·rw [e,if_neg jO];by_cases hk:t=k
  · subst hk;rw [if_pos rfl];exact h.out _ jO
  · rw [if_neg hk];exact h.low t h1 jO
 ·rw [e,if_pos rfl];exact h.one
 ·rw [e,if_neg jO,if_neg jO];exact h.out t jO
theorem Aba.up {a k b:Nat} {L M:List Int} (h:Aba a k L M) (ha:a<=k) (hkb:k<b) (u:Up L (a+1) b) (hlo:∀ t,a<t->t<=k->Ad L[t]!<Ad L[a]!) (hhi:∀ t,k<t->t<b->Ad L[a]!<=Ad L[t]!):Up M a b:=by
 intro x y h1 h2 h3;by_cases x1:x<k
 ·rw [h.low x h1 x1];by_cases y1:y<k
  ·rw [h.low y jO y1];exact u _ _ jO jO jO
  ·by_cases y2:y=k
   · subst y2;rw [h.one];exact Int.le_of_lt (hlo _ jO jO)
   · rw [h.out y jO];exact u.le jO jO jO
 ·by_cases x2:x=k
  ·subst x2;rw [h.one,h.out y jO];exact hhi y jO h3
  ·rw [h.out x jO,h.out y jO];exact u _ _ jO h2 h3
structure Im (m k:Nat) (L M:List Int):Prop where
 len:M.length=L.length
 hig:∀ t,k<t->t<=m->M[t]! = L[t - 1]!
 one:M[k]! = L[m]!
 out:∀ t,t<k\/m<t->M[t]! = L[t]!
theorem Im.start (m:Nat) (L:List Int):Im m m L L:=⟨rfl,λt h1 h2=>by omega,rfl,λ_ _=>rfl⟩
theorem Im.next {m k:Nat} {L M:List Int} (h:Im m (k+1) L M) (hk:k+1<=m) (hm:m<L.length):Im m k L (Gb M k):=by
 have hl:=h.len;have e:=λi=>Jk M k i jO;refine ⟨(Aax _ _).trans hl,λt h1 h2=>?_,?_,λt ht=>?_⟩
 ·rw [e];by_cases hk:t=k+1
  · subst hk;rw [if_pos rfl,Nat.add_sub_cancel];exact h.out _ jO
  · rw [if_neg hk,if_neg jO];exact h.hig t jO h2
 ·rw [e,if_neg jO,if_pos rfl];exact h.one
 ·rw [e,if_neg jO,if_neg jO];exact h.out t jO
theorem Im.up {a k m:Nat} {L M:List Int} (h:Im m k L M) (ha:a<=k) (hkm:k<=m) (u:Up L a m) (hlo:∀ t,a<=t->t<k->Ad L[t]!<=Ad L[m]!) (hhi:∀ t,k<=t->t<m->Ad L[m]!<Ad L[t]!):Up M a (m+1):=by
 intro x y h1 h2 h3;by_cases x1:x<k
 ·rw [h.out x jO];by_cases y1:y<k
  ·rw [h.out y jO];exact u _ _ h1 h2 jO
  ·by_cases y2:y=k
   · subst y2;rw [h.one];exact hlo _ h1 x1
   · rw [h.hig y jO jO];exact u.le h1 jO jO
 ·rw [h.hig y jO jO];by_cases x2:x=k
  ·subst x2;rw [h.one];exact Int.le_of_lt (hhi _ jO jO)
  ·rw [h.hig x jO jO];exact u _ _ jO jO jO
end Norm
def Ahq (p:Place) (bt n cc a m b:Nat):Prop:=∀ (d:List Int) (w:World),Seg p d w->d.length=n->Norm.Up d a m->Norm.Up d m b ->
 Calls prog 343 #[.slice (some ⟨p.g,p.o,none⟩) n cc,.int .i64 a,.int .i64 m,.int .i64 b,.func (.func 303) #[] #[.pointer (some ⟨bt,0,none⟩)]] w (Ab7 p (λM=>Norm.Ar a b d M/\Norm.Up M a b))
theorem A2c {M:List Int} {k:Nat} {x y:Int} (hx:x=M[k]!) (hy:y=M[k+1]!):(M.set k y).set (k+1) x=Norm.Gb M k:=by unfold Norm.Gb;rw [hx,hy]
theorem Aw0 {M:List Int} {k:Nat} {x y:Int} (hx:x=M[k]!) (hy:y=M[k+1]!):(M.set (k+1) x).set k y=Norm.Gb M k:=by unfold Norm.Gb;rw [List.set_comm _ _ jO,hx,hy]
theorem A4s {p:Place} {bt:Nat} (hp:Ps p bt) (n cc a b:Nat) (hb:a+1<b) (hbn:b<=n) (hn:n<=1000000):Ahq p bt n cc a (a+1) b:=by
 intro d w hs hdn u1 u2;have HS:=jH hs;have HP:=jH hp;have U2:=jH u2;obtain ⟨x,hx⟩:∃ x,x=d[a]!:=⟨_,rfl⟩
 have HX:=jH hx;have HD:=jH hdn;clear hs hp u1 u2 hx hdn;obtain ⟨m,hm⟩:∃ m,m=a+1:=⟨_,rfl⟩
 rw [<- hm] at U2 hb ⊢;have hma:(m:Int) - (a:Int)=1:=jO
 have hm1:a<m:=jO
 have hm2:m<=a+1:=jO
 have HM:=jH hm;clear hm;go_enter func343,ntmps343;go_wp2;go_loopg [10,11,12] (b+1) (λgk si sj _ wr=>∃ (i j:Nat),si=.int .i64 i/\sj=.int .i64 j/\m<=i/\i<=j/\j<=b/\j - i<gk/\Hid (Seg p d wr/\(∀ t,a<t->t<i->Ad d[t]!<Ad x)/\(∀ t,j<=t->t<b->Ad x<=Ad d[t]!)))
 case atStart=>exact ⟨m,b,rfl,rfl,jaa _,by omega,jaa _,by omega,⟨HS.out,λt h1 h2=>by omega,λt h1 h2=>by omega⟩⟩
 case round =>
  obtain ⟨i,j,rfl,rfl,hi,hij,hjb,hg,I⟩:=hrel;by_cases hlt:i<j
  ·obtain ⟨h,hh⟩:∃ h,h=(i+j) / 2:=⟨_,rfl⟩
   have hz:((i:Int)+(j:Int)) / 2=(h:Int):=jO
   have e1:i<=h:=jO
   have e2:h<j:=jO
   have HH:=jH hh;obtain ⟨y,hy⟩:∃ y,y=d[h]!:=⟨_,rfl⟩
   have HY:=jH hy;have c1:=I.out.1.cell h (by have:=HD.out;omega);have c2:=I.out.1.cell a (by have:=HD.out;omega);rw [<- hy] at c1;rw [<- HX.out] at c2;have K:=jH (HP.out.cmp y x wr.drew I.out.1.drew.2.1);clear hh hy;have g1:(0:Int)<=(h:Int):=jO
   have g2:(h:Int)<(n:Int):=jO
   have g3:(0:Int)<=(a:Int):=jO
   have g4:(a:Int)<(n:Int):=jO
   by_cases hc:Ad y<Ad x
   ·rw [Ow hc] at K;have HC:=jH hc;clear hc;go_wp2;go_region_held3 (λw'=>w'.cell? ⟨p.g,p.o+h,none⟩=some (.int .i32 y)/\w'.cell? ⟨p.g,p.o+a,none⟩=some (.int .i32 x)) (go_keep) ((go_at_call 303;(with_reducible refine K.out.mono ?_);rintro e w2 ⟨rfl,hb2⟩;have S2:=jH (I.out.1.next HP.out (Ag hb2));have d1:=S2.out.cell h (by have:=HD.out;omega);have d2:=S2.out.cell a (by have:=HD.out;omega);rw [<- HY.out] at d1;rw [<- HX.out] at d2;clear hb2 c1 c2))
    all_goals
     have J:Hid (Seg p d w2/\(∀ t,a<t->t<h+1->Ad d[t]!<Ad x)/\(∀ t,j<=t->t<b->Ad x<=Ad d[t]!)) :=
      ⟨S2.out,λt h1 h2=>Int.lt_of_le_of_lt (U2.out.le (i:=t) (j:=h) jO jO jO) (by rw [<- HY.out];exact HC.out),I.out.2.2⟩
     clear I d1 d2;go_wp2;go_roundg (j - i)
     case measure=>omega
     case rel=>exact ⟨h+1,j,by go_num,rfl,by omega,by omega,hjb,by omega,J⟩
   ·have hv:=Rs (a:=Ad y) (b:=Ad x) jO;have hv1:=(Rt (Ad y) (Ad x)).2;generalize Lx (Ad y) (Ad x)=v at K hv hv1;have HC:=jH hc;clear hc;go_wp2;go_region_held3 (λw'=>w'.cell? ⟨p.g,p.o+h,none⟩=some (.int .i32 y)/\w'.cell? ⟨p.g,p.o+a,none⟩=some (.int .i32 x)) (go_keep) ((go_at_call 303;(with_reducible refine K.out.mono ?_);rintro e w2 ⟨rfl,hb2⟩;have S2:=jH (I.out.1.next HP.out (Ag hb2));have d1:=S2.out.cell h (by have:=HD.out;omega);have d2:=S2.out.cell a (by have:=HD.out;omega);rw [<- HY.out] at d1;rw [<- HX.out] at d2;clear hb2 c1 c2))
    all_goals
     have J:Hid (Seg p d w2/\(∀ t,a<t->t<i->Ad d[t]!<Ad x)/\(∀ t,h<=t->t<b->Ad x<=Ad d[t]!)) :=
      ⟨S2.out,I.out.2.1,λt h1 h2=>Int.le_trans (by have:=HC.out;rw [<- HY.out];omega) (U2.out.le (i:=h) (j:=t) jO jO jO)⟩
     clear I d1 d2;go_wp2;go_roundg (j - i)
     case measure=>omega
     case rel=>exact ⟨i,h,rfl,rfl,by omega,by omega,by omega,by omega,J⟩
  ·obtain rfl:i=j:=jO
   go_wp2;go_loopg [13] (b+1) (λgk sk wr=>∃ (k:Nat) (M:List Int),sk=.int .i64 k/\a<=k/\k<i/\i - k<gk/\Hid (Seg p M wr/\Norm.Ar a b d M/\Norm.Aba a k d M))
   case atStart=>exact ⟨a,d,rfl,jaa _,by omega,by omega,⟨I.out.1,Norm.Ar.refl _ _ _,Norm.Aba.start _ _⟩⟩
   case round =>
    obtain ⟨k,M,rfl,hak,hki,hgk,J⟩:=hrel;by_cases hkl:k+1<i
    ·have hkz:(k:Int)<(i:Int) - 1:=jO
     have hML:=J.out.2.1.len;obtain ⟨y,hy⟩:∃ y,y=M[k+1]!:=⟨_,rfl⟩
     obtain ⟨z,hzz⟩:∃ z,z=M[k]!:=⟨_,rfl⟩
     have c1:=J.out.1.cell (k+1) (by have:=HD.out;omega);have c2:=J.out.1.cell k (by have:=HD.out;omega);rw [<- hy] at c1;rw [<- hzz] at c2;have f1:=J.out.1.free (k+1);have f2:=J.out.1.free k;have J2:Hid (Seg p (Norm.Gb M k) (((wr.setCell ⟨p.g,p.o+k,none⟩ (.int .i32 y)).setCell ⟨p.g,p.o+(k+1),none⟩ (.int .i32 z)).drew)/\Norm.Ar a b d (Norm.Gb M k)/\Norm.Aba a (k+1) d (Norm.Gb M k)):=by
      have hdl:=HD.out;refine ⟨?_,J.out.2.1.trans (Norm.Ar.Gb M hak jO jO ?_),J.out.2.2.next jO hak⟩
      ·have:=((J.out.1.put k jO y).put (k+1) (by rw [List.length_set];omega) z).drew;rwa [A2c hzz hy] at this
      ·rw [J.out.2.2.one,J.out.2.2.out (k+1) jO,<- HX.out];exact I.out.2.1 (k+1) jO hkl
     clear J hy hzz;go_wp2;go_region;go_wp2;go_roundg (i - k)
     case measure=>omega
     case rel=>exact ⟨k+1,_,by go_num,by omega,by omega,by omega,J2⟩
    ·obtain rfl:i=k+1:=jO
     have hkz:¬ (k:Int)<((k+1:Nat):Int) - 1:=jO
     have R:=jH (J.out.2.2.up hak jO (HM.out ▸ U2.out) (λt h1 h2=>by rw [<- HX.out];exact I.out.2.1 t h1 jO) (λt h1 h2=>by rw [<- HX.out];exact I.out.2.2 t jO h2));go_wp2;refine bodyPost_ret (results_none rfl _ _ _) rfl ?_;exact ⟨M,rfl,⟨J.out.2.1,R.out⟩,J.out.1⟩
end
section
open Go.RowKit Utf
theorem A4t {p:Place} {bt:Nat} (hp:Ps p bt) (n cc a m:Nat) (ha:a+1<m) (hbn:m+1<=n) (hn:n<=1000000):Ahq p bt n cc a m (m+1):=by
 intro d w hs hdn u1 u2;have HS:=jH hs;have HP:=jH hp;have U1:=jH u1;obtain ⟨x,hx⟩:∃ x,x=d[m]!:=⟨_,rfl⟩
 have HX:=jH hx;have HD:=jH hdn;clear hs hp u1 u2 hx hdn;obtain ⟨b,hm⟩:∃ b,b=m+1:=⟨_,rfl⟩
 rw [<- hm];rw [<- hm] at hbn;have hma:((m:Int) - (a:Int) == 1)=false:=by rw [beq_eq_false_iff_ne];omega
 have hbm:(b:Int) - (m:Int)=1:=jO
 have hm1:m<b:=jO
 have hm2:b<=m+1:=jO
 have HM:=jH hm;clear hm;go_enter func343,ntmps343;go_wp2;go_loopg [14,15,16] (b+1) (λgk si sj _ wr=>∃ (i j:Nat),si=.int .i64 i/\sj=.int .i64 j/\a<=i/\i<=j/\j<=m/\j - i<gk/\Hid (Seg p d wr/\(∀ t,a<=t->t<i->Ad d[t]!<=Ad x)/\(∀ t,j<=t->t<m->Ad x<Ad d[t]!)))
 case atStart=>exact ⟨a,m,rfl,rfl,jaa _,by omega,jaa _,by omega,⟨HS.out,λt h1 h2=>by omega,λt h1 h2=>by omega⟩⟩
 case round =>
  obtain ⟨i,j,rfl,rfl,hi,hij,hjm,hg,I⟩:=hrel;by_cases hlt:i<j
  ·obtain ⟨h,hh⟩:∃ h,h=(i+j) / 2:=⟨_,rfl⟩
   have hz:((i:Int)+(j:Int)) / 2=(h:Int):=jO
   have e1:i<=h:=jO
   have e2:h<j:=jO
   have HH:=jH hh;obtain ⟨y,hy⟩:∃ y,y=d[h]!:=⟨_,rfl⟩
   have HY:=jH hy;have c1:=I.out.1.cell h (by have:=HD.out;omega);have c2:=I.out.1.cell m (by have:=HD.out;omega);rw [<- hy] at c1;rw [<- HX.out] at c2;have K:=jH (HP.out.cmp x y wr.drew I.out.1.drew.2.1);clear hh hy;have g1:(0:Int)<=(h:Int):=jO
   have g2:(h:Int)<(n:Int):=jO
   have g3:(0:Int)<=(m:Int):=jO
   have g4:(m:Int)<(n:Int):=jO
   by_cases hc:Ad x<Ad y
   ·rw [Ow hc] at K;have HC:=jH hc;clear hc;go_wp2;go_region_held3 (λw'=>w'.cell? ⟨p.g,p.o+h,none⟩=some (.int .i32 y)/\w'.cell? ⟨p.g,p.o+m,none⟩=some (.int .i32 x)) (go_keep) ((go_at_call 303;(with_reducible refine K.out.mono ?_);rintro e w2 ⟨rfl,hb2⟩;have S2:=jH (I.out.1.next HP.out (Ag hb2));have d1:=S2.out.cell h (by have:=HD.out;omega);have d2:=S2.out.cell m (by have:=HD.out;omega);rw [<- HY.out] at d1;rw [<- HX.out] at d2;clear hb2 c1 c2))
    all_goals
     have J:Hid (Seg p d w2/\(∀ t,a<=t->t<i->Ad d[t]!<=Ad x)/\(∀ t,h<=t->t<m->Ad x<Ad d[t]!)) :=
      ⟨S2.out,I.out.2.1,λt h1 h2=>Int.lt_of_lt_of_le (by have:=HC.out;rw [<- HY.out];omega) (U1.out.le (i:=h) (j:=t) jO jO jO)⟩
     clear I d1 d2;go_wp2;go_roundg (j - i)
     case measure=>omega
     case rel=>exact ⟨i,h,rfl,rfl,by omega,by omega,by omega,by omega,J⟩
   ·have hv:=Rs (a:=Ad x) (b:=Ad y) jO;have hv1:=(Rt (Ad x) (Ad y)).2;generalize Lx (Ad x) (Ad y)=v at K hv hv1;have HC:=jH hc;have hvd:decide (v<0)=false:=by rw [decide_eq_false_iff_not];omega
    clear hc;go_wp2;go_region_held3 (λw'=>w'.cell? ⟨p.g,p.o+h,none⟩=some (.int .i32 y)/\w'.cell? ⟨p.g,p.o+m,none⟩=some (.int .i32 x)) (go_keep) ((go_at_call 303;(with_reducible refine K.out.mono ?_);rintro e w2 ⟨rfl,hb2⟩;have S2:=jH (I.out.1.next HP.out (Ag hb2));have d1:=S2.out.cell h (by have:=HD.out;omega);have d2:=S2.out.cell m (by have:=HD.out;omega);rw [<- HY.out] at d1;rw [<- HX.out] at d2;clear hb2 c1 c2))
    all_goals
     have J:Hid (Seg p d w2/\(∀ t,a<=t->t<h+1->Ad d[t]!<=Ad x)/\(∀ t,j<=t->t<m->Ad x<Ad d[t]!)) :=
      ⟨S2.out,λt h1 h2=>Int.le_trans (U1.out.le (i:=t) (j:=h) jO jO jO) (by have:=HC.out;rw [<- HY.out];omega),I.out.2.2⟩
     clear I d1 d2;go_wp2;go_roundg (j - i)
     case measure=>omega
     case rel=>exact ⟨h+1,j,by go_num,rfl,by omega,by omega,hjm,by omega,J⟩
  ·obtain rfl:i=j:=jO
   go_wp2;go_loopg [17] (b+1) (λgk sk wr=>∃ (k:Nat) (M:List Int),sk=.int .i64 k/\i<=k/\k<=m/\k<gk/\Hid (Seg p M wr/\Norm.Ar a b d M/\Norm.Im m k d M))
   case atStart=>exact ⟨m,d,rfl,by omega,jaa _,by omega,⟨I.out.1,Norm.Ar.refl _ _ _,Norm.Im.start _ _⟩⟩
   case round =>
    obtain ⟨k,M,rfl,hik,hkm,hgk,J⟩:=hrel;by_cases hkl:i<k
    ·obtain ⟨k,rfl⟩:∃ k',k=k'+1:=⟨k - 1,by omega⟩
     rw [show ((k+1:Nat):Int)=(k:Int)+1 by omega];have hkz:(i:Int)<(k:Int)+1:=jO
     have hML:=J.out.2.1.len;obtain ⟨y,hy⟩:∃ y,y=M[k+1]!:=⟨_,rfl⟩
     obtain ⟨z,hzz⟩:∃ z,z=M[k]!:=⟨_,rfl⟩
     have c1:=J.out.1.cell (k+1) (by have:=HD.out;omega);have c2:=J.out.1.cell k (by have:=HD.out;omega);rw [<- hy] at c1;rw [<- hzz] at c2;have f1:=J.out.1.free (k+1);have f2:=J.out.1.free k;have J2:Hid (Seg p (Norm.Gb M k) (((wr.setCell ⟨p.g,p.o+(k+1),none⟩ (.int .i32 z)).setCell ⟨p.g,p.o+k,none⟩ (.int .i32 y)).drew)/\Norm.Ar a b d (Norm.Gb M k)/\Norm.Im m k d (Norm.Gb M k)):=by
      have hdl:=HD.out;refine ⟨?_,J.out.2.1.trans (Norm.Ar.Gb M jO jO jO ?_),J.out.2.2.next jO jO⟩
      ·have:=((J.out.1.put (k+1) jO z).put k (by rw [List.length_set];omega) y).drew;rwa [Aw0 hzz hy] at this
      ·rw [J.out.2.2.one,J.out.2.2.out k jO,<- HX.out];exact I.out.2.2 k jO jO
     clear J hy hzz;go_wp2;go_region;go_wp2;go_roundg (k+1)
     case measure=>omega
     case rel=>exact ⟨k,_,by go_num,by omega,by omega,by omega,J2⟩
    ·obtain rfl:i=k:=jO
     have hkz:¬ (i:Int)<(i:Int):=jO
     have R:=jH (J.out.2.2.up (a:=a) hi jO U1.out (λt h1 h2=>by rw [<- HX.out];exact I.out.2.1 t h1 h2) (λt h1 h2=>by rw [<- HX.out];exact I.out.2.2 t h1 h2));go_wp2;refine bodyPost_ret (results_none rfl _ _ _) rfl ?_;exact ⟨M,rfl,⟨J.out.2.1,by rw [HM.out];exact R.out⟩,J.out.1⟩
end
section
open Go.RowKit Utf
namespace Norm
structure Span (a m b mid s0 r0:Nat):Prop where
 mid2:2*mid<=a+b/\a+b<=2*mid+1
 am:a<m
 mb:m<b
 as0:a<=s0
 sr:s0<=r0
 rm:r0<=m
 rmid:r0<=mid
 low:mid+m<=s0+b
 sEnd:s0=a\/mid+m=s0+b
 rEnd:r0=m\/r0=mid
theorem A1w {a m b mid:Nat} (h1:a+1<m) (h2:m+1<b) (h3:2*mid<=a+b/\a+b<=2*mid+1):(mid<m/\Span a m b mid (mid+m - b) mid)\/(m<=mid/\Span a m b mid a m):=by
 by_cases h:mid<m
 · exact .inl ⟨h,⟨h3,by omega,by omega,by omega,by omega,by omega,by omega,by omega,by omega,by omega⟩⟩
 · exact .inr ⟨by omega,⟨h3,by omega,by omega,by omega,by omega,by omega,by omega,by omega,by omega,by omega⟩⟩
structure Lp (a m b mid s0 r0 s r:Nat) (L:List Int):Prop where
 span:Span a m b mid s0 r0
 u1:Up L a m
 u2:Up L m b
 s0s:s0<=s
 sr:s<=r
 rr0:r<=r0
 low:∀ t,s0<=t->t<s->Ad L[t]!<=Ad L[mid+m - 1 - t]!
 hig:∀ t,r<=t->t<r0->Ad L[mid+m - 1 - t]!<Ad L[t]!
theorem Lp.start {a m b mid s0 r0:Nat} {L:List Int} (h:Span a m b mid s0 r0) (u1:Up L a m) (u2:Up L m b):Lp a m b mid s0 r0 s0 r0 L :=
 ⟨h,u1,u2,jaa _,h.sr,jaa _,λt h1 h2=>by omega,λt h1 h2=>by omega⟩
theorem Lp.up {a m b mid s0 r0 s r c:Nat} {L:List Int} (h:Lp a m b mid s0 r0 s r L) (h1:s<=c) (h2:c<r) (hc:Ad L[c]!<=Ad L[mid+m - 1 - c]!):Lp a m b mid s0 r0 (c+1) r L:=by
 obtain ⟨hs,u1,u2,e1,e2,e3,lo,hi⟩:=h;obtain ⟨k1,k2,k3,k4,k5,k6,k7,k8,k9,k10⟩:=hs;refine ⟨⟨k1,k2,k3,k4,k5,k6,k7,k8,k9,k10⟩,u1,u2,by omega,by omega,e3,λt t1 t2=>?_,hi⟩;exact Int.le_trans (u1.le (i:=t) (j:=c) jO jO jO) (Int.le_trans hc (u2.le jO jO jO))
theorem Lp.down {a m b mid s0 r0 s r c:Nat} {L:List Int} (h:Lp a m b mid s0 r0 s r L) (h1:s<=c) (h2:c<r) (hc:Ad L[mid+m - 1 - c]!<Ad L[c]!):Lp a m b mid s0 r0 s c L:=by
 obtain ⟨hs,u1,u2,e1,e2,e3,lo,hi⟩:=h;obtain ⟨k1,k2,k3,k4,k5,k6,k7,k8,k9,k10⟩:=hs;refine ⟨⟨k1,k2,k3,k4,k5,k6,k7,k8,k9,k10⟩,u1,u2,e1,h1,by omega,lo,λt t1 t2=>?_⟩;exact Int.lt_of_le_of_lt (u2.le (i:=mid+m - 1 - t) (j:=mid+m - 1 - c) jO jO jO) (Int.lt_of_lt_of_le hc (u1.le jO jO jO))
structure Found (a m b mid s e:Nat) (L:List Int):Prop where
 u1:Up L a m
 u2:Up L m b
 h1:a<=s
 h2:s<=m
 h3:m<=e
 h4:e<=b
 hse:s+e=mid+m
 hm:s<=mid
 lo:∀ c d,a<=c->c<s->e<=d->d<b->Ad L[c]!<=Ad L[d]!
 hi:∀ i j,s<=i->i<m->m<=j->j<e->Ad L[j]!<Ad L[i]!
theorem Lp.found {a m b mid s0 r0 s:Nat} {L:List Int} (h:Lp a m b mid s0 r0 s s L):Found a m b mid s (mid+m - s) L:=by
 obtain ⟨hs,u1,u2,e1,e2,e3,lo,hi⟩:=h;obtain ⟨k1,k2,k3,k4,k5,k6,k7,k8,k9,k10⟩:=hs;refine ⟨u1,u2,by omega,by omega,by omega,by omega,by omega,by omega,λc d c1 c2 d1 d2=>?_,λi j i1 i2 j1 j2=>?_⟩
 ·have hx:=lo (s - 1) jO jO;rw [show mid+m - 1 - (s - 1)=mid+m - s by omega] at hx;exact Int.le_trans (u1.le (i:=c) (j:=s - 1) jO jO jO) (Int.le_trans hx (u2.le jO jO jO))
 ·have hx:=hi s (jaa _) jO;exact Int.lt_of_le_of_lt (u2.le (i:=j) (j:=mid+m - 1 - s) jO jO jO) (Int.lt_of_lt_of_le hx (u1.le jO jO jO))
theorem Found.done {a m b mid s e:Nat} {L L1 L2 L3:List Int} (h:Found a m b mid s e L) (hb:b<=L.length) (hR:Rot s m e L L1) (k2:Ar a mid L1 L2) (v2:Up L2 a mid) (k3:Ar mid b L2 L3) (v3:Up L3 mid b):Ar a b L L3/\Up L3 a b :=
 merged h.h1 h.h2 h.h3 h.h4 h.hse h.hm hb h.u1 h.u2 h.lo h.hi hR k2 v2 k3 v3
theorem Found.Hj {a m b mid s e:Nat} {L L1:List Int} (h:Found a m b mid s e L) (hR:Rot s m e L L1):Up L1 a s/\Up L1 s mid/\Up L1 mid e/\Up L1 e b :=
 hR.Hj h.h1 h.h2 h.h3 h.h4 h.hse h.u1 h.u2
theorem Ar.far {a b c:Nat} {L M:List Int} (h:Ar a b L M) {x y:Nat} (hx:b<=x) (u:Up L x y) (_:c=y):Up M x y:=u.same λi h1 _=>h.out i jO
end Norm
theorem A11 {p:Place} {bt:Nat} (hp:Ps p bt) (n cc a m b:Nat) (ha:a+1<m) (hmb:m+1<b) (hbn:b<=n) (hn:n<=1000000)
  (ih:∀ a' m' b',a'<m'->m'<b'->b'<=n->b' - a'<b - a->Ahq p bt n cc a' m' b'):Ahq p bt n cc a m b:=by
 intro d w hs hdn u1 u2;have HS:=jH hs;have HP:=jH hp;have HD:=jH hdn;have IH:=jH ih;obtain ⟨mid,hmid⟩:∃ mid,mid=(a+b) / 2:=⟨_,rfl⟩
 have hz:((a:Int)+(b:Int)) / 2=(mid:Int):=jO
 obtain ⟨N,hN⟩:∃ N,N=mid+m:=⟨_,rfl⟩
 have hNz:(mid:Int)+(m:Int)=(N:Int):=jO
 obtain ⟨P,hP⟩:∃ P,P=N - 1:=⟨_,rfl⟩
 have hPz:(N:Int) - 1=(P:Int):=jO
 have hma:((m:Int) - (a:Int) == 1)=false:=by rw [beq_eq_false_iff_ne];omega
 have hbm:((b:Int) - (m:Int) == 1)=false:=by rw [beq_eq_false_iff_ne];omega
 have hm1:a<mid:=jO
 have hm2:mid<b:=jO
 have hP1:P<N:=jO
 have hN1:N<=mid+m:=jO
 have hN2:mid+m<=N:=jO
 have hP2:N<=P+1:=jO
 have SP:=jH (Norm.A1w ha hmb (mid:=mid) jO);have HN:=jH hN;have HPP:=jH hP;have UU:=jH (And.intro u1 u2);clear hs hp hdn ih hmid hN hP u1 u2;obtain ⟨s0,r0,SK,hcase⟩:∃ s0 r0,Hid (Norm.Lp a m b mid s0 r0 s0 r0 d)/\((mid<m/\(N:Int) - (b:Int)=(s0:Int)/\mid=r0)\/(m<=mid/\a=s0/\m=r0)):=by
  rcases SP.out with ⟨h1,h2⟩ | ⟨h1,h2⟩
  ·have:=h2.low;have:=h2.as0;exact ⟨mid+m - b,mid,Norm.Lp.start h2 UU.out.1 UU.out.2,.inl ⟨h1,by omega,rfl⟩⟩
  ·exact ⟨a,m,Norm.Lp.start h2 UU.out.1 UU.out.2,.inr ⟨h1,rfl,rfl⟩⟩
 clear SP UU;rcases hcase with ⟨hlt,hs0,rfl⟩ | ⟨hlt,rfl,rfl⟩
 ·go_enter func343,ntmps343;go_wp2;go_loopg [20,21,23] (b+1) (λgk ss sr _ wr=>∃ (s r:Nat),ss=.int .i64 s/\sr=.int .i64 r/\a<=s/\s<=r/\r<=m/\r<=mid/\N<=s+b/\r - s<gk/\Hid (Seg p d wr/\Norm.Lp a m b mid s0 mid s r d))
  case atStart =>
   have h1:=SK.out.span;obtain ⟨k1,k2,k3,k4,k5,k6,k7,k8,k9,k10⟩:=h1;exact ⟨_,_,rfl,rfl,by omega,by omega,by omega,by omega,by omega,by omega,⟨HS.out,SK.out⟩⟩
  case round =>
   obtain ⟨s,r,rfl,rfl,has,hsr,hrm,hrmid,hsb,hg,I⟩:=hrel;by_cases hlt2:s<r
   ·obtain ⟨c,hc⟩:∃ c,c=(s+r) / 2:=⟨_,rfl⟩
    have hcz:((s:Int)+(r:Int)) / 2=(c:Int):=jO
    have e1:s<=c:=jO
    have e2:c<r:=jO
    obtain ⟨q,hq⟩:∃ q,q=P - c:=⟨_,rfl⟩
    have hqz:(P:Int) - (c:Int)=(q:Int):=jO
    have e3:q<n:=jO
    obtain ⟨x,hx⟩:∃ x,x=d[c]!:=⟨_,rfl⟩
    obtain ⟨y,hy⟩:∃ y,y=d[q]!:=⟨_,rfl⟩
    have hyq:y=d[mid+m - 1 - c]!:=by rw [hy,hq,HPP.out,HN.out]
    have HX:=jH hx;have HY:=jH hy;have HQ:=jH hyq;have c1:=I.out.1.cell q (by have:=HD.out;omega);have c2:=I.out.1.cell c (by have:=HD.out;omega);rw [<- hy] at c1;rw [<- hx] at c2;have K:=jH (HP.out.cmp y x wr.drew I.out.1.drew.2.1);have g1:(0:Int)<=(q:Int):=jO
    have g2:(q:Int)<(n:Int):=jO
    have g3:(0:Int)<=(c:Int):=jO
    have g4:(c:Int)<(n:Int):=jO
    have g5:IntKind.i64.wrap (q:Int)=(q:Int):=by rw [IntWalk.i64_in _ jO]
    clear hc hq hx hy hyq;by_cases hc:Ad y<Ad x
    ·rw [Ow hc] at K;have HC:=jH hc;clear hc;go_wp2;go_region_held3 (λw'=>w'.cell? ⟨p.g,p.o+q,none⟩=some (.int .i32 y)/\w'.cell? ⟨p.g,p.o+c,none⟩=some (.int .i32 x)) (go_keep) ((go_at_call 303;(with_reducible refine K.out.mono ?_);rintro e w2 ⟨rfl,hb2⟩;have S2:=jH (I.out.1.next HP.out (Ag hb2));have d1:=S2.out.cell q (by have:=HD.out;omega);have d2:=S2.out.cell c (by have:=HD.out;omega);rw [<- HY.out] at d1;rw [<- HX.out] at d2;clear hb2 c1 c2))
     have J:Hid (Seg p d w2/\Norm.Lp a m b mid s0 mid s c d):=⟨S2.out,I.out.2.down e1 e2 (by rw [<- HQ.out,<- HX.out];exact HC.out)⟩
     clear I d1 d2;go_wp2;go_roundg (r - s)
     case measure=>omega
     case rel=>exact ⟨s,c,rfl,rfl,by omega,by omega,by omega,by omega,by omega,by omega,J⟩
    ·have hv:=Rs (a:=Ad y) (b:=Ad x) jO;have hv1:=(Rt (Ad y) (Ad x)).2;generalize Lx (Ad y) (Ad x)=v at K hv hv1;have HC:=jH hc;have hvd:decide (v<0)=false:=by rw [decide_eq_false_iff_not];omega
     clear hc;go_wp2;go_region_held3 (λw'=>w'.cell? ⟨p.g,p.o+q,none⟩=some (.int .i32 y)/\w'.cell? ⟨p.g,p.o+c,none⟩=some (.int .i32 x)) (go_keep) ((go_at_call 303;(with_reducible refine K.out.mono ?_);rintro e w2 ⟨rfl,hb2⟩;have S2:=jH (I.out.1.next HP.out (Ag hb2));have d1:=S2.out.cell q (by have:=HD.out;omega);have d2:=S2.out.cell c (by have:=HD.out;omega);rw [<- HY.out] at d1;rw [<- HX.out] at d2;clear hb2 c1 c2))
     have J:Hid (Seg p d w2/\Norm.Lp a m b mid s0 mid (c+1) r d):=⟨S2.out,I.out.2.up e1 e2 (by have:=HC.out;rw [<- HQ.out,<- HX.out];omega)⟩
     clear I d1 d2;go_wp2;go_roundg (r - s)
     case measure=>omega
     case rel=>exact ⟨c+1,r,by go_num,rfl,by omega,by omega,by omega,by omega,by omega,by omega,J⟩
   ·obtain rfl:s=r:=jO
    have hF:=I.out.2.found;obtain ⟨e,he⟩:∃ e,e=mid+m - s:=⟨_,rfl⟩
    rw [<- he] at hF;have hez:(N:Int) - (s:Int)=(e:Int):=jO
    have he1:N<=s+e:=jO
    have he2:s+e<=N:=jO
    have f3:=hF.h3;have f4:=hF.h4;have S1:=jH I.out.1;have F:=jH hF;clear he hF I SK HS;by_cases q1:s<m
    ·by_cases q2:m<e
     ·by_cases q3:a<s
      ·by_cases q4:e<b
       ·skip
        have i1:(s:Int)<(m:Int):=jO
        have i2:(m:Int)<(e:Int):=jO
        have i3:(a:Int)<(s:Int):=jO
        have i4:(s:Int)<(mid:Int):=jO
        have i5:(mid:Int)<(e:Int):=jO
        have i6:(e:Int)<(b:Int):=jO
        have hc1:=Fh p d wr S1.out cc (.func (.func 303) #[] #[.pointer (some ⟨bt,0,none⟩)]) s m e jO jO (by have:=HD.out;omega) (by have:=HD.out;omega);rw [HD.out] at hc1;go_wp2_with fail;refine hc1.mono ?_;rintro e1 w2 ⟨L1,rfl,hR,s2⟩;have R:=jH hR;have S2:=jH s2;clear hc1 hR s2;have hl1:L1.length=n:=R.out.len.trans HD.out;have HL1:=jH hl1;have V:=jH (F.out.Hj R.out);clear hl1;have hc2:=IH.out a s mid jO jO jO jO L1 w2 S2.out HL1.out V.out.1 V.out.2.1;go_wp2_with fail;refine hc2.mono ?_;rintro e2 w3 ⟨L2,rfl,⟨k2,v2⟩,s3⟩;have K2:=jH k2;have V2:=jH v2;have S3:=jH s3;clear hc2 k2 v2 s3;have hc3:=IH.out mid e b jO jO jO jO L2 w3 S3.out (K2.out.len.trans HL1.out) (K2.out.far (jaa _) V.out.2.2.1 rfl) (K2.out.far jO V.out.2.2.2 rfl);go_wp2_with fail;refine hc3.mono ?_;rintro e3 w4 ⟨L3,rfl,⟨k3,v3⟩,s4⟩;have K3:=jH k3;have V3:=jH v3;have S4:=jH s4;clear hc3 k3 v3 s4;go_wp2;go_end0;exact ⟨L3,rfl,F.out.done (by have:=HD.out;omega) R.out K2.out V2.out K3.out V3.out,S4.out⟩
       ·skip
        have i1:(s:Int)<(m:Int):=jO
        have i2:(m:Int)<(e:Int):=jO
        have i3:(a:Int)<(s:Int):=jO
        have i4:(s:Int)<(mid:Int):=jO
        have i5:(mid:Int)<(e:Int):=jO
        have i6:¬ (e:Int)<(b:Int):=jO
        have hc1:=Fh p d wr S1.out cc (.func (.func 303) #[] #[.pointer (some ⟨bt,0,none⟩)]) s m e jO jO (by have:=HD.out;omega) (by have:=HD.out;omega);rw [HD.out] at hc1;go_wp2_with fail;refine hc1.mono ?_;rintro e1 w2 ⟨L1,rfl,hR,s2⟩;have R:=jH hR;have S2:=jH s2;clear hc1 hR s2;have hl1:L1.length=n:=R.out.len.trans HD.out;have HL1:=jH hl1;have V:=jH (F.out.Hj R.out);clear hl1;have hc2:=IH.out a s mid jO jO jO jO L1 w2 S2.out HL1.out V.out.1 V.out.2.1;go_wp2_with fail;refine hc2.mono ?_;rintro e2 w3 ⟨L2,rfl,⟨k2,v2⟩,s3⟩;have K2:=jH k2;have V2:=jH v2;have S3:=jH s3;clear hc2 k2 v2 s3;have K3:=jH (Norm.Ar.refl mid b L2);have V3:Hid (Norm.Up L2 mid b):=jH ((K2.out.far (jaa _) V.out.2.2.1 rfl).part (jaa _) jO);have S4:=S3;go_wp2;go_end0;exact ⟨L2,rfl,F.out.done (by have:=HD.out;omega) R.out K2.out V2.out K3.out V3.out,S4.out⟩
      ·by_cases q4:e<b
       ·skip
        have i1:(s:Int)<(m:Int):=jO
        have i2:(m:Int)<(e:Int):=jO
        have i3:¬ (a:Int)<(s:Int):=jO
        have i5:(mid:Int)<(e:Int):=jO
        have i6:(e:Int)<(b:Int):=jO
        have hc1:=Fh p d wr S1.out cc (.func (.func 303) #[] #[.pointer (some ⟨bt,0,none⟩)]) s m e jO jO (by have:=HD.out;omega) (by have:=HD.out;omega);rw [HD.out] at hc1;go_wp2_with fail;refine hc1.mono ?_;rintro e1 w2 ⟨L1,rfl,hR,s2⟩;have R:=jH hR;have S2:=jH s2;clear hc1 hR s2;have hl1:L1.length=n:=R.out.len.trans HD.out;have HL1:=jH hl1;have V:=jH (F.out.Hj R.out);clear hl1;have K2:=jH (Norm.Ar.refl a mid L1);have V2:Hid (Norm.Up L1 a mid):=jH (by rw [show a=s by omega];exact V.out.2.1);have S3:=S2;have hc3:=IH.out mid e b jO jO jO jO L1 w2 S3.out (K2.out.len.trans HL1.out) (K2.out.far (jaa _) V.out.2.2.1 rfl) (K2.out.far jO V.out.2.2.2 rfl);go_wp2_with fail;refine hc3.mono ?_;rintro e3 w4 ⟨L3,rfl,⟨k3,v3⟩,s4⟩;have K3:=jH k3;have V3:=jH v3;have S4:=jH s4;clear hc3 k3 v3 s4;go_wp2;go_end0;exact ⟨L3,rfl,F.out.done (by have:=HD.out;omega) R.out K2.out V2.out K3.out V3.out,S4.out⟩
       ·skip
        have i1:(s:Int)<(m:Int):=jO
        have i2:(m:Int)<(e:Int):=jO
        have i3:¬ (a:Int)<(s:Int):=jO
        have i5:(mid:Int)<(e:Int):=jO
        have i6:¬ (e:Int)<(b:Int):=jO
        have hc1:=Fh p d wr S1.out cc (.func (.func 303) #[] #[.pointer (some ⟨bt,0,none⟩)]) s m e jO jO (by have:=HD.out;omega) (by have:=HD.out;omega);rw [HD.out] at hc1;go_wp2_with fail;refine hc1.mono ?_;rintro e1 w2 ⟨L1,rfl,hR,s2⟩;have R:=jH hR;have S2:=jH s2;clear hc1 hR s2;have hl1:L1.length=n:=R.out.len.trans HD.out;have HL1:=jH hl1;have V:=jH (F.out.Hj R.out);clear hl1;have K2:=jH (Norm.Ar.refl a mid L1);have V2:Hid (Norm.Up L1 a mid):=jH (by rw [show a=s by omega];exact V.out.2.1);have S3:=S2;have K3:=jH (Norm.Ar.refl mid b L1);have V3:Hid (Norm.Up L1 mid b):=jH ((K2.out.far (jaa _) V.out.2.2.1 rfl).part (jaa _) jO);have S4:=S3;go_wp2;go_end0;exact ⟨L1,rfl,F.out.done (by have:=HD.out;omega) R.out K2.out V2.out K3.out V3.out,S4.out⟩
     ·skip
      have i1:(s:Int)<(m:Int):=jO
      have i2:¬ (m:Int)<(e:Int):=jO
      have i3:(a:Int)<(s:Int):=jO
      have i4:¬ (s:Int)<(mid:Int):=jO
      have i5:(mid:Int)<(e:Int):=jO
      have i6:(e:Int)<(b:Int):=jO
      have R:=jH (Norm.Rot.none (a:=s) (m:=m) (b:=e) d jO jO jO);have S2:=S1;have hl1:d.length=n:=R.out.len.trans HD.out;have HL1:=jH hl1;have V:=jH (F.out.Hj R.out);clear hl1;have K2:=jH (Norm.Ar.refl a mid d);have V2:Hid (Norm.Up d a mid):=jH (V.out.1.part (jaa _) jO);have S3:=S2;have hc3:=IH.out mid e b jO jO jO jO d wr S3.out (K2.out.len.trans HL1.out) (K2.out.far (jaa _) V.out.2.2.1 rfl) (K2.out.far jO V.out.2.2.2 rfl);go_wp2_with fail;refine hc3.mono ?_;rintro e3 w4 ⟨L3,rfl,⟨k3,v3⟩,s4⟩;have K3:=jH k3;have V3:=jH v3;have S4:=jH s4;clear hc3 k3 v3 s4;go_wp2;go_end0;exact ⟨L3,rfl,F.out.done (by have:=HD.out;omega) R.out K2.out V2.out K3.out V3.out,S4.out⟩
    ·exact absurd (show s<m by omega) q1
 ·have hl1:¬ mid<m:=jO
  go_enter func343,ntmps343;go_wp2;go_loopg [20,21,23] (b+1) (λgk ss sr _ wr=>∃ (s r:Nat),ss=.int .i64 s/\sr=.int .i64 r/\a<=s/\s<=r/\r<=m/\r<=mid/\N<=s+b/\r - s<gk/\Hid (Seg p d wr/\Norm.Lp a m b mid a m s r d))
  case atStart =>
   have h1:=SK.out.span;obtain ⟨k1,k2,k3,k4,k5,k6,k7,k8,k9,k10⟩:=h1;exact ⟨_,_,rfl,rfl,by omega,by omega,by omega,by omega,by omega,by omega,⟨HS.out,SK.out⟩⟩
  case round =>
   obtain ⟨s,r,rfl,rfl,has,hsr,hrm,hrmid,hsb,hg,I⟩:=hrel;by_cases hlt2:s<r
   ·obtain ⟨c,hc⟩:∃ c,c=(s+r) / 2:=⟨_,rfl⟩
    have hcz:((s:Int)+(r:Int)) / 2=(c:Int):=jO
    have e1:s<=c:=jO
    have e2:c<r:=jO
    obtain ⟨q,hq⟩:∃ q,q=P - c:=⟨_,rfl⟩
    have hqz:(P:Int) - (c:Int)=(q:Int):=jO
    have e3:q<n:=jO
    obtain ⟨x,hx⟩:∃ x,x=d[c]!:=⟨_,rfl⟩
    obtain ⟨y,hy⟩:∃ y,y=d[q]!:=⟨_,rfl⟩
    have hyq:y=d[mid+m - 1 - c]!:=by rw [hy,hq,HPP.out,HN.out]
    have HX:=jH hx;have HY:=jH hy;have HQ:=jH hyq;have c1:=I.out.1.cell q (by have:=HD.out;omega);have c2:=I.out.1.cell c (by have:=HD.out;omega);rw [<- hy] at c1;rw [<- hx] at c2;have K:=jH (HP.out.cmp y x wr.drew I.out.1.drew.2.1);have g1:(0:Int)<=(q:Int):=jO
    have g2:(q:Int)<(n:Int):=jO
    have g3:(0:Int)<=(c:Int):=jO
    have g4:(c:Int)<(n:Int):=jO
    have g5:IntKind.i64.wrap (q:Int)=(q:Int):=by rw [IntWalk.i64_in _ jO]
    clear hc hq hx hy hyq;by_cases hc:Ad y<Ad x
    ·rw [Ow hc] at K;have HC:=jH hc;clear hc;go_wp2;go_region_held3 (λw'=>w'.cell? ⟨p.g,p.o+q,none⟩=some (.int .i32 y)/\w'.cell? ⟨p.g,p.o+c,none⟩=some (.int .i32 x)) (go_keep) ((go_at_call 303;(with_reducible refine K.out.mono ?_);rintro e w2 ⟨rfl,hb2⟩;have S2:=jH (I.out.1.next HP.out (Ag hb2));have d1:=S2.out.cell q (by have:=HD.out;omega);have d2:=S2.out.cell c (by have:=HD.out;omega);rw [<- HY.out] at d1;rw [<- HX.out] at d2;clear hb2 c1 c2))
     have J:Hid (Seg p d w2/\Norm.Lp a m b mid a m s c d):=⟨S2.out,I.out.2.down e1 e2 (by rw [<- HQ.out,<- HX.out];exact HC.out)⟩
     clear I d1 d2;go_wp2;go_roundg (r - s)
     case measure=>omega
     case rel=>exact ⟨s,c,rfl,rfl,by omega,by omega,by omega,by omega,by omega,by omega,J⟩
    ·have hv:=Rs (a:=Ad y) (b:=Ad x) jO;have hv1:=(Rt (Ad y) (Ad x)).2;generalize Lx (Ad y) (Ad x)=v at K hv hv1;have HC:=jH hc;have hvd:decide (v<0)=false:=by rw [decide_eq_false_iff_not];omega
     clear hc;go_wp2;go_region_held3 (λw'=>w'.cell? ⟨p.g,p.o+q,none⟩=some (.int .i32 y)/\w'.cell? ⟨p.g,p.o+c,none⟩=some (.int .i32 x)) (go_keep) ((go_at_call 303;(with_reducible refine K.out.mono ?_);rintro e w2 ⟨rfl,hb2⟩;have S2:=jH (I.out.1.next HP.out (Ag hb2));have d1:=S2.out.cell q (by have:=HD.out;omega);have d2:=S2.out.cell c (by have:=HD.out;omega);rw [<- HY.out] at d1;rw [<- HX.out] at d2;clear hb2 c1 c2))
     have J:Hid (Seg p d w2/\Norm.Lp a m b mid a m (c+1) r d):=⟨S2.out,I.out.2.up e1 e2 (by have:=HC.out;rw [<- HQ.out,<- HX.out];omega)⟩
     clear I d1 d2;go_wp2;go_roundg (r - s)
     case measure=>omega
     case rel=>exact ⟨c+1,r,by go_num,rfl,by omega,by omega,by omega,by omega,by omega,by omega,J⟩
   ·obtain rfl:s=r:=jO
    have hF:=I.out.2.found;obtain ⟨e,he⟩:∃ e,e=mid+m - s:=⟨_,rfl⟩
    rw [<- he] at hF;have hez:(N:Int) - (s:Int)=(e:Int):=jO
    have he1:N<=s+e:=jO
    have he2:s+e<=N:=jO
    have f3:=hF.h3;have f4:=hF.h4;have S1:=jH I.out.1;have F:=jH hF;clear he hF I SK HS;by_cases q1:s<m
    ·by_cases q2:m<e
     ·by_cases q3:a<s
      ·by_cases q4:e<b
       ·skip
        have i1:(s:Int)<(m:Int):=jO
        have i2:(m:Int)<(e:Int):=jO
        have i3:(a:Int)<(s:Int):=jO
        have i4:(s:Int)<(mid:Int):=jO
        have i5:(mid:Int)<(e:Int):=jO
        have i6:(e:Int)<(b:Int):=jO
        have hc1:=Fh p d wr S1.out cc (.func (.func 303) #[] #[.pointer (some ⟨bt,0,none⟩)]) s m e jO jO (by have:=HD.out;omega) (by have:=HD.out;omega);rw [HD.out] at hc1;go_wp2_with fail;refine hc1.mono ?_;rintro e1 w2 ⟨L1,rfl,hR,s2⟩;have R:=jH hR;have S2:=jH s2;clear hc1 hR s2;have hl1:L1.length=n:=R.out.len.trans HD.out;have HL1:=jH hl1;have V:=jH (F.out.Hj R.out);clear hl1;have hc2:=IH.out a s mid jO jO jO jO L1 w2 S2.out HL1.out V.out.1 V.out.2.1;go_wp2_with fail;refine hc2.mono ?_;rintro e2 w3 ⟨L2,rfl,⟨k2,v2⟩,s3⟩;have K2:=jH k2;have V2:=jH v2;have S3:=jH s3;clear hc2 k2 v2 s3;have hc3:=IH.out mid e b jO jO jO jO L2 w3 S3.out (K2.out.len.trans HL1.out) (K2.out.far (jaa _) V.out.2.2.1 rfl) (K2.out.far jO V.out.2.2.2 rfl);go_wp2_with fail;refine hc3.mono ?_;rintro e3 w4 ⟨L3,rfl,⟨k3,v3⟩,s4⟩;have K3:=jH k3;have V3:=jH v3;have S4:=jH s4;clear hc3 k3 v3 s4;go_wp2;go_end0;exact ⟨L3,rfl,F.out.done (by have:=HD.out;omega) R.out K2.out V2.out K3.out V3.out,S4.out⟩
       ·skip
        have i1:(s:Int)<(m:Int):=jO
        have i2:(m:Int)<(e:Int):=jO
        have i3:(a:Int)<(s:Int):=jO
        have i4:(s:Int)<(mid:Int):=jO
        have i5:(mid:Int)<(e:Int):=jO
        have i6:¬ (e:Int)<(b:Int):=jO
        have hc1:=Fh p d wr S1.out cc (.func (.func 303) #[] #[.pointer (some ⟨bt,0,none⟩)]) s m e jO jO (by have:=HD.out;omega) (by have:=HD.out;omega);rw [HD.out] at hc1;go_wp2_with fail;refine hc1.mono ?_;rintro e1 w2 ⟨L1,rfl,hR,s2⟩;have R:=jH hR;have S2:=jH s2;clear hc1 hR s2;have hl1:L1.length=n:=R.out.len.trans HD.out;have HL1:=jH hl1;have V:=jH (F.out.Hj R.out);clear hl1;have hc2:=IH.out a s mid jO jO jO jO L1 w2 S2.out HL1.out V.out.1 V.out.2.1;go_wp2_with fail;refine hc2.mono ?_;rintro e2 w3 ⟨L2,rfl,⟨k2,v2⟩,s3⟩;have K2:=jH k2;have V2:=jH v2;have S3:=jH s3;clear hc2 k2 v2 s3;have K3:=jH (Norm.Ar.refl mid b L2);have V3:Hid (Norm.Up L2 mid b):=jH ((K2.out.far (jaa _) V.out.2.2.1 rfl).part (jaa _) jO);have S4:=S3;go_wp2;go_end0;exact ⟨L2,rfl,F.out.done (by have:=HD.out;omega) R.out K2.out V2.out K3.out V3.out,S4.out⟩
      ·by_cases q4:e<b
       ·skip
        have i1:(s:Int)<(m:Int):=jO
        have i2:(m:Int)<(e:Int):=jO
        have i3:¬ (a:Int)<(s:Int):=jO
        have i5:(mid:Int)<(e:Int):=jO
        have i6:(e:Int)<(b:Int):=jO
        have hc1:=Fh p d wr S1.out cc (.func (.func 303) #[] #[.pointer (some ⟨bt,0,none⟩)]) s m e jO jO (by have:=HD.out;omega) (by have:=HD.out;omega);rw [HD.out] at hc1;go_wp2_with fail;refine hc1.mono ?_;rintro e1 w2 ⟨L1,rfl,hR,s2⟩;have R:=jH hR;have S2:=jH s2;clear hc1 hR s2;have hl1:L1.length=n:=R.out.len.trans HD.out;have HL1:=jH hl1;have V:=jH (F.out.Hj R.out);clear hl1;have K2:=jH (Norm.Ar.refl a mid L1);have V2:Hid (Norm.Up L1 a mid):=jH (by rw [show a=s by omega];exact V.out.2.1);have S3:=S2;have hc3:=IH.out mid e b jO jO jO jO L1 w2 S3.out (K2.out.len.trans HL1.out) (K2.out.far (jaa _) V.out.2.2.1 rfl) (K2.out.far jO V.out.2.2.2 rfl);go_wp2_with fail;refine hc3.mono ?_;rintro e3 w4 ⟨L3,rfl,⟨k3,v3⟩,s4⟩;have K3:=jH k3;have V3:=jH v3;have S4:=jH s4;clear hc3 k3 v3 s4;go_wp2;go_end0;exact ⟨L3,rfl,F.out.done (by have:=HD.out;omega) R.out K2.out V2.out K3.out V3.out,S4.out⟩
       ·skip
        have i1:(s:Int)<(m:Int):=jO
        have i2:(m:Int)<(e:Int):=jO
        have i3:¬ (a:Int)<(s:Int):=jO
        have i5:(mid:Int)<(e:Int):=jO
        have i6:¬ (e:Int)<(b:Int):=jO
        have hc1:=Fh p d wr S1.out cc (.func (.func 303) #[] #[.pointer (some ⟨bt,0,none⟩)]) s m e jO jO (by have:=HD.out;omega) (by have:=HD.out;omega);rw [HD.out] at hc1;go_wp2_with fail;refine hc1.mono ?_;rintro e1 w2 ⟨L1,rfl,hR,s2⟩;have R:=jH hR;have S2:=jH s2;clear hc1 hR s2;have hl1:L1.length=n:=R.out.len.trans HD.out;have HL1:=jH hl1;have V:=jH (F.out.Hj R.out);clear hl1;have K2:=jH (Norm.Ar.refl a mid L1);have V2:Hid (Norm.Up L1 a mid):=jH (by rw [show a=s by omega];exact V.out.2.1);have S3:=S2;have K3:=jH (Norm.Ar.refl mid b L1);have V3:Hid (Norm.Up L1 mid b):=jH ((K2.out.far (jaa _) V.out.2.2.1 rfl).part (jaa _) jO);have S4:=S3;go_wp2;go_end0;exact ⟨L1,rfl,F.out.done (by have:=HD.out;omega) R.out K2.out V2.out K3.out V3.out,S4.out⟩
     ·exact absurd (show m<e by omega) q2
    ·by_cases q2:s<mid
     ·skip
      have i1:¬ (s:Int)<(m:Int):=jO
      have i3:(a:Int)<(s:Int):=jO
      have i4:(s:Int)<(mid:Int):=jO
      have i5:¬ (mid:Int)<(e:Int):=jO
      have R:=jH (Norm.Rot.none (a:=s) (m:=m) (b:=e) d jO jO jO);have S2:=S1;have hl1:d.length=n:=R.out.len.trans HD.out;have HL1:=jH hl1;have V:=jH (F.out.Hj R.out);clear hl1;have hc2:=IH.out a s mid jO jO jO jO d wr S2.out HL1.out V.out.1 V.out.2.1;go_wp2_with fail;refine hc2.mono ?_;rintro e2 w3 ⟨L2,rfl,⟨k2,v2⟩,s3⟩;have K2:=jH k2;have V2:=jH v2;have S3:=jH s3;clear hc2 k2 v2 s3;have K3:=jH (Norm.Ar.refl mid b L2);have V3:Hid (Norm.Up L2 mid b):=jH (K2.out.far (jaa _) (by rw [show mid=e by omega];exact V.out.2.2.2) rfl);have S4:=S3;go_wp2;go_end0;exact ⟨L2,rfl,F.out.done (by have:=HD.out;omega) R.out K2.out V2.out K3.out V3.out,S4.out⟩
     ·skip
      have i1:¬ (s:Int)<(m:Int):=jO
      have i3:(a:Int)<(s:Int):=jO
      have i4:¬ (s:Int)<(mid:Int):=jO
      have i5:¬ (mid:Int)<(e:Int):=jO
      have R:=jH (Norm.Rot.none (a:=s) (m:=m) (b:=e) d jO jO jO);have S2:=S1;have hl1:d.length=n:=R.out.len.trans HD.out;have HL1:=jH hl1;have V:=jH (F.out.Hj R.out);clear hl1;have K2:=jH (Norm.Ar.refl a mid d);have V2:Hid (Norm.Up d a mid):=jH (V.out.1.part (jaa _) jO);have S3:=S2;have K3:=jH (Norm.Ar.refl mid b d);have V3:Hid (Norm.Up d mid b):=jH (K2.out.far (jaa _) (by rw [show mid=e by omega];exact V.out.2.2.2) rfl);have S4:=S3;go_wp2;go_end0;exact ⟨d,rfl,F.out.done (by have:=HD.out;omega) R.out K2.out V2.out K3.out V3.out,S4.out⟩
theorem Ag8 {p:Place} {bt:Nat} (hp:Ps p bt) (n cc:Nat) (hn:n<=1000000):∀ (k a m b:Nat),b - a<=k->a<m->m<b->b<=n->Ahq p bt n cc a m b
 | 0,a,m,b,h,h1,h2,_=>by omega
 | k+1,a,m,b,h,h1,h2,h3=>by
  by_cases c1:m=a+1
  ·subst c1;exact A4s hp n cc a b h2 h3 hn
  ·by_cases c2:b=m+1
   · subst c2;exact A4t hp n cc a m jO h3 hn
   · exact A11 hp n cc a m b jO jO h3 hn λa' m' b' q1 q2 q3 q4=>Ag8 hp n cc hn k a' m' b' jO q1 q2 q3
end
section
open Go.RowKit Utf
namespace Norm
def Ae6 (L:List Int) (k n:Nat):Prop:=∀ t,k ∣ t->Up L t (min (t+k) n)
def Tq (L:List Int) (k a:Nat):Prop:=∀ t,k ∣ t->t+k<=a->Up L t (t+k)
theorem Ux {k t a:Nat} (ht:k ∣ t) (ha:k ∣ a) (h:t<=a):t=a\/t+k<=a:=by
 rcases Nat.lt_or_eq_of_le h with h1 | h1
 ·right;have:=Nat.le_of_dvd jO (Nat.dvd_sub ha ht);omega
 ·exact .inl h1
theorem Tq.zero (L:List Int) {k:Nat} (h:0<k):Tq L k 0:=λt _ h2=>by omega
theorem Tq.next {L M:List Int} {k a b:Nat} (h:Tq L k a) (ha:k ∣ a) (hb:b=a+k) (hm:Ar a b L M) (u:Up M a b):Tq M k b:=by
 intro t h1 h2;rcases Ux h1 ha jO with rfl | h3
 · rw [<- hb];exact u
 · exact (h t h1 h3).same λi _ h5=>hm.out i jO
theorem Tq.last {L M:List Int} {k a n:Nat} (h:Tq L k a) (ha:k ∣ a) (han:a<=n) (hn:n<a+k) (hm:Ar a n L M) (u:Up M a n):Ae6 M k n:=by
 intro t h1;by_cases h2:t<=a
 ·rcases Ux h1 ha h2 with rfl | h3
  ·rw [show min (t+k) n=n by omega];exact u
  ·rw [show min (t+k) n=t+k by omega];exact (h t h1 h3).same λi _ h5=>hm.out i jO
 ·have h3:=Ux ha h1 jO;exact Up.small jO
theorem Ae6.end {L:List Int} {k n:Nat} (h:Ae6 L k n) (hk:n<=k):Up L 0 n:=by
 have:=h 0 (Nat.dvd_zero k);rwa [show min (0+k) n=n by omega] at this
def Wp (L:List Int) (k n a:Nat):Prop:=∀ t,k ∣ t->a<=t->Up L t (min (t+k) n)
theorem Ae6.from {L:List Int} {k n:Nat} (h:Ae6 L k n):Wp L k n 0:=λt h1 _=>h t h1
theorem Wp.next {L M:List Int} {k n a b:Nat} (h:Wp L k n a) (hab:a<=b) (hm:Ar a b L M):Wp M k n b:=λt h1 h2=>(h t h1 jO).same λi h3 _=>hm.out i jO
theorem Wp.fst {L:List Int} {k n a:Nat} (h:Wp L k n a) (ha:k ∣ a) (hn:a+k<=n):Up L a (a+k):=by
 have:=h a ha (jaa _);rwa [show min (a+k) n=a+k by omega] at this
theorem Wp.snd {L:List Int} {k n a e:Nat} (h:Wp L k n a) (ha:k ∣ a) (he:e=min (a+k+k) n):Up L (a+k) e:=by
 rw [he];exact h (a+k) (Nat.dvd_add ha (Nat.dvd_refl k)) jO
theorem Wp.all {L:List Int} {k n a:Nat} (h:Wp L k n a) (ha:k ∣ a) (hn:n<=a+k):Up L a n:=by
 have:=h a ha (jaa _);rwa [show min (a+k) n=n by omega] at this
theorem Lg {k D a:Nat} (hD:D=2*k) (h:D ∣ a):k ∣ a:=Nat.dvd_trans ⟨2,by omega⟩ h
end Norm
theorem Apz {p:Place} {bt:Nat} (hp:Ps p bt) (d:List Int) (w:World) (hs:Seg p d w) (n cc:Nat) (hdn:d.length=n) (hn:n<=1000000) :
  Calls prog 322 #[.slice (some ⟨p.g,p.o,none⟩) n cc,.int .i64 n,.func (.func 303) #[] #[.pointer (some ⟨bt,0,none⟩)]] w (Ab7 p (λM=>Norm.Ar 0 n d M/\Norm.Up M 0 n)):=by
 have HS:=jH hs;have HP:=jH hp;have HD:=jH hdn;clear hs hp hdn;go_enter func322,ntmps322;go_wp2;go_loopg [7,8] (n+40) (λgk sa sb wr=>∃ (a b:Nat) (M:List Int),sa=.int .i64 a/\sb=.int .i64 b/\a<=n/\a+20<=b/\b<=a+20/\n+20 - a<gk/\Hid (20 ∣ a/\Seg p M wr/\Norm.Ar 0 n d M/\Norm.Tq M 20 a))
 case atStart=>exact ⟨0,20,d,rfl,rfl,by omega,by omega,by omega,by omega,⟨by omega,HS.out,Norm.Ar.refl _ _ _,Norm.Tq.zero _ jO⟩⟩
 case round =>
  obtain ⟨a,b,M,rfl,rfl,han,hb1,hb2,hg,I⟩:=hrel;have hML:=I.out.2.2.1.len;by_cases hlt:b<=n
  ·have hc:=Pv p bt HP.out M wr I.out.2.1 cc a b jO (by have:=HD.out;omega) (by have:=HD.out;omega);rw [hML,HD.out] at hc;go_wp2_with fail;refine hc.mono ?_;rintro e w2 ⟨M2,rfl,⟨k2,v2⟩,s2⟩;have J:Hid (20 ∣ b/\Seg p M2 w2/\Norm.Ar 0 n d M2/\Norm.Tq M2 20 b) :=
    ⟨by have:=I.out.1;omega,s2,I.out.2.2.1.trans (k2.mono jO hlt),I.out.2.2.2.next I.out.1 jO k2 v2⟩
   clear hc k2 v2 s2 I hML;go_wp2;go_roundg (n+20 - a)
   case measure=>omega
   case rel=>exact ⟨b,b+20,M2,rfl,by go_num,by omega,by omega,by omega,by omega,J⟩
  ·have hz:¬ (b:Int)<=(n:Int):=jO
   have hc:=Pv p bt HP.out M wr I.out.2.1 cc a n han (by have:=HD.out;omega) (by have:=HD.out;omega);rw [hML,HD.out] at hc;go_wp2_with fail;refine hc.mono ?_;rintro e w2 ⟨M2,rfl,⟨k2,v2⟩,s2⟩;have J:Hid (Seg p M2 w2/\Norm.Ar 0 n d M2/\Norm.Ae6 M2 20 n) :=
    ⟨s2,I.out.2.2.1.trans (k2.mono jO (jaa _)),I.out.2.2.2.last I.out.1 han jO k2 v2⟩
   clear hc k2 v2 s2 I hML;go_wp2;go_loopg [6,7,8,9] (n+1) (λgk sk _ _ _ wr=>∃ (k:Nat) (M:List Int),sk=.int .i64 k/\1<=k/\n - k<gk/\k<=2000000/\Hid (Seg p M wr/\Norm.Ar 0 n d M/\Norm.Ae6 M k n))
   case atStart=>exact ⟨20,M2,rfl,by omega,by omega,by omega,J⟩
   case round =>
    clear J;obtain ⟨k,M,rfl,hk1,hgk,hk2,J⟩:=hrel;by_cases hkn:k<n
    ·obtain ⟨D,hD⟩:∃ D,D=2*k:=⟨_,rfl⟩
     have hD1:2*(k:Int)=(D:Int):=jO
     have hD2:(k:Int)*2=(D:Int):=jO
     have hD3:k+k<=D:=jO
     have hD4:D<=k+k:=jO
     have HDD:=jH hD;clear hD;go_wp2;go_loopg [7,8] (n+1) (λgk sa sb wr=>∃ (a b:Nat) (M:List Int),sa=.int .i64 a/\sb=.int .i64 b/\a<=n/\a+D<=b/\b<=a+D/\n - a<gk/\Hid (D ∣ a/\Seg p M wr/\Norm.Ar 0 n d M/\Norm.Tq M D a/\Norm.Wp M k n a))
     case atStart=>exact ⟨0,D,M,rfl,rfl,by omega,by omega,by omega,by omega,⟨Nat.dvd_zero _,J.out.1,J.out.2.1,Norm.Tq.zero _ jO,J.out.2.2.from⟩⟩
     case round =>
      clear J;obtain ⟨a,b,M,rfl,rfl,han,hb1,hb2,hga,J⟩:=hrel;have hML:=J.out.2.2.1.len;by_cases hbn:b<=n
      ·have hc:=Ag8 HP.out n cc hn (b - a) a (a+k) b (jaa _) jO jO hbn M wr J.out.2.1 (hML.trans HD.out) (J.out.2.2.2.2.fst (Norm.Lg HDD.out J.out.1) jO) (J.out.2.2.2.2.snd (Norm.Lg HDD.out J.out.1) jO);rw [show ((a+k:Nat):Int)=(a:Int)+(k:Int) by omega] at hc;go_wp2_with fail;refine hc.mono ?_;rintro e w3 ⟨M3,rfl,⟨k3,v3⟩,s3⟩;have J2:Hid (D ∣ b/\Seg p M3 w3/\Norm.Ar 0 n d M3/\Norm.Tq M3 D b/\Norm.Wp M3 k n b) :=
        ⟨by rw [show b=a+D by omega];exact Nat.dvd_add J.out.1 (Nat.dvd_refl D),s3,J.out.2.2.1.trans (k3.mono jO hbn),J.out.2.2.2.1.next J.out.1 jO k3 v3,J.out.2.2.2.2.next jO k3⟩
       clear hc k3 v3 s3 J hML;go_wp2;go_roundg (n - a)
       case measure=>omega
       case rel=>exact ⟨b,b+D,M3,rfl,by go_num,by omega,by omega,by omega,by omega,J2⟩
      ·have hz2:¬ (b:Int)<=(n:Int):=jO
       by_cases hm:a+k<n
       ·have hmz:(a:Int)+(k:Int)<(n:Int):=jO
        have hc:=Ag8 HP.out n cc hn (n - a) a (a+k) n (jaa _) jO hm (jaa _) M wr J.out.2.1 (hML.trans HD.out) (J.out.2.2.2.2.fst (Norm.Lg HDD.out J.out.1) jO) (J.out.2.2.2.2.snd (Norm.Lg HDD.out J.out.1) jO);rw [show ((a+k:Nat):Int)=(a:Int)+(k:Int) by omega] at hc;go_wp2_with fail;refine hc.mono ?_;rintro e w3 ⟨M3,rfl,⟨k3,v3⟩,s3⟩;have J2:Hid (Seg p M3 w3/\Norm.Ar 0 n d M3/\Norm.Ae6 M3 D n) :=
         ⟨s3,J.out.2.2.1.trans (k3.mono jO (jaa _)),J.out.2.2.2.1.last J.out.1 han jO k3 v3⟩
        clear hc k3 v3 s3 J hML;go_wp2;go_roundg (n - k)
        case measure=>omega
        case rel=>exact ⟨D,M3,rfl,by omega,by omega,by omega,J2⟩
       ·have hmz:¬ (a:Int)+(k:Int)<(n:Int):=jO
        have J2:Hid (Seg p M wr/\Norm.Ar 0 n d M/\Norm.Ae6 M D n) :=
         ⟨J.out.2.1,J.out.2.2.1,J.out.2.2.2.1.last J.out.1 han jO (Norm.Ar.refl _ _ _) (J.out.2.2.2.2.all (Norm.Lg HDD.out J.out.1) jO)⟩
        clear J hML;go_wp2;go_roundg (n - k)
        case measure=>omega
        case rel=>exact ⟨D,M,rfl,by omega,by omega,by omega,J2⟩
    ·have hkz:¬ (k:Int)<(n:Int):=jO
     have U:=jH (J.out.2.2.end jO);go_wp2;go_end0;exact ⟨M,rfl,⟨J.out.2.1,U.out⟩,J.out.1⟩
theorem Oj {p:Place} {bt:Nat} (hp:Ps p bt) (d:List Int) (w:World) (hs:Seg p d w) (n cc:Nat) (hdn:d.length=n) (hn:n<=1000000) :
  Calls prog 306 #[.slice (some ⟨p.g,p.o,none⟩) n cc,.func (.func 303) #[] #[.pointer (some ⟨bt,0,none⟩)]] w (Ab7 p (λM=>Norm.Ar 0 n d M/\Norm.Up M 0 n)):=by
 have hc:=Apz hp d w hs n cc hdn hn;clear hs hp hdn;go_enter func306,ntmps306;go_wp2_with fail;refine hc.mono ?_;rintro e w2 ⟨M2,rfl,k2,s2⟩;have K:=jH k2;have S:=jH s2;clear hc k2 s2;go_wp2;go_end0;exact ⟨M2,rfl,K.out,S.out⟩
end
