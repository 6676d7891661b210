import Derived.Test.YtickpkccpafjaaaGreatDoorLstB
set_option maxRecDepth 100000
set_option maxHeartbeats 8000000
namespace Go.Proofs.YtickpkccpafjaaaGreatDoor
open Tryz
open Go.RowKit Utf Go.Shelf
attribute [local go_sem] Fe
theorem Dl.lower {b1 b2:Nat} {v:Value} {l:List Lst.Box} {w:World} (h:Dl b1 v l w) (hb:b2<=b1):Dl b2 v l w:=by
 refine ⟨h.1,?_⟩;rcases h.2 with h0 | ⟨g,cap,cur,rfl,h1,h2⟩
 · exact .inl h0
 · exact .inr ⟨g,cap,cur,rfl,by omega,h2⟩
theorem Ae1 (N:Nat) (vT vE vB:Value) (l:List Mbx.S) (n:Nat) (s x y:ByteArray) (f:Nat) (w:World) (H:Au N vT vE vB l n s x y w) (hn:n<=l.length) (F:Sml l) (hf:l.length - n<f) :
  Calls prog 98 #[.pointer (some ⟨N,0,none⟩)] w λe w'=>Ay N w w'/\((Lst.inner f (l.drop n)=none/\e=.returned (.bool false)/\∃ n' vB' s' x' y',Au N vT vE vB' l n' s' x' y' w') \/
   ∃ bs k vB' s' x' y',Lst.inner f (l.drop n)=some (bs,k)/\e=.returned (.bool true)/\n+k<=l.length/\Au N vT vE vB' l (n+k+Mbx.skip (l.drop (n+k))) s' x' y' w'/\Dl w.heap.size vB' bs w'):=by
 have hNw:=H.lt;have HF:=jH F;obtain ⟨T,hT⟩:∃ T,T=Lst.inner f (l.drop n):=⟨_,rfl⟩
 rw [<- hT];unfold Lst.inner at hT;rw [List.drop_drop] at hT;have hsf:=Mbx.Ky hn;obtain ⟨W0,hW0⟩:∃ W0,W0=w.setCell ⟨N,6,none⟩ (.slice none 0 0):=⟨_,rfl⟩
 have hsz:W0.heap.size=w.heap.size:=by rw [hW0];simp [World.setCell]
 have P0:Au N vT vE (.slice none 0 0) l n s x y W0:=by rw [hW0];exact H.A2o _
 have O0:=jH (show Ay N w W0 by rw [hW0];exact (Ay.refl N w).set 6 _);have K1:=jH (F9 N vT vE (.slice none 0 0) l n s x y W0 P0 hn F);obtain ⟨-,-,-,-,-,-,c6⟩:=H.all;have f6:=H.fr 6;have HW0:=jH hW0.symm;clear hW0 P0 H F;obtain ⟨q,hq⟩:∃ q,q=Mbx.skip (l.drop n):=⟨_,rfl⟩
 rw [<- hq] at hT hsf K1;clear hq;have K2:=jH (λW (h:Au N vT vE (.slice none 0 0) l (n+q) s x y W)=>Hc N vT vE (.slice none 0 0) l (n+q) s x y W h hsf HF.out [59] ⟨#[59]⟩ rfl);cases b0:Mbx.isS l (n+q) [59]
 case true =>
  obtain ⟨hlt,-⟩:=Mbx.Fc b0;rw [if_pos (Lst.Dn.2 b0)] at hT;simp only [b0,if_true] at K2;have K2:=jH K2.out;have K3:=jH (λW (h:Au N vT vE (.slice none 0 0) l (n+q+1) s x y W)=>F9 N vT vE (.slice none 0 0) l (n+q+1) s x y W h jO HF.out);have E:=jH hT;clear hT b0;go_enter func98,ntmps98;go_wp2_with fail;rw [HW0.out];refine K1.out.mono ?_;rintro e w1 ⟨rfl,h1,o1⟩;go_wp2_with fail;refine (K2.out w1 h1).mono ?_;rintro e w2 ⟨rfl,h2,o2⟩;go_wp2_with fail;refine (K3.out w2 h2).mono ?_;rintro e w3 ⟨rfl,h3,o3⟩;have P3:=jH h3;have O3:=jH (((O0.out.trans o1).trans o2).trans o3);clear h1 h2 h3 o1 o2 o3;go_wp2;go_ret;refine ⟨O3.out,.inr ⟨[],q+1,_,s,x,y,E.out,rfl,by omega,?_,Dl.nil _ _⟩⟩;have:=P3.out;rwa [show n+q+1=n+(q+1) by omega] at this
 case false =>
  rw [if_neg (λh=>by have:=Lst.Dn.1 h;rw [b0] at this;cases this)] at hT;simp only [b0] at K2;have K2:=jH (λW h=>(K2.out W h).mono λe w' ⟨h1,h2,h3⟩=>And.intro h1 (And.intro (show Au N vT vE (.slice none 0 0) l (n+q) s x y w' from h2) h3));have K3:=jH (λW (hW:w.heap.size<=W.heap.size) (h:Au N vT vE (.slice none 0 0) l (n+q) s x y W)=>Ax4 N w.heap.size vT vE (.slice none 0 0) l (n+q) s x y f W h hsf HF.out (Dl.nil _ _) hNw hW jO);have E:=jH hT;clear hT b0;go_enter func98,ntmps98;go_wp2_with fail;rw [HW0.out];refine K1.out.mono ?_;rintro e w1 ⟨rfl,h1,o1⟩;go_wp2_with fail;refine (K2.out w1 h1).mono ?_;rintro e w2 ⟨rfl,h2,o2⟩;have O2:=jH ((O0.out.trans o1).trans o2);have hs2:=O2.out.size;go_wp2_with fail;refine (K3.out w2 hs2 h2).mono ?_;rintro e w3 (⟨rfl,u3,n',vB',s',x',y',bs',k1,k2,k3,k4,k5⟩ | ⟨rfl,k1,u3,n',vB',s',x',y',k2⟩)
  ·have U3:=jH ((C9.Jw O2.out (jaa _)).trans u3);have KS:=jH (Hc N vT vE vB' l n' s' x' y' w3 k2 k1 HF.out [59] ⟨#[59]⟩ rfl);have X3:=jH k3;have Z3:=jH k4;rcases k5 with ⟨k5,k6⟩ | ⟨k5,k6⟩
   ·obtain ⟨hlt,-⟩:=Mbx.Fc k5;rw [k5,if_pos rfl] at KS;cases hb:Lst.boxes f (l.drop (n+q)) with
    | none=>rw [hb] at k6;cases k6
    | some p =>
     obtain ⟨r,j⟩:=p;rw [hb] at k6;injection k6 with k6
     injection k6 with e1 e2
     replace e1:r=bs':=e1;replace e2:n+q+j=n'+1:=e2;subst e1;have E2:=jH (show T=some (r,q+j) by rw [E.out,hb];rfl);have KO:=jH (λW (h:Au N vT vE vB' l (n'+1) s' x' y' W)=>F9 N vT vE vB' l (n'+1) s' x' y' W h jO HF.out);clear h1 o1 h2 o2 u3 k1 k2 k3 k4 k5 hb E;go_wp2_with fail;refine KS.out.mono ?_;rintro e w4 ⟨rfl,h4,o4⟩;go_wp2_with fail;refine (KO.out w4 h4).mono ?_;rintro e w5 ⟨rfl,h5,o5⟩;have P5:=jH h5;have X5:=jH (Kw (Kw X3.out o4 hNw) o5 hNw);have U5:=jH ((U3.out.trans (C9.Jw o4 Z3.out)).trans (C9.Jw o5 (Nat.le_trans Z3.out o4.size)));clear h4 o4 h5 o5;go_wp2;go_ret;refine ⟨U5.out.only,.inr ⟨r,q+j,vB',s',x',y',E2.out,rfl,by omega,?_,X5.out⟩⟩;have:=P5.out;rwa [show n'+1=n+(q+j) by omega] at this
   ·rw [k5] at KS;have E2:=jH (show T=none by
     rw [E.out];cases hb:Lst.boxes f (l.drop (n+q)) with
     | none=>rfl
     | some p=>rw [hb] at k6;cases k6)
    clear h1 o1 h2 o2 u3 k1 k2 k3 k4 k5 k6 E;go_wp2_with fail;refine KS.out.mono ?_;rintro e w4 ⟨rfl,h4,o4⟩;have P4:=jH h4;have U4:=jH (U3.out.trans (C9.Jw o4 Z3.out));clear h4 o4;go_wp2;go_ret;exact ⟨U4.out.only,.inl ⟨E2.out,rfl,_,_,_,_,_,P4.out⟩⟩
  ·have E2:=jH (show T=none by rw [E.out,k1];rfl);have P3:=jH k2;have U3:=jH ((C9.Jw O2.out (jaa _)).trans u3);clear h1 o1 h2 o2 u3 k1 k2 E;go_wp2;go_ret;exact ⟨U3.out.only,.inl ⟨E2.out,rfl,_,_,_,_,_,P3.out⟩⟩
def La (N base:Nat) (vT vE:Value) (l:List Mbx.S) (n:Nat) (es:List Lst.Ent) (T:Option (Lst.Ent × Nat)) (w:World) (e:Ending) (w':World):Prop :=
 (e=.returned (.bool true)/\∃ en k vE' vB' s' x' y',T=some (en,k)/\n+k<=l.length/\Au N vT vE' vB' l (n+k) s' x' y' w'/\Dz base vE' (es ++ [en]) w'/\Below N w w') \/
 (e=.returned (.bool false)/\T=none/\Ay N w w'/\∃ n' vB' s' x' y',Au N vT vE vB' l n' s' x' y' w')
theorem Ay.low {N:Nat} {w w':World} (h:Ay N w w') (hN:N<=w.heap.size):Below N w w':=h.below hN (jaa _)
theorem Ajt (N base:Nat) (vT vE vB:Value) (l:List Mbx.S) (n:Nat) (s x y:ByteArray) (es:List Lst.Ent) (w:World) (H:Au N vT vE vB l n s x y w) (hn:n<=l.length) (F:Sml l) (hE:Dz base vE es w) (hNb:N<base) (hbw:base<=w.heap.size) (hes:es.length<=100000) :
  Calls prog 62 #[.pointer (some ⟨N,0,none⟩)] w (La N base vT vE l n es ((Lst.box (l.drop n)).map λp=>(⟨false,p.1,[p.2.1]⟩,p.2.2)) w):=by
 have K:=jH (Rm N vT vE vB l n s x y w H hn F);have HE:=jH hE;have hNw:=H.lt;obtain ⟨T,hT⟩:∃ T:Option (Lst.Ent × Nat),T=(Lst.box (l.drop n)).map λp=>(⟨false,p.1,[p.2.1]⟩,p.2.2):=⟨_,rfl⟩
 rw [<- hT];have HT:=jH hT;clear H F hE hT;go_enter func62,ntmps62;go_wp2_with fail;refine K.out.mono ?_;rintro e w1 ⟨o,⟨h1,rfl,n',s',x',y',h2⟩ | ⟨nm,a,b,k,h1,hk,rfl,h2⟩⟩
 ·have R:=jH (show La N base vT vE l n es T w (.returned (.bool false)) w1 from .inr ⟨rfl,by rw [HT.out,h1];rfl,o,_,_,_,_,_,h2⟩);clear h1 h2 o K;go_wp2;go_ret;exact R.out
 ·have E1:=jH (HE.out.only o hNb);have hs1:=Nat.le_trans hbw o.size;have P1:=jH h2;obtain ⟨-,-,c2,c3,c4,c5,-⟩:=h2.all;have k2:=((Ac w1 (.cells #[.string ⟨a.toArray⟩,.string ⟨b.toArray⟩] 28)).cell (p:=⟨N,2,none⟩) h2.lt).trans c2;have k3:=((Ac w1 (.cells #[.string ⟨a.toArray⟩,.string ⟨b.toArray⟩] 28)).cell (p:=⟨N,3,none⟩) h2.lt).trans c3;have j2:=((Ac (w1.alloc (.cells #[.string ⟨a.toArray⟩,.string ⟨b.toArray⟩] 28)) (.cells #[.string ⟨nm.toArray⟩,.bool false,.slice (some ⟨w1.heap.size,0,none⟩) 1 1] 47)).cell (p:=⟨N,2,none⟩) (by rw [World.size_alloc];exact Nat.lt_succ_of_lt h2.lt)).trans k2;have ET:=jH (show T=some (⟨false,nm,[(a,b)]⟩,k) by rw [HT.out,h1];rfl);have O1:=jH o;have hw1:=o.size;clear h1 h2 o K;have LX:=jH (show Dl base (.slice (some ⟨w1.heap.size,0,none⟩) 1 1) [(a,b)] (w1.drew.alloc (.cells #[.string ⟨a.toArray⟩,.string ⟨b.toArray⟩] 28)) from World.ownsRow_lit (e:=28) (size:=2) w1.drew #[.string ⟨a.toArray⟩,.string ⟨b.toArray⟩] 1 hs1 (by simp [maxLen]) rfl);have LE:=jH (show Dz base vE es (w1.drew.alloc (.cells #[.string ⟨a.toArray⟩,.string ⟨b.toArray⟩] 28)) from E1.out.Ae ((jan _ w1).drew.trans (Ac w1.drew _)));have LB:=jH (show Below w1.heap.size w1 (w1.drew.alloc (.cells #[.string ⟨a.toArray⟩,.string ⟨b.toArray⟩] 28)) from (jan _ w1).drew.trans (Ac w1.drew _));have hz:(w1.drew.alloc (.cells #[.string ⟨a.toArray⟩,.string ⟨b.toArray⟩] 28)).heap.size=w1.heap.size+1:=by simp
  have HZ:=jH hz;clear hz;go_wp2;go_region_law ((refine Mq _ base _ es LE.out (by rw [HZ.out];omega) jO ⟨false,nm,[(a,b)]⟩ _ LX.out (nm:=⟨nm.toArray⟩) rfl _ HZ.out.symm rfl _ _ rfl rfl rfl ?_;intro v2 w2 ho2 hb2;obtain ⟨A2,z2,rfl,-,-⟩:=ho2.Dg;have E2:=jH (show Dz base (.slice A2 (es.length+1) z2) (es ++ [(⟨false,nm,[(a,b)]⟩:Lst.Ent)]) w2 by (rw [show es.length+1=(es ++ [(⟨false,nm,[(a,b)]⟩:Lst.Ent)]).length by simp];exact ho2));have B2:=jH (show Below base w1 w2 from (LB.out.mono hs1).trans hb2);have P2:=P1.out.upto B2.out hNb;obtain ⟨-,-,d2,-⟩:=P2.all;have f2:=P2.fr 2;have PP2:=jH P2;clear ho2 hb2 P2))
  all_goals
   go_wp2;go_ret;refine .inl ⟨rfl,_,k,_,_,_,_,_,ET.out,hk,PP2.out.Ano _,E2.out.only ((Ay.refl N w2).set 2 _) hNb,?_⟩;exact ((O1.out.low (Nat.le_of_lt hNw)).trans (B2.out.mono (Nat.le_of_lt hNb))).setCell (p:=⟨N,2,none⟩) (jaa _) _
theorem Al0 (N base:Nat) (vT vE vB:Value) (l:List Mbx.S) (n:Nat) (s x y:ByteArray) (es:List Lst.Ent) (w:World) (H:Au N vT vE vB l n s x y w) (hn:n<=l.length) (F:Sml l) (hE:Dz base vE es w) (hNb:N<base) (hbw:base<=w.heap.size) (hes:es.length<=100000) :
  Calls prog 63 #[.pointer (some ⟨N,0,none⟩)] w (La N base vT vE l n es (Lst.group (l.drop n)) w):=by
 have hf:=Lst.Apb (l.drop n);rw [jaj] at hf;have HF:=jH F;have hNw:=H.lt;have HE:=jH hE;have K1:=jH (U6 N vT vE vB l n s x y w H hn F);obtain ⟨T,hT⟩:∃ T,T=Lst.group (l.drop n):=⟨_,rfl⟩
 rw [<- hT];unfold Lst.group at hT;rw [List.drop_drop,List.drop_drop,jaj] at hT;generalize Lst.len (l.drop n)=m at hf K1 hT;generalize Lst.name (l.drop n)=nm at K1 hT;have hm:n+m<=l.length:=jO
 clear H F hE;obtain ⟨X,hX⟩:∃ X:ByteArray,X=⟨nm.toArray⟩:=⟨_,rfl⟩
 rw [<- hX] at K1;by_cases hnm:nm=[]
 ·subst hnm;have E:=jH (show T=none by rw [hT,if_neg (λh=>h.1 rfl)]);replace hX:X=⟨#[]⟩:=hX;subst hX;clear hT;go_enter func63,ntmps63;go_wp2_with fail;refine K1.out.mono ?_;rintro e w1 ⟨rfl,h1,o1⟩;obtain ⟨-,-,-,c3,-⟩:=h1.all;have P1:=jH h1;have O1:=jH o1;clear h1 o1;go_wp2;go_ret;exact .inr ⟨rfl,E.out,O1.out,_,_,_,_,_,P1.out⟩
 have hXe:(X.toList == [])=false:=by
  rw [hX,ByteArray.toList_eq,beq_eq_false_iff_ne];exact hnm
 have HX:=jH hX;have K2:=λW x y (h:Au N vT vE vB l (n+m) X x y W)=>Hc N vT vE vB l (n+m) X x y W h hm HF.out [58] ⟨#[58]⟩ rfl;cases b0:Mbx.isS l (n+m) [58]
 ·have E:=jH (show T=none by rw [hT,if_neg (λh=>by have:=Lst.Dn.1 h.2;rw [b0] at this;cases this)]);simp only [b0] at K2;have K2:=jH K2;clear hT b0 hX;go_enter func63,ntmps63;go_wp2_with fail;refine K1.out.mono ?_;rintro e w1 ⟨rfl,h1,o1⟩;obtain ⟨-,-,-,c3,-⟩:=h1.all;go_wp2_with fail;refine (K2.out w1 _ _ h1).mono ?_;rintro e w2 ⟨rfl,h2,o2⟩;have P2:=jH h2;have O2:=jH (o1.trans o2);clear h1 o1 h2 o2 c3;go_wp2;go_ret;exact .inr ⟨rfl,E.out,O2.out,_,_,_,_,_,P2.out⟩
 obtain ⟨hlt,-⟩:=Mbx.Fc b0;rw [if_pos ⟨hnm,Lst.Dn.2 b0⟩,show n+(m+1)=n+m+1 by omega] at hT;simp only [b0,if_true] at K2;have K2:=jH K2;have K3:=jH (λW x y (h:Au N vT vE vB l (n+m+1) X x y W)=>Ae1 N vT vE vB l (n+m+1) X x y (l.length - n+1) W h jO HF.out jO);have HT:=jH hT;clear hT b0 hX hnm;go_enter func63,ntmps63;go_wp2_with fail;refine K1.out.mono ?_;rintro e w1 ⟨rfl,h1,o1⟩;obtain ⟨-,-,-,c3,-⟩:=h1.all;go_wp2_with fail;refine (K2.out w1 _ _ h1).mono ?_;rintro e w2 ⟨rfl,h2,o2⟩;obtain ⟨-,-,-,d3,-⟩:=h2.all;have O2:=jH (o1.trans o2);have hs2:=O2.out.size;clear o1 c3 h1;go_wp2_with fail;refine (K3.out w2 _ _ h2).mono ?_;rintro e w3 ⟨o3,⟨h3,rfl,n',vB',s',x',y',h4⟩ | ⟨bs,k,vB',s',x',y',h3,rfl,h4,h5,h6⟩⟩
 ·have R:=jH (show La N base vT vE l n es T w (.returned (.bool false)) w3 from .inr ⟨rfl,by rw [HT.out,h3],O2.out.trans o3,_,_,_,_,_,h4⟩);clear h2 o2 d3 o3 h3 h4;go_wp2;go_ret;exact R.out
 ·obtain ⟨Ab,cb,rfl,-,-⟩:=id h6.Azg;have O3:=jH (O2.out.trans o3);have E3:=jH (HE.out.only O3.out hNb);have hs3:=Nat.le_trans hbw O3.out.size;have P3:=jH h5;obtain ⟨-,-,c2,-,-,-,c6⟩:=h5.all;have k2:=((Ac w3 (.cells #[.string X,.bool true,(.slice Ab bs.length cb)] 47)).cell (p:=⟨N,2,none⟩) h5.lt).trans c2;have hsk:=Mbx.Ky (l:=l) (n:=n+m+1+k) h4;have ET:=jH (show T=some (⟨true,nm,bs⟩,m+1+k+Mbx.skip (l.drop (n+m+1+k))) by
   rw [HT.out,h3];simp only;rw [List.drop_drop,show n+(m+1+k)=n+m+1+k by omega])
  have X3:=jH (show Dl base (.slice Ab bs.length cb) bs w3 from Dl.lower h6 (Nat.le_trans hbw hs2));clear h2 o2 d3 o3 h3 h4 h5 h6 K1 K2 K3 HT;go_wp2;go_region_law ((refine Mq w3.drew base _ es (E3.out.Ae (jan _ w3).drew) hs3 jO ⟨true,nm,bs⟩ _ (World.ownsRow.drew X3.out) (nm:=X) HX.out _ rfl rfl _ _ rfl rfl rfl ?_;intro v4 w4 ho4 hb4;obtain ⟨A4,z4,rfl,-,-⟩:=ho4.Dg;have E4:=jH (show Dz base (.slice A4 (es.length+1) z4) (es ++ [(⟨true,nm,bs⟩:Lst.Ent)]) w4 by (rw [show es.length+1=(es ++ [(⟨true,nm,bs⟩:Lst.Ent)]).length by simp];exact ho4));have B4:=jH (show Below base w3 w4 from (jan base w3).drew.trans hb4);have P4:=P3.out.upto B4.out hNb;obtain ⟨-,-,d2,-⟩:=P4.all;have f2:=P4.fr 2;have PP4:=jH P4;clear ho4 hb4 P4))
  all_goals
   go_wp2;go_ret;refine .inl ⟨rfl,⟨true,nm,bs⟩,m+1+k+Mbx.skip (l.drop (n+m+1+k)),.slice A4 (es.length+1) z4,(.slice Ab bs.length cb),s',x',y',ET.out,by omega,?_,E4.out.only ((Ay.refl N w4).set 2 _) hNb,((O3.out.low (Nat.le_of_lt hNw)).trans (B4.out.mono (Nat.le_of_lt hNb))).setCell (p:=⟨N,2,none⟩) (jaa _) _⟩;have:=PP4.out.Ano (.slice A4 (es.length+1) z4);rwa [show n+m+1+k+Mbx.skip (l.drop (n+m+1+k))=n+(m+1+k+Mbx.skip (l.drop (n+m+1+k))) by omega] at this
theorem Lst.Azu {l:List Mbx.S} {p:List UInt8 × Lst.Box × Nat} (h:Lst.box l=some p):Lst.ent l=some (⟨false,p.1,[p.2.1]⟩,p.2.2):=by obtain ⟨a,b,c⟩:=p;unfold Lst.ent;rw [h]
theorem Lst.Ao3 {l:List Mbx.S} (h:Lst.box l=none):Lst.ent l=Lst.group l:=by unfold Lst.ent;rw [h]
theorem Alv (N base:Nat) (vT vE vB:Value) (l:List Mbx.S) (n:Nat) (s x y:ByteArray) (es:List Lst.Ent) (w:World) (H:Au N vT vE vB l n s x y w) (hn:n<=l.length) (F:Sml l) (hE:Dz base vE es w) (hNb:N<base) (hbw:base<=w.heap.size) (hes:es.length<=100000) :
  Calls prog 40 #[.pointer (some ⟨N,0,none⟩)] w (La N base vT vE l n es (Lst.ent (l.drop n)) w):=by
 have hNw:=H.lt;obtain ⟨W1,hW1⟩:∃ W1,W1=w.alloc (.cells #[.func (.func 62) #[.pointer (some ⟨N,0,none⟩)] #[],.func (.func 63) #[.pointer (some ⟨N,0,none⟩)] #[]] 23):=⟨_,rfl⟩
 have b1:Below w.heap.size w W1:=by rw [hW1];exact Ac _ _
 have P1:=H.Ae b1;have E1:=hE.Ae b1;have g0:W1.cell? ⟨w.heap.size,0,none⟩=some (.func (.func 62) #[.pointer (some ⟨N,0,none⟩)] #[]):=by rw [hW1,World.cell?_alloc_at _ _ _ _ rfl];rfl
 have g1:W1.cell? ⟨w.heap.size,1,none⟩=some (.func (.func 63) #[.pointer (some ⟨N,0,none⟩)] #[]):=by rw [hW1,World.cell?_alloc_at _ _ _ _ rfl];rfl
 have hg:w.heap.size<W1.heap.size:=by rw [hW1,World.size_alloc];omega
 have hb1:=Nat.le_trans hbw b1.size;have K:=Xi N w.heap.size 62 63 n
  (λW=>∃ en k vE' vB' s' x' y',Lst.ent (l.drop n)=some (en,k)/\n+k<=l.length/\Au N vT vE' vB' l (n+k) s' x' y' W/\Dz base vE' (es ++ [en]) W/\Below N W1 W)
  (λW=>Ay N W1 W/\Lst.box (l.drop n)=none/\∃ n' vB' s' x' y',Au N vT vE vB' l n' s' x' y' W)
  (λW=>Ay N W1 W/\Lst.ent (l.drop n)=none/\∃ n' vB' s' x' y',Au N vT vE vB' l n' s' x' y' W)
  W1 P1.all.2.1 g0 (enters_of func62 jK rfl) (enters_of func63 jK rfl)
  ((
   Ajt N base vT vE vB l n s x y es W1 P1 hn F E1 hNb hb1 hes).mono λe W h=>by
   rcases h with ⟨h1,en,k,vE',vB',s',x',y',h2,h3,h4,h5,h6⟩ | ⟨h1,h2,h3,h4⟩
   ·refine .inl ⟨h1,en,k,vE',vB',s',x',y',?_,h3,h4,h5,h6⟩;cases hb:Lst.box (l.drop n) with
    | none=>rw [hb] at h2;cases h2
    | some p=>rw [hb] at h2;rw [Lst.Azu hb];exact h2
   ·refine .inr ⟨h1,h3,?_,h4⟩;cases hb:Lst.box (l.drop n) with
    | none=>rfl
    | some p=>rw [hb] at h2;cases h2)
  (λW ⟨o,_,n',vB',s',x',y',p⟩=>⟨(World.cell?_of_block (w:=W1) (o.block w.heap.size hg (Nat.ne_of_gt hNw))).trans g1,by omega,⟨_,p.all.2.1⟩,p.fr 1⟩)
  (λW ⟨o,h,n',vB',s',x',y',p⟩=>(Al0 N base vT vE vB' l n s' x' y' es _ (p.Qc n) hn F (E1.only (o.set 1 _) hNb) hNb (Nat.le_trans hb1 (o.set 1 (.int .i64 n)).size) hes).mono λe V h2=>by
   have o1:=o.set 1 (.int .i64 n);rcases h2 with ⟨h1,en,k,vE',vB',s',x',y',h2,h3,h4,h5,h6⟩ | ⟨h1,h2,h3,h4⟩
   ·exact .inl ⟨h1,en,k,vE',vB',s',x',y',(Lst.Ao3 h).trans h2,h3,h4,h5,(o1.low jO).trans h6⟩
   ·exact .inr ⟨h1,o1.trans h3,(Lst.Ao3 h).trans h2,h4⟩)
  (λW ⟨_,_,n',vB',s',x',y',p⟩=>⟨⟨_,p.all.2.1⟩,p.fr 1⟩)
 have K:=jH K;have HW1:=jH hW1.symm;have HB:=jH b1;clear hW1 P1 E1 g0 g1 H hE hg b1;go_enter func40,ntmps40;go_wp2_with fail;rw [HW1.out];refine K.out.mono ?_;rintro e w2 (⟨rfl,en,k,vE',vB',s',x',y',h1,h2,h3,h4,h5⟩ | ⟨rfl,W,⟨o,h1,n',vB',s',x',y',p⟩,rfl⟩)
 ·have R:=jH (show La N base vT vE l n es (Lst.ent (l.drop n)) w (.returned (.bool true)) w2 from .inl ⟨rfl,en,k,vE',vB',s',x',y',h1,h2,h3,h4,(HB.out.mono (Nat.le_of_lt hNw)).trans h5⟩);clear h1 h2 h3 h4 h5;go_wp2;go_ret;exact R.out
 ·have R:=jH (show La N base vT vE l n es (Lst.ent (l.drop n)) w (.returned (.bool false)) (W.setCell ⟨N,1,none⟩ (.int .i64 n)) from .inr ⟨rfl,h1,((Ay.of HB.out).trans o).set 1 _,_,_,_,_,_,p.Qc n⟩);clear o h1 p;go_wp2;go_ret;exact R.out
