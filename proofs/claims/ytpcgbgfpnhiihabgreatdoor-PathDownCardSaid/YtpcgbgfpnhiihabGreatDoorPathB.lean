import Derived.Test.YtpcgbgfpnhiihabGreatDoorPathA
set_option maxRecDepth 100000
set_option maxHeartbeats 4000000
namespace Go.Proofs.YtpcgbgfpnhiihabGreatDoor
open Tryz
section
open Go.RowKit Utf
namespace Pth
open Mbx (S)
theorem Aed {l:List S} (h:Mbx.isS l 0 [60]=false):within l=false:=by unfold within;rw [h];simp
theorem Ah8 {l:List S} (h:Mbx.isS l (l.length - 1) [62]=false):within l=false:=by unfold within;rw [h];simp
theorem Alw {l:List S} (h:l.length<2):within l=false:=by unfold within;rw [decide_eq_false jO];rfl
theorem Ah9 {l:List S} (h1:2<=l.length) (h2:Mbx.isS l 0 [60]=true) (h3:Mbx.isS l (l.length - 1) [62]=true):within l=!(mid l).any Mbx.Bi:=by unfold within;rw [h2,h3,decide_eq_true h1];rfl
theorem Ams {l:List S} (h:2<=l.length):(mid l).length=l.length - 2:=by unfold mid;rw [jak,jaj];omega
theorem Ayt {l:List S} {i:Nat} (h:i<(mid l).length):∃ h2:i+1<l.length,(mid l)[i]=l[i+1]:=by
 have h0:i<l.length - 2:=by
  have h1:=h;unfold mid at h1;rw [jak,jaj] at h1;omega
 have e:(mid l)[i]? = l[i+1]?:=by
  unfold mid;rw [List.getElem?_take,if_pos h0,List.getElem?_drop,Nat.add_comm]
 rw [List.getElem?_eq_getElem h,List.getElem?_eq_getElem (show i+1<l.length by omega)] at e;exact ⟨by omega,Option.some.inj e⟩
theorem Awy {l:List S} (F:Few l):Few (mid l):=⟨by unfold mid;rw [jak,jaj];have:=F.len;omega,λk hk=>F.text k (List.mem_of_mem_drop (List.mem_of_mem_take hk))⟩
theorem Atd {l:List S} {i:Nat} (h:i<l.length) {q:Int} {U T:ByteArray} (h1:l[i].1=q) (h2:(⟨l[i].2.toArray⟩:ByteArray)=U):Mbx.isS l i T.data.toList=((q == 2) && (U.toList == T.toList)):=by
 unfold Mbx.isS;rw [List.getElem?_eq_getElem h,ByteArray.toList_eq,ByteArray.toList_eq,<- h1,<- h2];obtain ⟨k,u⟩:=l[i];by_cases e:k=2<;>by_cases f:u=T.data.toList<;>simp [e,f]
end Pth
def Vs (N:Nat) (l:List Mbx.S) (w:World) (e:Ending) (w':World):Prop :=
 ∃ v,e=.returned (.tuple #[v,.bool (Pth.within l)])/\(Pth.within l=true->Fi N v (Pth.mid l) w')/\Below w.heap.size w w'
theorem Alv (N:Nat) (v:Value) (l:List Mbx.S) (w:World) (H:Fi N v l w) (hN:N<=w.heap.size) (F:Few l) :
  Calls prog 24 #[v] w (Vs N l w):=by
 have hl:=F.len;obtain ⟨A,c,rfl,hc,h⟩:=H.flat;by_cases h2:2<=l.length
 case neg =>
  have hz:(l.length:Int) - 1<1:=jO
  have E:=jH (Pth.Alw jO:Pth.within l=false);clear h H F hc h2 hN;go_enter func24,ntmps24;go_wp2;go_ret2;exact ⟨_,by rw [E.out];rfl,λh=>absurd (h.symm.trans E.out) jD,jan _ _⟩
 obtain ⟨m,hm⟩:∃ m,l.length=m+1:=⟨l.length - 1,by omega⟩
 have hmz:(l.length:Int) - 1=(m:Int):=jO
 have hm1:¬ (m:Int)<1:=jO
 have hm2:(m:Int)<(l.length:Int):=jO
 have hm3:(1:Int)<=(m:Int):=jO
 have hlc:(l.length:Int)<=(c:Int):=jO
 obtain ⟨g,o,rfl,hg,h⟩:=h jO;have hgw:g<w.heap.size:=jas hg hN;have hs00:=h 0 jO;rw [show o+0*3=o by omega] at hs00;obtain ⟨s0,s1,pa,s2⟩:=hs00;obtain ⟨e0,e1,pz,e2⟩:=h m jO;have HM:Fi N (.slice (some ⟨g,o+3,none⟩) (m - 1) (c - 1)) (Pth.mid l) w:=by
  have hml:=Pth.Ams h2;refine ⟨some ⟨g,o+3,none⟩,c - 1,by rw [hml,show l.length - 2=m - 1 by omega],by omega,λi hi=>?_⟩;obtain ⟨hi2,e⟩:=Pth.Ayt hi;have:=h (i+1) hi2;rw [e];exact ⟨g,o+3,rfl,hg,by rw [show o+3+i*3=o+(i+1)*3 by omega];exact this⟩
 have hwr:=Pth.Ah9 h2 (l:=l);have hwf:=Pth.Aed (l:=l);have hwl:=Pth.Ah8 (l:=l);rw [show l.length - 1=m by omega] at hwr hwl;obtain ⟨U,hU⟩:∃ U:ByteArray,(⟨l[0].2.toArray⟩:ByteArray)=U:=⟨_,rfl⟩
 obtain ⟨V,hV⟩:∃ V:ByteArray,(⟨l[m].2.toArray⟩:ByteArray)=V:=⟨_,rfl⟩
 obtain ⟨q,hq⟩:∃ q,l[0].1=q:=⟨_,rfl⟩
 obtain ⟨r,hr⟩:∃ r,l[m].1=r:=⟨_,rfl⟩
 have i0:Mbx.isS l 0 [60]=_:=Pth.Atd (T:=⟨#[60]⟩) jO hq hU;have i1:Mbx.isS l m [62]=_:=Pth.Atd (T:=⟨#[62]⟩) jO hr hV;rw [hq] at s0;rw [hr] at e0;rw [hU] at s1;rw [hV] at e1;have KA:=λW=>Q9 q pa U ⟨#[60]⟩ W;have KZ:=λW=>Q9 r pz V ⟨#[62]⟩ W;rw [<- i0] at KA;rw [<- i1] at KZ;have KC:=λW (hb:Below w.heap.size w W)=>Zl N _ (Pth.mid l) W (HM.Ac λk hk=>hb.block k (jas hk hN)) (Nat.le_trans hN hb.size) (by rw [Pth.Ams h2];omega);have HMK:=jH (λW (hb:Below w.heap.size w W)=>HM.Ac λk hk=>hb.block k (jas hk hN));have hkeep:∀ W (hb:Below w.heap.size w W) j,W.cell? ⟨g,j,none⟩=w.cell? ⟨g,j,none⟩:=λW hb j=>hb.cell (p:=⟨g,j,none⟩) hgw;have HK:=jH hkeep;clear hU hV hq hr i0 i1 h H F hN hg hc HM hkeep hgw;cases b0:Mbx.isS l 0 [60]
 ·rw [b0] at KA;have E:=jH (hwf b0);have KA:=jH KA;clear hwr hwf hwl KZ KC b0 hm h2;go_enter func24,ntmps24;go_wp2_with fail;refine (KA.out _).mono ?_;rintro e w1 ⟨rfl,hb⟩;have B1:=jH hb;clear hb;go_wp2;go_ret2;exact ⟨_,by rw [E.out];rfl,λh=>absurd (h.symm.trans E.out) jD,B1.out⟩
 rw [b0] at KA;have KA:=jH KA;cases b1:Mbx.isS l m [62]
 ·rw [b1] at KZ;have E:=jH (hwl b1);have KZ:=jH KZ;clear hwr hwf hwl KC b0 b1 hm h2;go_enter func24,ntmps24;go_wp2_with fail;refine (KA.out _).mono ?_;rintro e w1 ⟨rfl,hb⟩;have B1:=jH hb;have e0':=(HK.out _ hb _).trans e0;have e1':=(HK.out _ hb _).trans e1;have e2':=(HK.out _ hb _).trans e2;clear hb s0 s1 s2 e0 e1 e2;go_wp2_with fail;refine (KZ.out _).mono ?_;rintro e w2 ⟨rfl,hb⟩;have B2:=jH (Aa B1.out hb);clear hb;go_wp2;go_ret2;exact ⟨_,by rw [E.out];rfl,λh=>absurd (h.symm.trans E.out) jD,B2.out⟩
 rw [b1] at KZ;have KZ:=jH KZ;have hE:=hwr b0 b1;generalize hx:(Pth.mid l).any Mbx.Bi=x at KC hE;have E:=jH hE;have KC:=jH KC;clear hwr hwf hwl b0 b1 hm h2 hE hx;cases x
 all_goals
  go_enter func24,ntmps24;go_wp2_with fail;refine (KA.out _).mono ?_;rintro e w1 ⟨rfl,hb⟩;have B1:=jH hb;have e0':=(HK.out _ hb _).trans e0;have e1':=(HK.out _ hb _).trans e1;have e2':=(HK.out _ hb _).trans e2;clear hb s0 s1 s2 e0 e1 e2;go_wp2_with fail;refine (KZ.out _).mono ?_;rintro e w2 ⟨rfl,hb⟩;have B2:=jH (Aa B1.out hb);clear hb e0' e1' e2';go_wp2_with fail;refine (KC.out _ B2.out).mono ?_;rintro e w3 ⟨rfl,hb⟩;have B3:=jH (Aa B2.out hb);clear hb;go_wp2;go_ret2
  first
   | exact ⟨_,(by rw [E.out];rfl),λ_=>HMK.out _ B3.out,B3.out⟩
   | exact ⟨.slice none 0 0,(by rw [E.out];rfl),λh=>absurd (h.symm.trans E.out) jD,B3.out⟩
def Vp (l:List Mbx.S) (w:World) (e:Ending) (w':World):Prop :=
 (∃ (n:Bool) (x y:ByteArray),e=.returned (.tuple #[.agg #[.bool n,.string x,.string y],.bool (Pth.F9 l).isSome])/\(∀ p,Pth.F9 l=some p->n=p.1/\x=⟨p.2.1.toArray⟩/\y=⟨p.2.2.toArray⟩))/\Below w.heap.size w w'
theorem Akw (N:Nat) (v:Value) (l:List Mbx.S) (w:World) (H:Fi N v l w) (hN:N<=w.heap.size) (F:Few l) :
  Calls prog 25 #[v] w (Vp l w):=by
 have hl:=F.len;obtain ⟨B,hB⟩:∃ B,w.heap.size=B:=⟨_,rfl⟩
 obtain ⟨W0,hW0⟩:∃ W0,W0=w.alloc (.cells #[.bool false,.string ⟨#[]⟩,.string ⟨#[]⟩] 25):=⟨_,rfl⟩
 have R0:PAt B false ⟨#[]⟩ ⟨#[]⟩ W0:=by rw [hW0,<- hB];exact PAt.new _ _ _ _
 have B0:Below w.heap.size w W0:=by rw [hW0];exact Ab _ _
 have hs0:W0.heap.size=B+1:=by rw [hW0,World.size_alloc,hB]
 have KT:=λW (hb:Below w.heap.size w W)=>Avi v l W ((H.Ac λk hk=>hb.block k (jas hk hN)).up (Nat.le_trans hN hb.size)) F;obtain ⟨T,hT⟩:∃ T,Mbx.take l=T:=⟨_,rfl⟩
 rw [hT] at KT;obtain ⟨A,c,rfl,hc,h⟩:=H.flat;have HW0:=jH hW0.symm;have hu:Pth.F9 l=if l.length=0 then some (true,[],[]) else if l.length=1/\(l.headD (0,[])).1=0 then (if Pth.Cx false (l.headD (0,[])).2 []=true then some (false,(l.headD (0,[])).2,[]) else none) else match T with
  | none=>none
  | some (x,y,n)=>if n=l.length then some (false,x,y) else none:=by unfold Pth.F9;rw [hT];rfl
 obtain ⟨S,hS⟩:∃ S,Pth.F9 l=S:=⟨_,rfl⟩
 unfold Vp;rw [hS] at hu ⊢;clear hS hW0 H hT;by_cases h0:l.length=0
 ·rw [if_pos h0] at hu;have E:=jH hu;have hz:(l.length:Int)=0:=jO
  have RR:=jH R0;have BB:=jH B0;obtain ⟨r0,r1,r2⟩:=RR.out.all;obtain ⟨f0,f1,f2⟩:=RR.out.fr;clear h hu KT h0 F hN R0 B0;go_enter func25,ntmps25;go_upto_region 1 with (fail)
  rw [HW0.out];go_wp2;refine bodyPost_ret (v:=.tuple #[.agg #[.bool true,.string ⟨#[]⟩,.string ⟨#[]⟩],.bool true]) (by simp [results,results25,go_sem,r0,r1,r2]) rfl ⟨⟨true,_,_,by rw [E.out];rfl,λp hp=>?_⟩,?_⟩
  ·rw [E.out] at hp;injection hp with hp
   subst hp;exact ⟨rfl,rfl,rfl⟩
  ·exact Ay (C:=B) BB.out jO _ _ _
 rw [if_neg h0] at hu;have e0:((l.length:Int) == 0)=false:=by simpa using (by omega:¬ (l.length:Int)=0)
 have hpos:(0:Int)<(l.length:Int):=jO
 obtain ⟨g,o,rfl,hg,h⟩:=h jO;have hgw:g<w.heap.size:=jas hg hN;have hs00:=h 0 jO;rw [show o+0*3=o by omega] at hs00;obtain ⟨s0,s1,-⟩:=hs00;have hhd:l.headD (0,[])=l[0]:=by cases l with | nil=>exact absurd rfl h0 | cons a b=>rfl
 rw [hhd] at hu;have hb100:=F.at (show 0<l.length by omega);obtain ⟨⟨q,u⟩,hq⟩:∃ p,l[0]=p:=⟨_,rfl⟩
 rw [hq] at hu s0 s1 hb100;simp only at hu s0 s1 hb100;obtain ⟨U,hU⟩:∃ U:ByteArray,U=⟨u.toArray⟩:=⟨_,rfl⟩
 have hUu:U.data.toList=u:=by rw [hU]
 rw [<- hU] at s1;rw [<- hUu] at hu;have hUs:U.size<=100000:=by rw [hU];show u.toArray.size<=_;rw [List.size_toArray];exact hb100
 have c0:W0.cell? ⟨g,o,none⟩=some (.int .i64 q):=(B0.cell (p:=⟨g,o,none⟩) hgw).trans s0;have c1:W0.cell? ⟨g,o+1,none⟩=some (.string U):=(B0.cell (p:=⟨g,o+1,none⟩) hgw).trans s1;have HUU:=jH (show (⟨u.toArray⟩:ByteArray)=U from hU.symm);clear hhd hq h hU hUu hb100 s0 s1 hg hgw h0 F hN;by_cases h1:l.length=1
 ·have e1:((l.length:Int) == 1)=true:=by simpa using (by omega:(l.length:Int)=1)
  by_cases hk:q=0
  ·rw [if_pos ⟨h1,hk⟩] at hu;have ek:(q == 0)=true:=by simpa using hk
   have KM:=λW=>Ml false U ⟨#[]⟩ W hUs;change ∀ W,Calls _ _ _ W λe w'=>e=.returned (.bool (Pth.Cx false U.data.toList []))/\_ at KM;generalize Pth.Cx false U.data.toList []=m at KM hu;have HU:=jH hu;have KM:=jH KM;have RR:=jH R0;have BB:=jH B0;obtain ⟨W1,hW1⟩:∃ W1,W1=W0.alloc (.cells #[.bool false,.string U,.string ⟨#[]⟩] 25):=⟨_,rfl⟩
   have P1:Hid (PAt (B+1) false U ⟨#[]⟩ W1):=jH (by rw [hW1,<- hs0];exact PAt.new _ _ _ _);have R1:Hid (PAt B false ⟨#[]⟩ ⟨#[]⟩ W1):=jH (by rw [hW1];exact RR.out.Ac (Ab _ _));have B1:Hid (Below w.heap.size w W1):=jH (by rw [hW1];exact Aa BB.out (Ab _ _));have HW1:=jH hW1.symm;clear KT hu h1 hk hW1 R0 B0 RR BB;go_enter func25,ntmps25;go_upto_region 1 with (fail)
   rw [HW0.out];go_upto_region 5 with (fail)
   rw [HW1.out];obtain ⟨d0,d1,d2⟩:=P1.out.all;clear c0 c1;go_region_held3 (λw'=>w'.cell? ⟨B+1,0,none⟩=some (.bool false)/\w'.cell? ⟨B+1,1,none⟩=some (.string U)/\w'.cell? ⟨B+1,2,none⟩=some (.string ⟨#[]⟩)) (first | go_keep | exact (((P2.out.other (show B+1 ≠ B by omega) 0 (.bool false)).other (show B+1 ≠ B by omega) 1 (.string U)).other (show B+1 ≠ B by omega) 2 (.string ⟨#[]⟩)).all) ((go_at_call 17;(with_reducible refine (KM.out _).mono ?_);rintro e w2 ⟨rfl,hb⟩;have hb:=Af hb;have P2:=jH (P1.out.Ac hb);have R2:=jH (R1.out.Ac hb);have B2:=jH (Aa B1.out hb);obtain ⟨g0,g1,g2⟩:=P2.out.all;obtain ⟨r0,r1,r2⟩:=R2.out.all;obtain ⟨f0,f1,f2⟩:=R2.out.fr;clear hb))
   all_goals
    go_wp2;refine bodyPost_ret (v:=.tuple #[.agg #[.bool false,.string U,.string ⟨#[]⟩],.bool m]) (by simp [results,results25,go_sem,r0,r1,r2]) rfl ⟨⟨false,_,_,by rw [HU.out];cases m<;>rfl,λp hp=>?_⟩,?_⟩
    ·rw [HU.out] at hp;cases m
     ·rw [if_neg jD] at hp;cases hp
     ·rw [if_pos rfl] at hp;injection hp with hp
      subst hp;exact ⟨rfl,rfl,rfl⟩
    ·exact Ay (C:=B) B2.out jO _ _ _
  ·rw [if_neg (λh=>hk h.2)] at hu;have ek:(q == 0)=false:=by simpa using hk
   clear hk h1;have RR:=jH R0;have BB:=jH B0;clear R0 B0 hs0;cases T with
   | none =>
    replace hu:S=none:=hu;have HU:=jH hu;rw [Mbx.Yl] at KT;have KT:=jH KT;clear hu;go_enter func25,ntmps25;go_upto_region 1 with (fail)
    rw [HW0.out];go_wp2_with fail;with_reducible refine (KT.out _ BB.out).mono ?_
    rintro e w1 ⟨rfl,hb⟩;have R2:=jH ((RR.out.Ac hb).Ac (Ab w1 (.cells #[.string ⟨#[]⟩,.string ⟨#[]⟩] 23)));have B2:=jH (Aa (Aa BB.out hb) (Ab w1 (.cells #[.string ⟨#[]⟩,.string ⟨#[]⟩] 23)));obtain ⟨r0,r1,r2⟩:=R2.out.all;obtain ⟨f0,f1,f2⟩:=R2.out.fr;clear hb c0 c1;go_wp2;refine bodyPost_ret (v:=.tuple #[.agg #[.bool false,.string ⟨#[]⟩,.string ⟨#[]⟩],.bool false]) (by simp [results,results25,go_sem,r0,r1,r2]) rfl ⟨⟨false,_,_,by rw [HU.out];rfl,λp hp=>by rw [HU.out] at hp;cases hp⟩,?_⟩;exact Ay (C:=B) B2.out jO _ _ _
   | some tr =>
    obtain ⟨x,y,k⟩:=tr;replace hu:S=if k=l.length then some (false,x,y) else none:=hu;rw [Mbx.Ym] at KT;have HU:=jH hu;have KT:=jH KT;obtain ⟨X,hX⟩:∃ X:ByteArray,X=⟨x.toArray⟩:=⟨_,rfl⟩
    obtain ⟨Y,hY⟩:∃ Y:ByteArray,Y=⟨y.toArray⟩:=⟨_,rfl⟩
    rw [<- hX,<- hY] at KT;have HX:=jH hX;have HY:=jH hY;clear hu hX hY;cases hk:((k:Int) == (l.length:Int))
    all_goals
     have HKK:=jH hk;go_enter func25,ntmps25;go_upto_region 1 with (fail)
     rw [HW0.out];go_wp2_with fail;with_reducible refine (KT.out _ BB.out).mono ?_
     rintro e w1 ⟨rfl,hb⟩;have R2:=jH ((RR.out.Ac hb).Ac (Ab w1 (.cells #[.string X,.string Y] 23)));have B2:=jH (Aa (Aa BB.out hb) (Ab w1 (.cells #[.string X,.string Y] 23)));obtain ⟨r0,r1,r2⟩:=R2.out.all;obtain ⟨f0,f1,f2⟩:=R2.out.fr;clear hb c0 c1;go_wp2
     first
      | refine bodyPost_ret (v:=.tuple #[.agg #[.bool false,.string X,.string Y],.bool false]) (by simp [results,results25,go_sem,r0,r1,r2]) rfl ⟨⟨false,_,_,by rw [HU.out,if_neg (by have:=HKK.out;simp at this;omega)];rfl,λp hp=>?_⟩,?_⟩
      | refine bodyPost_ret (v:=.tuple #[.agg #[.bool false,.string X,.string Y],.bool true]) (by simp [results,results25,go_sem,r0,r1,r2]) rfl ⟨⟨false,_,_,by rw [HU.out,if_pos (by have:=HKK.out;simp at this;omega)];rfl,λp hp=>?_⟩,?_⟩
     ·rw [HU.out] at hp;split at hp
      ·injection hp with hp
       subst hp;exact ⟨rfl,HX.out,HY.out⟩
      ·cases hp
     ·exact Ay (C:=B) B2.out jO _ _ _
 ·rw [if_neg (λh=>h1 h.1)] at hu;have e1:((l.length:Int) == 1)=false:=by simpa using (by omega:¬ (l.length:Int)=1)
  clear h1;have RR:=jH R0;have BB:=jH B0;clear R0 B0 hs0;cases T with
  | none =>
   replace hu:S=none:=hu;have HU:=jH hu;rw [Mbx.Yl] at KT;have KT:=jH KT;clear hu;go_enter func25,ntmps25;go_upto_region 1 with (fail)
   rw [HW0.out];go_wp2_with fail;with_reducible refine (KT.out _ BB.out).mono ?_
   rintro e w1 ⟨rfl,hb⟩;have R2:=jH ((RR.out.Ac hb).Ac (Ab w1 (.cells #[.string ⟨#[]⟩,.string ⟨#[]⟩] 23)));have B2:=jH (Aa (Aa BB.out hb) (Ab w1 (.cells #[.string ⟨#[]⟩,.string ⟨#[]⟩] 23)));obtain ⟨r0,r1,r2⟩:=R2.out.all;obtain ⟨f0,f1,f2⟩:=R2.out.fr;clear hb c0 c1;go_wp2;refine bodyPost_ret (v:=.tuple #[.agg #[.bool false,.string ⟨#[]⟩,.string ⟨#[]⟩],.bool false]) (by simp [results,results25,go_sem,r0,r1,r2]) rfl ⟨⟨false,_,_,by rw [HU.out];rfl,λp hp=>by rw [HU.out] at hp;cases hp⟩,?_⟩;exact Ay (C:=B) B2.out jO _ _ _
  | some tr =>
   obtain ⟨x,y,k⟩:=tr;replace hu:S=if k=l.length then some (false,x,y) else none:=hu;rw [Mbx.Ym] at KT;have HU:=jH hu;have KT:=jH KT;obtain ⟨X,hX⟩:∃ X:ByteArray,X=⟨x.toArray⟩:=⟨_,rfl⟩
   obtain ⟨Y,hY⟩:∃ Y:ByteArray,Y=⟨y.toArray⟩:=⟨_,rfl⟩
   rw [<- hX,<- hY] at KT;have HX:=jH hX;have HY:=jH hY;clear hu hX hY;cases hk:((k:Int) == (l.length:Int))
   all_goals
    have HKK:=jH hk;go_enter func25,ntmps25;go_upto_region 1 with (fail)
    rw [HW0.out];go_wp2_with fail;with_reducible refine (KT.out _ BB.out).mono ?_
    rintro e w1 ⟨rfl,hb⟩;have R2:=jH ((RR.out.Ac hb).Ac (Ab w1 (.cells #[.string X,.string Y] 23)));have B2:=jH (Aa (Aa BB.out hb) (Ab w1 (.cells #[.string X,.string Y] 23)));obtain ⟨r0,r1,r2⟩:=R2.out.all;obtain ⟨f0,f1,f2⟩:=R2.out.fr;clear hb c0 c1;go_wp2
    first
     | refine bodyPost_ret (v:=.tuple #[.agg #[.bool false,.string X,.string Y],.bool false]) (by simp [results,results25,go_sem,r0,r1,r2]) rfl ⟨⟨false,_,_,by rw [HU.out,if_neg (by have:=HKK.out;simp at this;omega)];rfl,λp hp=>?_⟩,?_⟩
     | refine bodyPost_ret (v:=.tuple #[.agg #[.bool false,.string X,.string Y],.bool true]) (by simp [results,results25,go_sem,r0,r1,r2]) rfl ⟨⟨false,_,_,by rw [HU.out,if_pos (by have:=HKK.out;simp at this;omega)];rfl,λp hp=>?_⟩,?_⟩
    ·rw [HU.out] at hp;split at hp
     ·injection hp with hp
      subst hp;exact ⟨rfl,HX.out,HY.out⟩
     ·cases hp
    ·exact Ay (C:=B) B2.out jO _ _ _
end
section
open Go.RowKit Utf
theorem Om (t:Value) (s:ByteArray) (w:World) (hT:Table w t) (hs:s.size<=100000)
  (hf:∀ ts n x y,Lex.Ey s.data.toList=(0,0,ts)->Pth.F9 (Pth.mid (ts.map Lex.D6))=some (n,x,y)->x.length<=100000/\Av ⟨y.toArray⟩)
  {E:Int} {n:Bool} {x y:List UInt8} (hp:Pth.En s.data.toList=(E,n,x,y)):Calls prog 12 #[t,.string s] w λe w'=>e=.returned (.tuple #[.agg #[.bool n,.string ⟨x.toArray⟩,.string ⟨y.toArray⟩],.int .i64 E])/\Below w.heap.size w w':=by
 have hT0:=hT;obtain ⟨b0,b1,b2,b3,rfl,-,-,-,-⟩:=hT0;obtain ⟨B,hB⟩:∃ B,w.heap.size=B:=⟨_,rfl⟩
 obtain ⟨W0,hW0⟩:∃ W0,W0=((w.alloc (.cells #[.slice (some ⟨b0,0,none⟩) 74 74,.slice (some ⟨b1,0,none⟩) 10 10,.slice (some ⟨b2,0,none⟩) 11 11,.slice (some ⟨b3,0,none⟩) 42 42] 33)).alloc (.cells #[.bool false,.string ⟨#[]⟩,.string ⟨#[]⟩] 25)).alloc (.cells #[.bool false,.string ⟨#[]⟩,.string ⟨#[]⟩] 25):=⟨_,rfl⟩
 obtain ⟨T0,R0,P0,B0,-⟩:=Ni hB b0 b1 b2 b3 false false ⟨#[]⟩ ⟨#[]⟩ ⟨#[]⟩ ⟨#[]⟩ hW0;have HW0:=jH hW0.symm;have TT:=jH T0;have RR:=jH R0;have PP:=jH P0;have BB:=jH B0;clear hW0 T0 R0 P0 B0;obtain ⟨⟨F,pl,ts⟩,hl⟩:∃ q,Lex.Ey s.data.toList=q:=⟨_,rfl⟩
 have hsl:s.data.toList.length=s.size:=by simp
 have hfew:=(Mbx.Aws hl jO).1;have KL:∀ W,Calls _ _ _ W (Pr F pl ts W):=λW=>Amn.Ayr s W hs hl;have KL:=jH KL;have KW:=λv W (h:Y0 v ts W)=>Alv W.heap.size v (ts.map Lex.D6) W (Fi.of h) (jaa _) hfew;have KR:=λN v W (h:Fi N v (Pth.mid (ts.map Lex.D6)) W) (hN:N<=W.heap.size)=>Akw N v _ W h hN (Pth.Awy hfew);unfold Pth.En at hp;rw [hl] at hp;simp only at hp;by_cases hF:F=0
 case neg =>
  rw [if_pos hF] at hp;injection hp with q1 hp;injection hp with q2 hp;injection hp with q3 q4
  subst q1 q2 q3 q4;have e0:(F != 0)=true:=by simpa using hF
  clear hF hf hl hT KW KR hfew;go_enter func12,ntmps12;go_wp2;refine Gq 0 rfl ?_;go_wp2_with fail;rw [HW0.out];refine (KL.out _).mono ?_;rintro e w1 ⟨A,c,rfl,hv,hb⟩;replace TT:=jH (TT.out.Ac hb);replace RR:=jH (RR.out.Ac hb);replace PP:=jH (PP.out.Ac hb);replace BB:=jH (Aa BB.out hb);clear hb;obtain ⟨t0,t1,t2,t3⟩:=TT.out.all;obtain ⟨r0,r1,r2⟩:=RR.out.all;obtain ⟨f0,f1,f2⟩:=RR.out.fr;obtain ⟨p0,p1,p2⟩:=PP.out.all;obtain ⟨j0,j1,j2⟩:=PP.out.fr;go_wp2;go_step3;refine ⟨rfl,?_⟩;go_wp2;rw [Exit.noGoto_ret];refine bodyPost_ret (v:=.tuple #[.agg #[.bool false,.string ⟨#[]⟩,.string ⟨#[]⟩],.int .i64 F]) (by simp [results,results12,go_sem,r0,r1,r2]) rfl ⟨rfl,?_⟩;exact Ay (C:=B+1) BB.out jO _ _ _
 subst hF;rw [if_neg (show ¬ ((0:Int) ≠ 0) by decide)] at hp;have hpl:pl=0:=by
  rcases Lex.Kb s.data.toList with ⟨-,e⟩ | ⟨-,F,q,e,h1,-⟩ | ⟨-,us,e,hc,-⟩
  ·rw [e] at hl;injection hl with h _;cases h
  ·rw [e] at hl;injection hl with h _;omega
  ·rw [e] at hl;injection hl with _ h;injection h with h _;exact h.symm
 subst hpl;have hf:=λn x y=>hf ts n x y hl;unfold Pth.Xm at hp;unfold Vs at KW;clear hl hfew hsl;cases hw:Pth.within (ts.map Lex.D6)
 ·rw [hw,if_neg jD] at hp;simp only [hw] at KW;have KW:=jH KW;injection hp with q1 hp;injection hp with q2 hp;injection hp with q3 q4
  subst q1 q2 q3 q4;clear hf hT KR hw;go_enter func12,ntmps12;go_wp2;refine Gq 0 rfl ?_;go_wp2_with fail;rw [HW0.out];refine (KL.out _).mono ?_;rintro e w1 ⟨A,c,rfl,hv,hb⟩;replace TT:=jH (TT.out.Ac hb);replace RR:=jH (RR.out.Ac hb);replace PP:=jH (PP.out.Ac hb);replace BB:=jH (Aa BB.out hb);clear hb;obtain ⟨t0,t1,t2,t3⟩:=TT.out.all;obtain ⟨r0,r1,r2⟩:=RR.out.all;obtain ⟨f0,f1,f2⟩:=RR.out.fr;obtain ⟨p0,p1,p2⟩:=PP.out.all;obtain ⟨j0,j1,j2⟩:=PP.out.fr;have HV:=jH hv;clear hv;go_wp2_with fail;refine (KW.out _ _ HV.out).mono ?_;rintro e w2 ⟨v',rfl,-,hb⟩;replace TT:=jH (TT.out.Ac hb);replace RR:=jH (RR.out.Ac hb);replace PP:=jH (PP.out.Ac hb);replace BB:=jH (Aa BB.out hb);clear hb;clear t0 t1 t2 t3 p0 p1 p2 j0 j1 j2 r0 r1 r2 f0 f1 f2;obtain ⟨t0,t1,t2,t3⟩:=TT.out.all;obtain ⟨r0,r1,r2⟩:=RR.out.all;obtain ⟨f0,f1,f2⟩:=RR.out.fr;obtain ⟨p0,p1,p2⟩:=PP.out.all;obtain ⟨j0,j1,j2⟩:=PP.out.fr;go_wp2;go_step3;refine ⟨rfl,?_⟩;go_wp2;rw [Exit.noGoto_ret];refine bodyPost_ret (v:=.tuple #[.agg #[.bool false,.string ⟨#[]⟩,.string ⟨#[]⟩],.int .i64 4]) (by simp [results,results12,go_sem,r0,r1,r2]) rfl ⟨rfl,?_⟩;exact Ay (C:=B+1) BB.out jO _ _ _
 rw [hw,if_pos rfl] at hp;simp only [hw] at KW;have KW:=jH KW;unfold Vp at KR;clear hw;cases hr:Pth.F9 (Pth.mid (ts.map Lex.D6)) with
 | none =>
  rw [hr] at hp KR;injection hp with q1 hp;injection hp with q2 hp;injection hp with q3 q4
  subst q1 q2 q3 q4;have KR:=jH KR;clear hf hT hr;go_enter func12,ntmps12;go_wp2;refine Gq 0 rfl ?_;go_wp2_with fail;rw [HW0.out];refine (KL.out _).mono ?_;rintro e w1 ⟨A,c,rfl,hv,hb⟩;replace TT:=jH (TT.out.Ac hb);replace RR:=jH (RR.out.Ac hb);replace PP:=jH (PP.out.Ac hb);replace BB:=jH (Aa BB.out hb);clear hb;obtain ⟨t0,t1,t2,t3⟩:=TT.out.all;obtain ⟨r0,r1,r2⟩:=RR.out.all;obtain ⟨f0,f1,f2⟩:=RR.out.fr;obtain ⟨p0,p1,p2⟩:=PP.out.all;obtain ⟨j0,j1,j2⟩:=PP.out.fr;have HV:=jH hv;clear hv;go_wp2_with fail;refine (KW.out _ _ HV.out).mono ?_;rintro e w2 ⟨v',rfl,hm,hb⟩;have LE:=jH hb.size;replace TT:=jH (TT.out.Ac hb);replace RR:=jH (RR.out.Ac hb);replace PP:=jH (PP.out.Ac hb);replace BB:=jH (Aa BB.out hb);clear hb;clear t0 t1 t2 t3 p0 p1 p2 j0 j1 j2 r0 r1 r2 f0 f1 f2;obtain ⟨t0,t1,t2,t3⟩:=TT.out.all;obtain ⟨r0,r1,r2⟩:=RR.out.all;obtain ⟨f0,f1,f2⟩:=RR.out.fr;obtain ⟨p0,p1,p2⟩:=PP.out.all;obtain ⟨j0,j1,j2⟩:=PP.out.fr;have HM:=jH (hm (by trivial));clear hm;go_wp2_with fail;refine (KR.out _ _ _ HM.out LE.out).mono ?_;rintro e w3 ⟨⟨n',x',y',rfl,-⟩,hb⟩;replace TT:=jH (TT.out.Ac hb);replace RR:=jH (RR.out.Ac hb);replace PP:=jH (PP.out.Ac hb);replace BB:=jH (Aa BB.out hb);clear hb;clear t0 t1 t2 t3 p0 p1 p2 j0 j1 j2 r0 r1 r2 f0 f1 f2;obtain ⟨t0,t1,t2,t3⟩:=TT.out.all;obtain ⟨r0,r1,r2⟩:=RR.out.all;obtain ⟨f0,f1,f2⟩:=RR.out.fr;obtain ⟨p0,p1,p2⟩:=PP.out.all;obtain ⟨j0,j1,j2⟩:=PP.out.fr;go_wp2;go_step3;refine ⟨rfl,?_⟩;go_wp2;rw [Exit.noGoto_ret];refine bodyPost_ret (v:=.tuple #[.agg #[.bool false,.string ⟨#[]⟩,.string ⟨#[]⟩],.int .i64 4]) (by simp [results,results12,go_sem,r0,r1,r2]) rfl ⟨rfl,?_⟩
  exact Ay (C:=B+1) (Ay (C:=B+2) BB.out jO (.bool n') (.string x') (.string y')) jO _ _ _
 | some tr =>
  obtain ⟨n1,x1,y1⟩:=tr;obtain ⟨hx1,hy1⟩:=hf _ _ _ hr;rw [hr] at hp KR;obtain ⟨X,hX⟩:∃ X:ByteArray,X=⟨x1.toArray⟩:=⟨_,rfl⟩
  obtain ⟨Y,hY⟩:∃ Y:ByteArray,Y=⟨y1.toArray⟩:=⟨_,rfl⟩
  have KG:=λW (h:Below w.heap.size w W)=>Hf _ n1 X Y W (hT.below h) (by rw [hX];show x1.toArray.size<=_;rw [List.size_toArray];exact hx1) (by rw [hY];exact hy1);rw [show X.data.toList=x1 by rw [hX],show Y.data.toList=y1 by rw [hY]] at KG;simp only at hp;generalize Pth.Co n1 x1 y1=G at KG hp;have KG:=jH KG;have HX:=jH hX;have HY:=jH hY;have KR:=jH KR;clear hf hT hr hx1 hy1 hX hY;by_cases hG:G=0
  ·subst hG;rw [if_pos rfl] at hp;injection hp with q1 hp;injection hp with q2 hp;injection hp with q3 q4
   subst q1 q2 q3 q4;go_enter func12,ntmps12;go_wp2;refine Gq 0 rfl ?_;go_wp2_with fail;rw [HW0.out];refine (KL.out _).mono ?_;rintro e w1 ⟨A,c,rfl,hv,hb⟩;replace TT:=jH (TT.out.Ac hb);replace RR:=jH (RR.out.Ac hb);replace PP:=jH (PP.out.Ac hb);replace BB:=jH (Aa BB.out hb);clear hb;obtain ⟨t0,t1,t2,t3⟩:=TT.out.all;obtain ⟨r0,r1,r2⟩:=RR.out.all;obtain ⟨f0,f1,f2⟩:=RR.out.fr;obtain ⟨p0,p1,p2⟩:=PP.out.all;obtain ⟨j0,j1,j2⟩:=PP.out.fr;have HV:=jH hv;clear hv;go_wp2_with fail;refine (KW.out _ _ HV.out).mono ?_;rintro e w2 ⟨v',rfl,hm,hb⟩;have LE:=jH hb.size;replace TT:=jH (TT.out.Ac hb);replace RR:=jH (RR.out.Ac hb);replace PP:=jH (PP.out.Ac hb);replace BB:=jH (Aa BB.out hb);clear hb;clear t0 t1 t2 t3 p0 p1 p2 j0 j1 j2 r0 r1 r2 f0 f1 f2;obtain ⟨t0,t1,t2,t3⟩:=TT.out.all;obtain ⟨r0,r1,r2⟩:=RR.out.all;obtain ⟨f0,f1,f2⟩:=RR.out.fr;obtain ⟨p0,p1,p2⟩:=PP.out.all;obtain ⟨j0,j1,j2⟩:=PP.out.fr;have HM:=jH (hm (by trivial));clear hm;go_wp2_with fail;refine (KR.out _ _ _ HM.out LE.out).mono ?_;rintro e w3 ⟨⟨n',x',y',rfl,ht⟩,hb⟩;replace TT:=jH (TT.out.Ac hb);replace RR:=jH (RR.out.Ac hb);replace PP:=jH (PP.out.Ac hb);replace BB:=jH (Aa BB.out hb);clear hb;clear t0 t1 t2 t3 p0 p1 p2 j0 j1 j2 r0 r1 r2 f0 f1 f2;obtain ⟨t0,t1,t2,t3⟩:=TT.out.all;obtain ⟨r0,r1,r2⟩:=RR.out.all;obtain ⟨f0,f1,f2⟩:=RR.out.fr;obtain ⟨p0,p1,p2⟩:=PP.out.all;obtain ⟨j0,j1,j2⟩:=PP.out.fr;obtain ⟨h1,h2,h3⟩:=ht _ rfl;replace h2:x'=X:=h2.trans HX.out.symm;replace h3:y'=Y:=h3.trans HY.out.symm;subst h1 h2 h3;clear ht;go_wp2_with fail
   replace TT:=jH (((TT.out.other (D:=B+2) jO 0 (.bool n')).other (D:=B+2) jO 1 (.string x')).other (D:=B+2) jO 2 (.string y'));replace RR:=jH (((RR.out.other (D:=B+2) jO 0 (.bool n')).other (D:=B+2) jO 1 (.string x')).other (D:=B+2) jO 2 (.string y'));replace PP:=jH (PP.out.set n' x' y');replace BB:=jH (Ay (C:=B+2) BB.out jO (.bool n') (.string x') (.string y'));clear t0 t1 t2 t3 p0 p1 p2 j0 j1 j2 r0 r1 r2 f0 f1 f2;obtain ⟨t0,t1,t2,t3⟩:=TT.out.all;obtain ⟨r0,r1,r2⟩:=RR.out.all;obtain ⟨f0,f1,f2⟩:=RR.out.fr;obtain ⟨p0,p1,p2⟩:=PP.out.all;obtain ⟨j0,j1,j2⟩:=PP.out.fr;refine (KG.out _ BB.out).mono ?_;rintro e w4 ⟨rfl,hb⟩;replace TT:=jH (TT.out.Ac hb);replace RR:=jH (RR.out.Ac hb);replace PP:=jH (PP.out.Ac hb);replace BB:=jH (Aa BB.out hb);clear hb;clear t0 t1 t2 t3 p0 p1 p2 j0 j1 j2 r0 r1 r2 f0 f1 f2;obtain ⟨t0,t1,t2,t3⟩:=TT.out.all;obtain ⟨r0,r1,r2⟩:=RR.out.all;obtain ⟨f0,f1,f2⟩:=RR.out.fr;obtain ⟨p0,p1,p2⟩:=PP.out.all;obtain ⟨j0,j1,j2⟩:=PP.out.fr;go_wp2;rw [Qw];refine bodyPost_ret (v:=.tuple #[.agg #[.bool n',.string x',.string y'],.int .i64 0]) (by simp [results,results12,go_sem,r0,r1,r2]) rfl ⟨by rw [<- HX.out,<- HY.out],?_⟩;exact Ay (C:=B+1) BB.out jO _ _ _
  ·rw [if_neg hG] at hp;have e1:(G != 0)=true:=by simpa using hG
   injection hp with q1 hp;injection hp with q2 hp;injection hp with q3 q4
   subst q1 q2 q3 q4;clear hG;go_enter func12,ntmps12;go_wp2;refine Gq 0 rfl ?_;go_wp2_with fail;rw [HW0.out];refine (KL.out _).mono ?_;rintro e w1 ⟨A,c,rfl,hv,hb⟩;replace TT:=jH (TT.out.Ac hb);replace RR:=jH (RR.out.Ac hb);replace PP:=jH (PP.out.Ac hb);replace BB:=jH (Aa BB.out hb);clear hb;obtain ⟨t0,t1,t2,t3⟩:=TT.out.all;obtain ⟨r0,r1,r2⟩:=RR.out.all;obtain ⟨f0,f1,f2⟩:=RR.out.fr;obtain ⟨p0,p1,p2⟩:=PP.out.all;obtain ⟨j0,j1,j2⟩:=PP.out.fr;have HV:=jH hv;clear hv;go_wp2_with fail;refine (KW.out _ _ HV.out).mono ?_;rintro e w2 ⟨v',rfl,hm,hb⟩;have LE:=jH hb.size;replace TT:=jH (TT.out.Ac hb);replace RR:=jH (RR.out.Ac hb);replace PP:=jH (PP.out.Ac hb);replace BB:=jH (Aa BB.out hb);clear hb;clear t0 t1 t2 t3 p0 p1 p2 j0 j1 j2 r0 r1 r2 f0 f1 f2;obtain ⟨t0,t1,t2,t3⟩:=TT.out.all;obtain ⟨r0,r1,r2⟩:=RR.out.all;obtain ⟨f0,f1,f2⟩:=RR.out.fr;obtain ⟨p0,p1,p2⟩:=PP.out.all;obtain ⟨j0,j1,j2⟩:=PP.out.fr;have HM:=jH (hm (by trivial));clear hm;go_wp2_with fail;refine (KR.out _ _ _ HM.out LE.out).mono ?_;rintro e w3 ⟨⟨n',x',y',rfl,ht⟩,hb⟩;replace TT:=jH (TT.out.Ac hb);replace RR:=jH (RR.out.Ac hb);replace PP:=jH (PP.out.Ac hb);replace BB:=jH (Aa BB.out hb);clear hb;clear t0 t1 t2 t3 p0 p1 p2 j0 j1 j2 r0 r1 r2 f0 f1 f2;obtain ⟨t0,t1,t2,t3⟩:=TT.out.all;obtain ⟨r0,r1,r2⟩:=RR.out.all;obtain ⟨f0,f1,f2⟩:=RR.out.fr;obtain ⟨p0,p1,p2⟩:=PP.out.all;obtain ⟨j0,j1,j2⟩:=PP.out.fr;obtain ⟨h1,h2,h3⟩:=ht _ rfl;replace h2:x'=X:=h2.trans HX.out.symm;replace h3:y'=Y:=h3.trans HY.out.symm;subst h1 h2 h3;clear ht
   go_wp2_with fail;replace TT:=jH (((TT.out.other (D:=B+2) jO 0 (.bool n')).other (D:=B+2) jO 1 (.string x')).other (D:=B+2) jO 2 (.string y'));replace RR:=jH (((RR.out.other (D:=B+2) jO 0 (.bool n')).other (D:=B+2) jO 1 (.string x')).other (D:=B+2) jO 2 (.string y'));replace PP:=jH (PP.out.set n' x' y');replace BB:=jH (Ay (C:=B+2) BB.out jO (.bool n') (.string x') (.string y'));clear t0 t1 t2 t3 p0 p1 p2 j0 j1 j2 r0 r1 r2 f0 f1 f2;obtain ⟨t0,t1,t2,t3⟩:=TT.out.all;obtain ⟨r0,r1,r2⟩:=RR.out.all;obtain ⟨f0,f1,f2⟩:=RR.out.fr;obtain ⟨p0,p1,p2⟩:=PP.out.all;obtain ⟨j0,j1,j2⟩:=PP.out.fr;refine (KG.out _ BB.out).mono ?_;rintro e w4 ⟨rfl,hb⟩;replace TT:=jH (TT.out.Ac hb);replace RR:=jH (RR.out.Ac hb);replace PP:=jH (PP.out.Ac hb);replace BB:=jH (Aa BB.out hb);clear hb;clear t0 t1 t2 t3 p0 p1 p2 j0 j1 j2 r0 r1 r2 f0 f1 f2;obtain ⟨t0,t1,t2,t3⟩:=TT.out.all;obtain ⟨r0,r1,r2⟩:=RR.out.all;obtain ⟨f0,f1,f2⟩:=RR.out.fr;obtain ⟨p0,p1,p2⟩:=PP.out.all;obtain ⟨j0,j1,j2⟩:=PP.out.fr;go_wp2;go_step3;refine ⟨rfl,?_⟩;go_wp2;rw [Exit.noGoto_ret];refine bodyPost_ret (v:=.tuple #[.agg #[.bool false,.string ⟨#[]⟩,.string ⟨#[]⟩],.int .i64 G]) (by simp [results,results12,go_sem,r0,r1,r2]) rfl ⟨rfl,?_⟩;exact Ay (C:=B+1) BB.out jO _ _ _
end
section
open Go.RowKit Utf
namespace Pth
theorem Atv (l:List Mbx.S):(Mbx.Dd (mid l)).length<=(Mbx.Dd l).length:=by
 unfold mid;refine Nat.le_trans ?_ (Mbx.J3 l 1);generalize l.drop 1=r;generalize l.length - 2=n;unfold Mbx.Dd;induction r generalizing n with
 | nil=>simp
 | cons k t ih =>
  cases n with
  | zero=>simp
  | succ n =>
   rw [List.take_succ_cons,jao,jao,jab,jab];have:=ih n;omega
theorem Auk {m:List Mbx.S} {n:Bool} {x y:List UInt8} (h:F9 m=some (n,x,y)):x.length<=(Mbx.Dd m).length/\y.length<=(Mbx.Dd m).length:=by
 unfold F9 at h;by_cases h0:m.length=0
 ·rw [if_pos h0] at h;injection h with h;injection h with _ h;injection h with h1 h2
  subst h1 h2;exact ⟨Nat.zero_le _,Nat.zero_le _⟩
 rw [if_neg h0] at h;by_cases h1:m.length=1/\(m.headD (0,[])).1=0
 ·rw [if_pos h1] at h;split at h
  ·injection h with h;injection h with _ h;injection h with h2 h3
   subst h2 h3;refine ⟨Mbx.Oa m _ ?_,Nat.zero_le _⟩;cases m with
   | nil=>exact absurd rfl h0
   | cons a b=>simp
  ·cases h
 ·rw [if_neg h1] at h;cases ht:Mbx.take m with
  | none=>rw [ht] at h;cases h
  | some p =>
   obtain ⟨u,v,k⟩:=p;rw [ht] at h;replace h:(if k=m.length then some (false,u,v) else none)=some (n,x,y):=h;split at h
   ·injection h with h;injection h with _ h;injection h with h2 h3
    subst h2 h3;exact ⟨Mbx.Aq7 ht,(Mbx.take_len ht).1⟩
   ·cases h
theorem Atj {s:List UInt8} {ts:List Lex.Tok} (h:Lex.Ey s=(0,0,ts)) {n:Bool} {x y:List UInt8} (hr:F9 (mid (ts.map Lex.D6))=some (n,x,y)):x.length<=s.length/\y.length<=s.length:=by
 have h1:=Auk hr;have h2:=Atv (ts.map Lex.D6);have h3:(Mbx.Dd (ts.map Lex.D6)).length<=s.length:=by
  rcases Lex.Kb s with ⟨-,e⟩ | ⟨-,E,p,e,h1,-⟩ | ⟨-,us,e,hc,-⟩
  ·rw [e] at h;injection h with h _;cases h
  ·rw [e] at h;injection h with h _;omega
  ·rw [e] at h;injection h with _ h
   injection h with _ h
   subst h;rw [Mbx.Ke];exact (Lex.Xk hc).1
 omega
end Pth
theorem Fb (t:Value) (s:ByteArray) (w:World) (hT:Table w t) (hs:s.size<=400) {E:Int} {n:Bool} {x y:List UInt8} (hp:Pth.En s.data.toList=(E,n,x,y)) :
  Calls prog 12 #[t,.string s] w λe w'=>e=.returned (.tuple #[.agg #[.bool n,.string ⟨x.toArray⟩,.string ⟨y.toArray⟩],.int .i64 E])/\Below w.heap.size w w' :=
 Om t s w hT jO (λts n x y hl hr=>by
  have h1:=Pth.Atj hl hr;have h2:s.data.toList.length=s.size:=by simp
  exact ⟨by omega,Xa jO⟩) hp
theorem Aw6 (t:Value) (s:ByteArray) (w:World) (hT:Table w t) (hs:s.size<=100000) {n:Bool} {x y:List UInt8} (hp:Pth.En s.data.toList=(0,n,x,y)) (hx:x.length<=100000) (hy:y.length<=400) :
  Calls prog 12 #[t,.string s] w λe w'=>e=.returned (.tuple #[.agg #[.bool n,.string ⟨x.toArray⟩,.string ⟨y.toArray⟩],.int .i64 0])/\Below w.heap.size w w' :=
 Om t s w hT hs (λts n' x' y' hl hr=>by
  rcases Pth.Uf hp with ⟨h,-⟩ | ⟨-,-,h,-,-⟩
  ·exact absurd rfl h
  ·rw [hl] at h;have:=hr.symm.trans h;injection this with this;injection this with _ this;injection this with h1 h2
   subst h1 h2;exact ⟨hx,Xa hy⟩) hp
theorem Gj (t:Value) (n:Bool) (x y:ByteArray) (w:World) (hT:Table w t) (hx:x.size<=100000) (hy:Av y) {E:Int} (h:Pth.Co n x.data.toList y.data.toList=E) :
  Calls prog 7 #[t,.agg #[.bool n,.string x,.string y]] w λe w'=>e=.returned (.int .i64 E)/\Below w.heap.size w w':=by
 subst h;exact Hf t n x y w hT hx hy
theorem Lg (n:Bool) (x y:ByteArray) (w:World) (hx:x.size<=10000) (hy:y.size<=100000) {z:List UInt8} (h:Pth.Bn n x.data.toList y.data.toList=z) :
  Calls prog 10 #[.agg #[.bool n,.string x,.string y]] w λe w'=>e=.returned (.string ⟨z.toArray⟩)/\Below w.heap.size w w':=by
 subst h;exact Jl n x y w hx hy
theorem Aw5 (t:Value) (n:Bool) (x y:ByteArray) (w:World) (hT:Table w t) (hx:Av x) (hy:Av y) {u v:List UInt8} (hu:Pth.Q3 n x.data.toList y.data.toList=u) (hv:Pth.Acv n x.data.toList y.data.toList=v) :
  Calls prog 22 #[t,.agg #[.bool n,.string x,.string y]] w λe w'=>e=.returned (.agg #[.bool n,.string ⟨u.toArray⟩,.string ⟨v.toArray⟩])/\Below w.heap.size w w':=by
 subst hu hv;exact Jk t n x y w hT hx hy
theorem Mu (t:Value) (n:Bool) (x y:ByteArray) (k:Bool) (u v:ByteArray) (w:World) (hT:Table w t) (hx:Av x) (hy:Av y) (hu:Av u) (hv:Av v) {b:Bool} (h:Pth.Uj n x.data.toList y.data.toList k u.data.toList v.data.toList=b) :
  Calls prog 11 #[t,.agg #[.bool n,.string x,.string y],.agg #[.bool k,.string u,.string v]] w λe w'=>e=.returned (.bool b)/\Below w.heap.size w w':=by
 subst h;exact Adm t n x y k u v w hT hx hy hu hv
end
