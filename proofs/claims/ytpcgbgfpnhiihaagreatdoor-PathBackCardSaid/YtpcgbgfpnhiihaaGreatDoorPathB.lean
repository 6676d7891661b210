import Derived.Test.YtpcgbgfpnhiihaaGreatDoorPathA
set_option maxRecDepth 100000
set_option maxHeartbeats 4000000
namespace Go.Proofs.YtpcgbgfpnhiihaaGreatDoor
section
open Go.RowKit Utf
namespace Pth
open Mbx (S)
theorem Ad8 {l:List S} (h:Mbx.isS l 0 [60]=false):within l=false:=by unfold within;rw [h];simp
theorem Ah1 {l:List S} (h:Mbx.isS l (l.length - 1) [62]=false):within l=false:=by unfold within;rw [h];simp
theorem Alm {l:List S} (h:l.length<2):within l=false:=by unfold within;rw [decide_eq_false (by omega)];rfl
theorem Ah2 {l:List S} (h1:2<=l.length) (h2:Mbx.isS l 0 [60]=true) (h3:Mbx.isS l (l.length - 1) [62]=true):within l=!(mid l).any Mbx.Bg:=by unfold within;rw [h2,h3,decide_eq_true h1];rfl
theorem Amj {l:List S} (h:2<=l.length):(mid l).length=l.length - 2:=by unfold mid;rw [List.length_take,List.length_drop];omega
theorem Ayf {l:List S} {i:Nat} (h:i<(mid l).length):∃ h2:i+1<l.length,(mid l)[i]=l[i+1]:=by
 have h0:i<l.length - 2:=by
  have h1:=h
  unfold mid at h1
  rw [List.length_take,List.length_drop] at h1
  omega
 have e:(mid l)[i]? = l[i+1]?:=by
  unfold mid
  rw [List.getElem?_take,if_pos h0,List.getElem?_drop,Nat.add_comm]
 rw [List.getElem?_eq_getElem h,List.getElem?_eq_getElem (show i+1<l.length by omega)] at e
 exact ⟨by omega,Option.some.inj e⟩
theorem Awl {l:List S} (F:Few l):Few (mid l):=⟨by unfold mid;rw [List.length_take,List.length_drop];have:=F.len;omega,λk hk=>F.text k (List.mem_of_mem_drop (List.mem_of_mem_take hk))⟩
theorem As3 {l:List S} {i:Nat} (h:i<l.length) {q:Int} {U T:ByteArray} (h1:l[i].1=q) (h2:(⟨l[i].2.toArray⟩:ByteArray)=U):Mbx.isS l i T.data.toList=((q == 2) && (U.toList == T.toList)):=by
 unfold Mbx.isS
 rw [List.getElem?_eq_getElem h,ByteArray.toList_eq,ByteArray.toList_eq,<- h1,<- h2]
 obtain ⟨k,u⟩:=l[i]
 by_cases e:k=2<;>by_cases f:u=T.data.toList<;>simp [e,f]
end Pth
def Vp (N:Nat) (l:List Mbx.S) (w:World) (e:Ending) (w':World):Prop :=
 ∃ v,e=.returned (.tuple #[v,.bool (Pth.within l)])/\(Pth.within l=true->Fc N v (Pth.mid l) w')/\Below w.heap.size w w'
theorem All (N:Nat) (v:Value) (l:List Mbx.S) (w:World) (H:Fc N v l w) (hN:N<=w.heap.size) (F:Few l) :
  Calls Tryz.prog 76 #[v] w (Vp N l w):=by
 have hl:=F.len
 obtain ⟨A,c,rfl,hc,h⟩:=H.flat
 by_cases h2:2<=l.length
 case neg =>
  have hz:(l.length:Int) - 1<1:=by omega
  have E:=jH (Pth.Alm (by omega):Pth.within l=false)
  clear h H F hc h2 hN
  go_enter Tryz.func76,Tryz.ntmps76
  go_wp2
  go_ret2
  exact ⟨_,by rw [E.out];rfl,λh=>absurd (h.symm.trans E.out) (by decide),Below.refl _ _⟩
 obtain ⟨m,hm⟩:∃ m,l.length=m+1:=⟨l.length - 1,by omega⟩
 have hmz:(l.length:Int) - 1=(m:Int):=by omega
 have hm1:¬ (m:Int)<1:=by omega
 have hm2:(m:Int)<(l.length:Int):=by omega
 have hm3:(1:Int)<=(m:Int):=by omega
 have hlc:(l.length:Int)<=(c:Int):=by omega
 obtain ⟨g,o,rfl,hg,h⟩:=h (by omega)
 have hgw:g<w.heap.size:=Nat.lt_of_lt_of_le hg hN
 have hs00:=h 0 (by omega)
 rw [show o+0*3=o by omega] at hs00
 obtain ⟨s0,s1,pa,s2⟩:=hs00
 obtain ⟨e0,e1,pz,e2⟩:=h m (by omega)
 have HM:Fc N (.slice (some ⟨g,o+3,none⟩) (m - 1) (c - 1)) (Pth.mid l) w:=by
  have hml:=Pth.Amj h2
  refine ⟨some ⟨g,o+3,none⟩,c - 1,by rw [hml,show l.length - 2=m - 1 by omega],by omega,λi hi=>?_⟩
  obtain ⟨hi2,e⟩:=Pth.Ayf hi
  have:=h (i+1) hi2
  rw [e]
  exact ⟨g,o+3,rfl,hg,by rw [show o+3+i*3=o+(i+1)*3 by omega];exact this⟩
 have hwr:=Pth.Ah2 h2 (l:=l)
 have hwf:=Pth.Ad8 (l:=l)
 have hwl:=Pth.Ah1 (l:=l)
 rw [show l.length - 1=m by omega] at hwr hwl
 obtain ⟨U,hU⟩:∃ U:ByteArray,(⟨l[0].2.toArray⟩:ByteArray)=U:=⟨_,rfl⟩
 obtain ⟨V,hV⟩:∃ V:ByteArray,(⟨l[m].2.toArray⟩:ByteArray)=V:=⟨_,rfl⟩
 obtain ⟨q,hq⟩:∃ q,l[0].1=q:=⟨_,rfl⟩
 obtain ⟨r,hr⟩:∃ r,l[m].1=r:=⟨_,rfl⟩
 have i0:Mbx.isS l 0 [60]=_:=Pth.As3 (T:=⟨#[60]⟩) (by omega) hq hU
 have i1:Mbx.isS l m [62]=_:=Pth.As3 (T:=⟨#[62]⟩) (by omega) hr hV
 rw [hq] at s0
 rw [hr] at e0
 rw [hU] at s1
 rw [hV] at e1
 have KA:=λW=>Q9 q pa U ⟨#[60]⟩ W
 have KZ:=λW=>Q9 r pz V ⟨#[62]⟩ W
 rw [<- i0] at KA
 rw [<- i1] at KZ
 have KC:=λW (hb:Below w.heap.size w W)=>Zi N _ (Pth.mid l) W (HM.Ac λk hk=>hb.block k (Nat.lt_of_lt_of_le hk hN)) (Nat.le_trans hN hb.size) (by rw [Pth.Amj h2];omega)
 have HMK:=jH (λW (hb:Below w.heap.size w W)=>HM.Ac λk hk=>hb.block k (Nat.lt_of_lt_of_le hk hN))
 have hkeep:∀ W (hb:Below w.heap.size w W) j,W.cell? ⟨g,j,none⟩=w.cell? ⟨g,j,none⟩:=λW hb j=>hb.cell (p:=⟨g,j,none⟩) hgw
 have HK:=jH hkeep
 clear hU hV hq hr i0 i1 h H F hN hg hc HM hkeep hgw
 cases b0:Mbx.isS l 0 [60]
 ·rw [b0] at KA
  have E:=jH (hwf b0)
  have KA:=jH KA
  clear hwr hwf hwl KZ KC b0 hm h2
  go_enter Tryz.func76,Tryz.ntmps76
  go_wp2_with fail
  refine (KA.out _).mono ?_
  rintro e w1 ⟨rfl,hb⟩
  have B1:=jH hb
  clear hb
  go_wp2
  go_ret2
  exact ⟨_,by rw [E.out];rfl,λh=>absurd (h.symm.trans E.out) (by decide),B1.out⟩
 rw [b0] at KA
 have KA:=jH KA
 cases b1:Mbx.isS l m [62]
 ·rw [b1] at KZ
  have E:=jH (hwl b1)
  have KZ:=jH KZ
  clear hwr hwf hwl KC b0 b1 hm h2
  go_enter Tryz.func76,Tryz.ntmps76
  go_wp2_with fail
  refine (KA.out _).mono ?_
  rintro e w1 ⟨rfl,hb⟩
  have B1:=jH hb
  have e0':=(HK.out _ hb _).trans e0
  have e1':=(HK.out _ hb _).trans e1
  have e2':=(HK.out _ hb _).trans e2
  clear hb s0 s1 s2 e0 e1 e2
  go_wp2_with fail
  refine (KZ.out _).mono ?_
  rintro e w2 ⟨rfl,hb⟩
  have B2:=jH (Aa B1.out hb)
  clear hb
  go_wp2
  go_ret2
  exact ⟨_,by rw [E.out];rfl,λh=>absurd (h.symm.trans E.out) (by decide),B2.out⟩
 rw [b1] at KZ
 have KZ:=jH KZ
 have hE:=hwr b0 b1
 generalize hx:(Pth.mid l).any Mbx.Bg=x at KC hE
 have E:=jH hE
 have KC:=jH KC
 clear hwr hwf hwl b0 b1 hm h2 hE hx
 cases x
 all_goals
  go_enter Tryz.func76,Tryz.ntmps76
  go_wp2_with fail
  refine (KA.out _).mono ?_
  rintro e w1 ⟨rfl,hb⟩
  have B1:=jH hb
  have e0':=(HK.out _ hb _).trans e0
  have e1':=(HK.out _ hb _).trans e1
  have e2':=(HK.out _ hb _).trans e2
  clear hb s0 s1 s2 e0 e1 e2
  go_wp2_with fail
  refine (KZ.out _).mono ?_
  rintro e w2 ⟨rfl,hb⟩
  have B2:=jH (Aa B1.out hb)
  clear hb e0' e1' e2'
  go_wp2_with fail
  refine (KC.out _ B2.out).mono ?_
  rintro e w3 ⟨rfl,hb⟩
  have B3:=jH (Aa B2.out hb)
  clear hb
  go_wp2
  go_ret2
  first
   | exact ⟨_,(by rw [E.out];rfl),λ_=>HMK.out _ B3.out,B3.out⟩
   | exact ⟨.slice none 0 0,(by rw [E.out];rfl),λh=>absurd (h.symm.trans E.out) (by decide),B3.out⟩
def Vm (l:List Mbx.S) (w:World) (e:Ending) (w':World):Prop :=
 (∃ (n:Bool) (x y:ByteArray),e=.returned (.tuple #[.agg #[.bool n,.string x,.string y],.bool (Pth.F6 l).isSome])/\(∀ p,Pth.F6 l=some p->n=p.1/\x=⟨p.2.1.toArray⟩/\y=⟨p.2.2.toArray⟩))/\Below w.heap.size w w'
theorem Akn (N:Nat) (v:Value) (l:List Mbx.S) (w:World) (H:Fc N v l w) (hN:N<=w.heap.size) (F:Few l) :
  Calls Tryz.prog 77 #[v] w (Vm l w):=by
 have hl:=F.len
 obtain ⟨B,hB⟩:∃ B,w.heap.size=B:=⟨_,rfl⟩
 obtain ⟨W0,hW0⟩:∃ W0,W0=w.alloc (.cells #[.bool false,.string ⟨#[]⟩,.string ⟨#[]⟩] 53):=⟨_,rfl⟩
 have R0:PAt B false ⟨#[]⟩ ⟨#[]⟩ W0:=by rw [hW0,<- hB];exact PAt.new _ _ _ _
 have B0:Below w.heap.size w W0:=by rw [hW0];exact Ab _ _
 have hs0:W0.heap.size=B+1:=by rw [hW0,World.size_alloc,hB]
 have KT:=λW (hb:Below w.heap.size w W)=>Au7 v l W ((H.Ac λk hk=>hb.block k (Nat.lt_of_lt_of_le hk hN)).up (Nat.le_trans hN hb.size)) F
 obtain ⟨T,hT⟩:∃ T,Mbx.take l=T:=⟨_,rfl⟩
 rw [hT] at KT
 obtain ⟨A,c,rfl,hc,h⟩:=H.flat
 have HW0:=jH hW0.symm
 have hu:Pth.F6 l=if l.length=0 then some (true,[],[]) else if l.length=1/\(l.headD (0,[])).1=0 then (if Pth.Dl false (l.headD (0,[])).2 []=true then some (false,(l.headD (0,[])).2,[]) else none) else match T with
  | none=>none
  | some (x,y,n)=>if n=l.length then some (false,x,y) else none:=by unfold Pth.F6;rw [hT];rfl
 obtain ⟨S,hS⟩:∃ S,Pth.F6 l=S:=⟨_,rfl⟩
 unfold Vm
 rw [hS] at hu ⊢
 clear hS hW0 H hT
 by_cases h0:l.length=0
 ·rw [if_pos h0] at hu
  have E:=jH hu
  have hz:(l.length:Int)=0:=by omega
  have RR:=jH R0
  have BB:=jH B0
  obtain ⟨r0,r1,r2⟩:=RR.out.all
  obtain ⟨f0,f1,f2⟩:=RR.out.fr
  clear h hu KT h0 F hN R0 B0
  go_enter Tryz.func77,Tryz.ntmps77
  go_upto_region 1 with (fail)
  rw [HW0.out]
  go_wp2
  refine bodyPost_ret (v:=.tuple #[.agg #[.bool true,.string ⟨#[]⟩,.string ⟨#[]⟩],.bool true]) (by simp [results,Tryz.results77,go_sem,r0,r1,r2]) rfl ⟨⟨true,_,_,by rw [E.out];rfl,λp hp=>?_⟩,?_⟩
  ·rw [E.out] at hp
   injection hp with hp
   subst hp
   exact ⟨rfl,rfl,rfl⟩
  ·exact Ax (C:=B) BB.out (by omega) _ _ _
 rw [if_neg h0] at hu
 have e0:((l.length:Int) == 0)=false:=by simpa using (by omega:¬ (l.length:Int)=0)
 have hpos:(0:Int)<(l.length:Int):=by omega
 obtain ⟨g,o,rfl,hg,h⟩:=h (by omega)
 have hgw:g<w.heap.size:=Nat.lt_of_lt_of_le hg hN
 have hs00:=h 0 (by omega)
 rw [show o+0*3=o by omega] at hs00
 obtain ⟨s0,s1,-⟩:=hs00
 have hhd:l.headD (0,[])=l[0]:=by cases l with | nil=>exact absurd rfl h0 | cons a b=>rfl
 rw [hhd] at hu
 have hb100:=F.at (show 0<l.length by omega)
 obtain ⟨⟨q,u⟩,hq⟩:∃ p,l[0]=p:=⟨_,rfl⟩
 rw [hq] at hu s0 s1 hb100
 simp only at hu s0 s1 hb100
 obtain ⟨U,hU⟩:∃ U:ByteArray,U=⟨u.toArray⟩:=⟨_,rfl⟩
 have hUu:U.data.toList=u:=by rw [hU]
 rw [<- hU] at s1
 rw [<- hUu] at hu
 have hUs:U.size<=100000:=by rw [hU];show u.toArray.size<=_;rw [List.size_toArray];exact hb100
 have c0:W0.cell? ⟨g,o,none⟩=some (.int .i64 q):=(B0.cell (p:=⟨g,o,none⟩) hgw).trans s0
 have c1:W0.cell? ⟨g,o+1,none⟩=some (.string U):=(B0.cell (p:=⟨g,o+1,none⟩) hgw).trans s1
 have HUU:=jH (show (⟨u.toArray⟩:ByteArray)=U from hU.symm)
 clear hhd hq h hU hUu hb100 s0 s1 hg hgw h0 F hN
 by_cases h1:l.length=1
 ·have e1:((l.length:Int) == 1)=true:=by simpa using (by omega:(l.length:Int)=1)
  by_cases hk:q=0
  ·rw [if_pos ⟨h1,hk⟩] at hu
   have ek:(q == 0)=true:=by simpa using hk
   have KM:=λW=>Ml false U ⟨#[]⟩ W hUs
   change ∀ W,Calls _ _ _ W λe w'=>e=.returned (.bool (Pth.Dl false U.data.toList []))/\_ at KM
   generalize Pth.Dl false U.data.toList []=m at KM hu
   have HU:=jH hu
   have KM:=jH KM
   have RR:=jH R0
   have BB:=jH B0
   obtain ⟨W1,hW1⟩:∃ W1,W1=W0.alloc (.cells #[.bool false,.string U,.string ⟨#[]⟩] 53):=⟨_,rfl⟩
   have P1:Hid (PAt (B+1) false U ⟨#[]⟩ W1):=jH (by rw [hW1,<- hs0];exact PAt.new _ _ _ _)
   have R1:Hid (PAt B false ⟨#[]⟩ ⟨#[]⟩ W1):=jH (by rw [hW1];exact RR.out.Ac (Ab _ _))
   have B1:Hid (Below w.heap.size w W1):=jH (by rw [hW1];exact Aa BB.out (Ab _ _))
   have HW1:=jH hW1.symm
   clear KT hu h1 hk hW1 R0 B0 RR BB
   go_enter Tryz.func77,Tryz.ntmps77
   go_upto_region 1 with (fail)
   rw [HW0.out]
   go_upto_region 5 with (fail)
   rw [HW1.out]
   obtain ⟨d0,d1,d2⟩:=P1.out.all
   clear c0 c1
   go_region_held3 (λw'=>w'.cell? ⟨B+1,0,none⟩=some (.bool false)/\w'.cell? ⟨B+1,1,none⟩=some (.string U)/\w'.cell? ⟨B+1,2,none⟩=some (.string ⟨#[]⟩)) (first | go_keep | exact (((P2.out.other (show B+1 ≠ B by omega) 0 (.bool false)).other (show B+1 ≠ B by omega) 1 (.string U)).other (show B+1 ≠ B by omega) 2 (.string ⟨#[]⟩)).all) ((go_at_call 74;(with_reducible refine (KM.out _).mono ?_);rintro e w2 ⟨rfl,hb⟩;have hb:=Ag hb;have P2:=jH (P1.out.Ac hb);have R2:=jH (R1.out.Ac hb);have B2:=jH (Aa B1.out hb);obtain ⟨g0,g1,g2⟩:=P2.out.all;obtain ⟨r0,r1,r2⟩:=R2.out.all;obtain ⟨f0,f1,f2⟩:=R2.out.fr;clear hb))
   all_goals
    go_wp2
    refine bodyPost_ret (v:=.tuple #[.agg #[.bool false,.string U,.string ⟨#[]⟩],.bool m]) (by simp [results,Tryz.results77,go_sem,r0,r1,r2]) rfl ⟨⟨false,_,_,by rw [HU.out];cases m<;>rfl,λp hp=>?_⟩,?_⟩
    ·rw [HU.out] at hp
     cases m
     ·rw [if_neg (by decide)] at hp;cases hp
     ·rw [if_pos rfl] at hp
      injection hp with hp
      subst hp
      exact ⟨rfl,rfl,rfl⟩
    ·exact Ax (C:=B) B2.out (by omega) _ _ _
  ·rw [if_neg (λh=>hk h.2)] at hu
   have ek:(q == 0)=false:=by simpa using hk
   clear hk h1
   have RR:=jH R0
   have BB:=jH B0
   clear R0 B0 hs0
   cases T with
   | none =>
    replace hu:S=none:=hu
    have HU:=jH hu
    rw [Mbx.Yi] at KT
    have KT:=jH KT
    clear hu
    go_enter Tryz.func77,Tryz.ntmps77
    go_upto_region 1 with (fail)
    rw [HW0.out]
    go_wp2_with fail
    with_reducible refine (KT.out _ BB.out).mono ?_
    rintro e w1 ⟨rfl,hb⟩
    have R2:=jH ((RR.out.Ac hb).Ac (Ab w1 (.cells #[.string ⟨#[]⟩,.string ⟨#[]⟩] 23)))
    have B2:=jH (Aa (Aa BB.out hb) (Ab w1 (.cells #[.string ⟨#[]⟩,.string ⟨#[]⟩] 23)))
    obtain ⟨r0,r1,r2⟩:=R2.out.all
    obtain ⟨f0,f1,f2⟩:=R2.out.fr
    clear hb c0 c1
    go_wp2
    refine bodyPost_ret (v:=.tuple #[.agg #[.bool false,.string ⟨#[]⟩,.string ⟨#[]⟩],.bool false]) (by simp [results,Tryz.results77,go_sem,r0,r1,r2]) rfl ⟨⟨false,_,_,by rw [HU.out];rfl,λp hp=>by rw [HU.out] at hp;cases hp⟩,?_⟩
    exact Ax (C:=B) B2.out (by omega) _ _ _
   | some tr =>
    obtain ⟨x,y,k⟩:=tr
    replace hu:S=if k=l.length then some (false,x,y) else none:=hu
    rw [Mbx.Yj] at KT
    have HU:=jH hu
    have KT:=jH KT
    obtain ⟨X,hX⟩:∃ X:ByteArray,X=⟨x.toArray⟩:=⟨_,rfl⟩
    obtain ⟨Y,hY⟩:∃ Y:ByteArray,Y=⟨y.toArray⟩:=⟨_,rfl⟩
    rw [<- hX,<- hY] at KT
    have HX:=jH hX
    have HY:=jH hY
    clear hu hX hY
    cases hk:((k:Int) == (l.length:Int))
    all_goals
     have HKK:=jH hk
     go_enter Tryz.func77,Tryz.ntmps77
     go_upto_region 1 with (fail)
     rw [HW0.out]
     go_wp2_with fail
     with_reducible refine (KT.out _ BB.out).mono ?_
     rintro e w1 ⟨rfl,hb⟩
     have R2:=jH ((RR.out.Ac hb).Ac (Ab w1 (.cells #[.string X,.string Y] 23)))
     have B2:=jH (Aa (Aa BB.out hb) (Ab w1 (.cells #[.string X,.string Y] 23)))
     obtain ⟨r0,r1,r2⟩:=R2.out.all
     obtain ⟨f0,f1,f2⟩:=R2.out.fr
     clear hb c0 c1
     go_wp2
     first
      | refine bodyPost_ret (v:=.tuple #[.agg #[.bool false,.string X,.string Y],.bool false]) (by simp [results,Tryz.results77,go_sem,r0,r1,r2]) rfl ⟨⟨false,_,_,by rw [HU.out,if_neg (by have:=HKK.out;simp at this;omega)];rfl,λp hp=>?_⟩,?_⟩
      | refine bodyPost_ret (v:=.tuple #[.agg #[.bool false,.string X,.string Y],.bool true]) (by simp [results,Tryz.results77,go_sem,r0,r1,r2]) rfl ⟨⟨false,_,_,by rw [HU.out,if_pos (by have:=HKK.out;simp at this;omega)];rfl,λp hp=>?_⟩,?_⟩
     ·rw [HU.out] at hp
      split at hp
      ·injection hp with hp
       subst hp
       exact ⟨rfl,HX.out,HY.out⟩
      ·cases hp
     ·exact Ax (C:=B) B2.out (by omega) _ _ _
 ·rw [if_neg (λh=>h1 h.1)] at hu
  have e1:((l.length:Int) == 1)=false:=by simpa using (by omega:¬ (l.length:Int)=1)
  clear h1
  have RR:=jH R0
  have BB:=jH B0
  clear R0 B0 hs0
  cases T with
  | none =>
   replace hu:S=none:=hu
   have HU:=jH hu
   rw [Mbx.Yi] at KT
   have KT:=jH KT
   clear hu
   go_enter Tryz.func77,Tryz.ntmps77
   go_upto_region 1 with (fail)
   rw [HW0.out]
   go_wp2_with fail
   with_reducible refine (KT.out _ BB.out).mono ?_
   rintro e w1 ⟨rfl,hb⟩
   have R2:=jH ((RR.out.Ac hb).Ac (Ab w1 (.cells #[.string ⟨#[]⟩,.string ⟨#[]⟩] 23)))
   have B2:=jH (Aa (Aa BB.out hb) (Ab w1 (.cells #[.string ⟨#[]⟩,.string ⟨#[]⟩] 23)))
   obtain ⟨r0,r1,r2⟩:=R2.out.all
   obtain ⟨f0,f1,f2⟩:=R2.out.fr
   clear hb c0 c1
   go_wp2
   refine bodyPost_ret (v:=.tuple #[.agg #[.bool false,.string ⟨#[]⟩,.string ⟨#[]⟩],.bool false]) (by simp [results,Tryz.results77,go_sem,r0,r1,r2]) rfl ⟨⟨false,_,_,by rw [HU.out];rfl,λp hp=>by rw [HU.out] at hp;cases hp⟩,?_⟩
   exact Ax (C:=B) B2.out (by omega) _ _ _
  | some tr =>
   obtain ⟨x,y,k⟩:=tr
   replace hu:S=if k=l.length then some (false,x,y) else none:=hu
   rw [Mbx.Yj] at KT
   have HU:=jH hu
   have KT:=jH KT
   obtain ⟨X,hX⟩:∃ X:ByteArray,X=⟨x.toArray⟩:=⟨_,rfl⟩
   obtain ⟨Y,hY⟩:∃ Y:ByteArray,Y=⟨y.toArray⟩:=⟨_,rfl⟩
   rw [<- hX,<- hY] at KT
   have HX:=jH hX
   have HY:=jH hY
   clear hu hX hY
   cases hk:((k:Int) == (l.length:Int))
   all_goals
    have HKK:=jH hk
    go_enter Tryz.func77,Tryz.ntmps77
    go_upto_region 1 with (fail)
    rw [HW0.out]
    go_wp2_with fail
    with_reducible refine (KT.out _ BB.out).mono ?_
    rintro e w1 ⟨rfl,hb⟩
    have R2:=jH ((RR.out.Ac hb).Ac (Ab w1 (.cells #[.string X,.string Y] 23)))
    have B2:=jH (Aa (Aa BB.out hb) (Ab w1 (.cells #[.string X,.string Y] 23)))
    obtain ⟨r0,r1,r2⟩:=R2.out.all
    obtain ⟨f0,f1,f2⟩:=R2.out.fr
    clear hb c0 c1
    go_wp2
    first
     | refine bodyPost_ret (v:=.tuple #[.agg #[.bool false,.string X,.string Y],.bool false]) (by simp [results,Tryz.results77,go_sem,r0,r1,r2]) rfl ⟨⟨false,_,_,by rw [HU.out,if_neg (by have:=HKK.out;simp at this;omega)];rfl,λp hp=>?_⟩,?_⟩
     | refine bodyPost_ret (v:=.tuple #[.agg #[.bool false,.string X,.string Y],.bool true]) (by simp [results,Tryz.results77,go_sem,r0,r1,r2]) rfl ⟨⟨false,_,_,by rw [HU.out,if_pos (by have:=HKK.out;simp at this;omega)];rfl,λp hp=>?_⟩,?_⟩
    ·rw [HU.out] at hp
     split at hp
     ·injection hp with hp
      subst hp
      exact ⟨rfl,HX.out,HY.out⟩
     ·cases hp
    ·exact Ax (C:=B) B2.out (by omega) _ _ _
end
section
open Go.RowKit Utf
theorem Jl (t:Value) (s:ByteArray) (w:World) (hT:Table w t) (hs:s.size<=100000)
  (hf:∀ ts n x y,Lex.Em s.data.toList=(0,0,ts)->Pth.F6 (Pth.mid (ts.map Lex.Dx))=some (n,x,y)->x.length<=100000/\Au ⟨y.toArray⟩)
  {E:Int} {n:Bool} {x y:List UInt8} (hp:Pth.Dv s.data.toList=(E,n,x,y)):Calls Tryz.prog 35 #[t,.string s] w λe w'=>e=.returned (.tuple #[.agg #[.bool n,.string ⟨x.toArray⟩,.string ⟨y.toArray⟩],.int .i64 E])/\Below w.heap.size w w':=by
 have hT0:=hT
 obtain ⟨b0,b1,b2,b3,rfl,-,-,-,-⟩:=hT0
 obtain ⟨B,hB⟩:∃ B,w.heap.size=B:=⟨_,rfl⟩
 obtain ⟨W0,hW0⟩:∃ W0,W0=((w.alloc (.cells #[.slice (some ⟨b0,0,none⟩) 74 74,.slice (some ⟨b1,0,none⟩) 10 10,.slice (some ⟨b2,0,none⟩) 11 11,.slice (some ⟨b3,0,none⟩) 42 42] 31)).alloc (.cells #[.bool false,.string ⟨#[]⟩,.string ⟨#[]⟩] 53)).alloc (.cells #[.bool false,.string ⟨#[]⟩,.string ⟨#[]⟩] 53):=⟨_,rfl⟩
 obtain ⟨T0,R0,P0,B0,-⟩:=Nh hB b0 b1 b2 b3 false false ⟨#[]⟩ ⟨#[]⟩ ⟨#[]⟩ ⟨#[]⟩ hW0
 have HW0:=jH hW0.symm
 have TT:=jH T0
 have RR:=jH R0
 have PP:=jH P0
 have BB:=jH B0
 clear hW0 T0 R0 P0 B0
 obtain ⟨⟨F,pl,ts⟩,hl⟩:∃ q,Lex.Em s.data.toList=q:=⟨_,rfl⟩
 have hsl:s.data.toList.length=s.size:=by simp
 have hfew:=(Mbx.Awf hl (by omega)).1
 have KL:∀ W,Calls _ _ _ W (Pr F pl ts W):=λW=>Ame.Ayd s W hs hl
 have KL:=jH KL
 have KW:=λv W (h:Yx v ts W)=>All W.heap.size v (ts.map Lex.Dx) W (Fc.of h) (Nat.le_refl _) hfew
 have KR:=λN v W (h:Fc N v (Pth.mid (ts.map Lex.Dx)) W) (hN:N<=W.heap.size)=>Akn N v _ W h hN (Pth.Awl hfew)
 unfold Pth.Dv at hp
 rw [hl] at hp
 simp only at hp
 by_cases hF:F=0
 case neg =>
  rw [if_pos hF] at hp
  injection hp with q1 hp;injection hp with q2 hp;injection hp with q3 q4
  subst q1 q2 q3 q4
  have e0:(F != 0)=true:=by simpa using hF
  clear hF hf hl hT KW KR hfew
  go_enter Tryz.func35,Tryz.ntmps35
  go_wp2
  refine Gm 0 rfl ?_
  go_wp2_with fail
  rw [HW0.out]
  refine (KL.out _).mono ?_
  rintro e w1 ⟨A,c,rfl,hv,hb⟩
  replace TT:=jH (TT.out.Ac hb)
  replace RR:=jH (RR.out.Ac hb)
  replace PP:=jH (PP.out.Ac hb)
  replace BB:=jH (Aa BB.out hb)
  clear hb
  obtain ⟨t0,t1,t2,t3⟩:=TT.out.all
  obtain ⟨r0,r1,r2⟩:=RR.out.all
  obtain ⟨f0,f1,f2⟩:=RR.out.fr
  obtain ⟨p0,p1,p2⟩:=PP.out.all
  obtain ⟨j0,j1,j2⟩:=PP.out.fr
  go_wp2
  go_step3
  refine ⟨rfl,?_⟩
  go_wp2
  rw [Exit.noGoto_ret]
  refine bodyPost_ret (v:=.tuple #[.agg #[.bool false,.string ⟨#[]⟩,.string ⟨#[]⟩],.int .i64 F]) (by simp [results,Tryz.results35,go_sem,r0,r1,r2]) rfl ⟨rfl,?_⟩
  exact Ax (C:=B+1) BB.out (by omega) _ _ _
 subst hF
 rw [if_neg (show ¬ ((0:Int) ≠ 0) by decide)] at hp
 have hpl:pl=0:=by
  rcases Lex.Ig s.data.toList with ⟨-,e⟩ | ⟨-,F,q,e,h1,-⟩ | ⟨-,us,e,hc,-⟩
  ·rw [e] at hl;injection hl with h _;cases h
  ·rw [e] at hl;injection hl with h _;omega
  ·rw [e] at hl;injection hl with _ h;injection h with h _;exact h.symm
 subst hpl
 have hf:=λn x y=>hf ts n x y hl
 unfold Pth.Xk at hp
 unfold Vp at KW
 clear hl hfew hsl
 cases hw:Pth.within (ts.map Lex.Dx)
 ·rw [hw,if_neg (by decide)] at hp
  simp only [hw] at KW
  have KW:=jH KW
  injection hp with q1 hp;injection hp with q2 hp;injection hp with q3 q4
  subst q1 q2 q3 q4
  clear hf hT KR hw
  go_enter Tryz.func35,Tryz.ntmps35
  go_wp2
  refine Gm 0 rfl ?_
  go_wp2_with fail
  rw [HW0.out]
  refine (KL.out _).mono ?_
  rintro e w1 ⟨A,c,rfl,hv,hb⟩
  replace TT:=jH (TT.out.Ac hb)
  replace RR:=jH (RR.out.Ac hb)
  replace PP:=jH (PP.out.Ac hb)
  replace BB:=jH (Aa BB.out hb)
  clear hb
  obtain ⟨t0,t1,t2,t3⟩:=TT.out.all
  obtain ⟨r0,r1,r2⟩:=RR.out.all
  obtain ⟨f0,f1,f2⟩:=RR.out.fr
  obtain ⟨p0,p1,p2⟩:=PP.out.all
  obtain ⟨j0,j1,j2⟩:=PP.out.fr
  have HV:=jH hv
  clear hv
  go_wp2_with fail
  refine (KW.out _ _ HV.out).mono ?_
  rintro e w2 ⟨v',rfl,-,hb⟩
  replace TT:=jH (TT.out.Ac hb)
  replace RR:=jH (RR.out.Ac hb)
  replace PP:=jH (PP.out.Ac hb)
  replace BB:=jH (Aa BB.out hb)
  clear hb
  clear t0 t1 t2 t3 p0 p1 p2 j0 j1 j2 r0 r1 r2 f0 f1 f2
  obtain ⟨t0,t1,t2,t3⟩:=TT.out.all
  obtain ⟨r0,r1,r2⟩:=RR.out.all
  obtain ⟨f0,f1,f2⟩:=RR.out.fr
  obtain ⟨p0,p1,p2⟩:=PP.out.all
  obtain ⟨j0,j1,j2⟩:=PP.out.fr
  go_wp2
  go_step3
  refine ⟨rfl,?_⟩
  go_wp2
  rw [Exit.noGoto_ret]
  refine bodyPost_ret (v:=.tuple #[.agg #[.bool false,.string ⟨#[]⟩,.string ⟨#[]⟩],.int .i64 4]) (by simp [results,Tryz.results35,go_sem,r0,r1,r2]) rfl ⟨rfl,?_⟩
  exact Ax (C:=B+1) BB.out (by omega) _ _ _
 rw [hw,if_pos rfl] at hp
 simp only [hw] at KW
 have KW:=jH KW
 unfold Vm at KR
 clear hw
 cases hr:Pth.F6 (Pth.mid (ts.map Lex.Dx)) with
 | none =>
  rw [hr] at hp KR
  injection hp with q1 hp;injection hp with q2 hp;injection hp with q3 q4
  subst q1 q2 q3 q4
  have KR:=jH KR
  clear hf hT hr
  go_enter Tryz.func35,Tryz.ntmps35
  go_wp2
  refine Gm 0 rfl ?_
  go_wp2_with fail
  rw [HW0.out]
  refine (KL.out _).mono ?_
  rintro e w1 ⟨A,c,rfl,hv,hb⟩
  replace TT:=jH (TT.out.Ac hb)
  replace RR:=jH (RR.out.Ac hb)
  replace PP:=jH (PP.out.Ac hb)
  replace BB:=jH (Aa BB.out hb)
  clear hb
  obtain ⟨t0,t1,t2,t3⟩:=TT.out.all
  obtain ⟨r0,r1,r2⟩:=RR.out.all
  obtain ⟨f0,f1,f2⟩:=RR.out.fr
  obtain ⟨p0,p1,p2⟩:=PP.out.all
  obtain ⟨j0,j1,j2⟩:=PP.out.fr
  have HV:=jH hv
  clear hv
  go_wp2_with fail
  refine (KW.out _ _ HV.out).mono ?_
  rintro e w2 ⟨v',rfl,hm,hb⟩
  have LE:=jH hb.size
  replace TT:=jH (TT.out.Ac hb)
  replace RR:=jH (RR.out.Ac hb)
  replace PP:=jH (PP.out.Ac hb)
  replace BB:=jH (Aa BB.out hb)
  clear hb
  clear t0 t1 t2 t3 p0 p1 p2 j0 j1 j2 r0 r1 r2 f0 f1 f2
  obtain ⟨t0,t1,t2,t3⟩:=TT.out.all
  obtain ⟨r0,r1,r2⟩:=RR.out.all
  obtain ⟨f0,f1,f2⟩:=RR.out.fr
  obtain ⟨p0,p1,p2⟩:=PP.out.all
  obtain ⟨j0,j1,j2⟩:=PP.out.fr
  have HM:=jH (hm (by trivial))
  clear hm
  go_wp2_with fail
  refine (KR.out _ _ _ HM.out LE.out).mono ?_
  rintro e w3 ⟨⟨n',x',y',rfl,-⟩,hb⟩
  replace TT:=jH (TT.out.Ac hb)
  replace RR:=jH (RR.out.Ac hb)
  replace PP:=jH (PP.out.Ac hb)
  replace BB:=jH (Aa BB.out hb)
  clear hb
  clear t0 t1 t2 t3 p0 p1 p2 j0 j1 j2 r0 r1 r2 f0 f1 f2
  obtain ⟨t0,t1,t2,t3⟩:=TT.out.all
  obtain ⟨r0,r1,r2⟩:=RR.out.all
  obtain ⟨f0,f1,f2⟩:=RR.out.fr
  obtain ⟨p0,p1,p2⟩:=PP.out.all
  obtain ⟨j0,j1,j2⟩:=PP.out.fr
  go_wp2
  go_step3
  refine ⟨rfl,?_⟩
  go_wp2
  rw [Exit.noGoto_ret]
  refine bodyPost_ret (v:=.tuple #[.agg #[.bool false,.string ⟨#[]⟩,.string ⟨#[]⟩],.int .i64 4]) (by simp [results,Tryz.results35,go_sem,r0,r1,r2]) rfl ⟨rfl,?_⟩
  exact Ax (C:=B+1) (Ax (C:=B+2) BB.out (by omega) (.bool n') (.string x') (.string y')) (by omega) _ _ _
 | some tr =>
  obtain ⟨n1,x1,y1⟩:=tr
  obtain ⟨hx1,hy1⟩:=hf _ _ _ hr
  rw [hr] at hp KR
  obtain ⟨X,hX⟩:∃ X:ByteArray,X=⟨x1.toArray⟩:=⟨_,rfl⟩
  obtain ⟨Y,hY⟩:∃ Y:ByteArray,Y=⟨y1.toArray⟩:=⟨_,rfl⟩
  have KG:=λW (h:Below w.heap.size w W)=>Hd _ n1 X Y W (hT.below h) (by rw [hX];show x1.toArray.size<=_;rw [List.size_toArray];exact hx1) (by rw [hY];exact hy1)
  rw [show X.data.toList=x1 by rw [hX],show Y.data.toList=y1 by rw [hY]] at KG
  simp only at hp
  generalize Pth.Cu n1 x1 y1=G at KG hp
  have KG:=jH KG
  have HX:=jH hX
  have HY:=jH hY
  have KR:=jH KR
  clear hf hT hr hx1 hy1 hX hY
  by_cases hG:G=0
  ·subst hG
   rw [if_pos rfl] at hp
   injection hp with q1 hp;injection hp with q2 hp;injection hp with q3 q4
   subst q1 q2 q3 q4
   go_enter Tryz.func35,Tryz.ntmps35
   go_wp2
   refine Gm 0 rfl ?_
   go_wp2_with fail
   rw [HW0.out]
   refine (KL.out _).mono ?_
   rintro e w1 ⟨A,c,rfl,hv,hb⟩
   replace TT:=jH (TT.out.Ac hb)
   replace RR:=jH (RR.out.Ac hb)
   replace PP:=jH (PP.out.Ac hb)
   replace BB:=jH (Aa BB.out hb)
   clear hb
   obtain ⟨t0,t1,t2,t3⟩:=TT.out.all
   obtain ⟨r0,r1,r2⟩:=RR.out.all
   obtain ⟨f0,f1,f2⟩:=RR.out.fr
   obtain ⟨p0,p1,p2⟩:=PP.out.all
   obtain ⟨j0,j1,j2⟩:=PP.out.fr
   have HV:=jH hv
   clear hv
   go_wp2_with fail
   refine (KW.out _ _ HV.out).mono ?_
   rintro e w2 ⟨v',rfl,hm,hb⟩
   have LE:=jH hb.size
   replace TT:=jH (TT.out.Ac hb)
   replace RR:=jH (RR.out.Ac hb)
   replace PP:=jH (PP.out.Ac hb)
   replace BB:=jH (Aa BB.out hb)
   clear hb
   clear t0 t1 t2 t3 p0 p1 p2 j0 j1 j2 r0 r1 r2 f0 f1 f2
   obtain ⟨t0,t1,t2,t3⟩:=TT.out.all
   obtain ⟨r0,r1,r2⟩:=RR.out.all
   obtain ⟨f0,f1,f2⟩:=RR.out.fr
   obtain ⟨p0,p1,p2⟩:=PP.out.all
   obtain ⟨j0,j1,j2⟩:=PP.out.fr
   have HM:=jH (hm (by trivial))
   clear hm
   go_wp2_with fail
   refine (KR.out _ _ _ HM.out LE.out).mono ?_
   rintro e w3 ⟨⟨n',x',y',rfl,ht⟩,hb⟩
   replace TT:=jH (TT.out.Ac hb)
   replace RR:=jH (RR.out.Ac hb)
   replace PP:=jH (PP.out.Ac hb)
   replace BB:=jH (Aa BB.out hb)
   clear hb
   clear t0 t1 t2 t3 p0 p1 p2 j0 j1 j2 r0 r1 r2 f0 f1 f2
   obtain ⟨t0,t1,t2,t3⟩:=TT.out.all
   obtain ⟨r0,r1,r2⟩:=RR.out.all
   obtain ⟨f0,f1,f2⟩:=RR.out.fr
   obtain ⟨p0,p1,p2⟩:=PP.out.all
   obtain ⟨j0,j1,j2⟩:=PP.out.fr
   obtain ⟨h1,h2,h3⟩:=ht _ rfl
   replace h2:x'=X:=h2.trans HX.out.symm
   replace h3:y'=Y:=h3.trans HY.out.symm
   subst h1 h2 h3
   clear ht
   go_wp2_with fail
   replace TT:=jH (((TT.out.other (D:=B+2) (by omega) 0 (.bool n')).other (D:=B+2) (by omega) 1 (.string x')).other (D:=B+2) (by omega) 2 (.string y'))
   replace RR:=jH (((RR.out.other (D:=B+2) (by omega) 0 (.bool n')).other (D:=B+2) (by omega) 1 (.string x')).other (D:=B+2) (by omega) 2 (.string y'))
   replace PP:=jH (PP.out.set n' x' y')
   replace BB:=jH (Ax (C:=B+2) BB.out (by omega) (.bool n') (.string x') (.string y'))
   clear t0 t1 t2 t3 p0 p1 p2 j0 j1 j2 r0 r1 r2 f0 f1 f2
   obtain ⟨t0,t1,t2,t3⟩:=TT.out.all
   obtain ⟨r0,r1,r2⟩:=RR.out.all
   obtain ⟨f0,f1,f2⟩:=RR.out.fr
   obtain ⟨p0,p1,p2⟩:=PP.out.all
   obtain ⟨j0,j1,j2⟩:=PP.out.fr
   refine (KG.out _ BB.out).mono ?_
   rintro e w4 ⟨rfl,hb⟩
   replace TT:=jH (TT.out.Ac hb)
   replace RR:=jH (RR.out.Ac hb)
   replace PP:=jH (PP.out.Ac hb)
   replace BB:=jH (Aa BB.out hb)
   clear hb
   clear t0 t1 t2 t3 p0 p1 p2 j0 j1 j2 r0 r1 r2 f0 f1 f2
   obtain ⟨t0,t1,t2,t3⟩:=TT.out.all
   obtain ⟨r0,r1,r2⟩:=RR.out.all
   obtain ⟨f0,f1,f2⟩:=RR.out.fr
   obtain ⟨p0,p1,p2⟩:=PP.out.all
   obtain ⟨j0,j1,j2⟩:=PP.out.fr
   go_wp2
   rw [Qv]
   refine bodyPost_ret (v:=.tuple #[.agg #[.bool n',.string x',.string y'],.int .i64 0]) (by simp [results,Tryz.results35,go_sem,r0,r1,r2]) rfl ⟨by rw [<- HX.out,<- HY.out],?_⟩
   exact Ax (C:=B+1) BB.out (by omega) _ _ _
  ·rw [if_neg hG] at hp
   have e1:(G != 0)=true:=by simpa using hG
   injection hp with q1 hp;injection hp with q2 hp;injection hp with q3 q4
   subst q1 q2 q3 q4
   clear hG
   go_enter Tryz.func35,Tryz.ntmps35
   go_wp2
   refine Gm 0 rfl ?_
   go_wp2_with fail
   rw [HW0.out]
   refine (KL.out _).mono ?_
   rintro e w1 ⟨A,c,rfl,hv,hb⟩
   replace TT:=jH (TT.out.Ac hb)
   replace RR:=jH (RR.out.Ac hb)
   replace PP:=jH (PP.out.Ac hb)
   replace BB:=jH (Aa BB.out hb)
   clear hb
   obtain ⟨t0,t1,t2,t3⟩:=TT.out.all
   obtain ⟨r0,r1,r2⟩:=RR.out.all
   obtain ⟨f0,f1,f2⟩:=RR.out.fr
   obtain ⟨p0,p1,p2⟩:=PP.out.all
   obtain ⟨j0,j1,j2⟩:=PP.out.fr
   have HV:=jH hv
   clear hv
   go_wp2_with fail
   refine (KW.out _ _ HV.out).mono ?_
   rintro e w2 ⟨v',rfl,hm,hb⟩
   have LE:=jH hb.size
   replace TT:=jH (TT.out.Ac hb)
   replace RR:=jH (RR.out.Ac hb)
   replace PP:=jH (PP.out.Ac hb)
   replace BB:=jH (Aa BB.out hb)
   clear hb
   clear t0 t1 t2 t3 p0 p1 p2 j0 j1 j2 r0 r1 r2 f0 f1 f2
   obtain ⟨t0,t1,t2,t3⟩:=TT.out.all
   obtain ⟨r0,r1,r2⟩:=RR.out.all
   obtain ⟨f0,f1,f2⟩:=RR.out.fr
   obtain ⟨p0,p1,p2⟩:=PP.out.all
   obtain ⟨j0,j1,j2⟩:=PP.out.fr
   have HM:=jH (hm (by trivial))
   clear hm
   go_wp2_with fail
   refine (KR.out _ _ _ HM.out LE.out).mono ?_
   rintro e w3 ⟨⟨n',x',y',rfl,ht⟩,hb⟩
   replace TT:=jH (TT.out.Ac hb)
   replace RR:=jH (RR.out.Ac hb)
   replace PP:=jH (PP.out.Ac hb)
   replace BB:=jH (Aa BB.out hb)
   clear hb
   clear t0 t1 t2 t3 p0 p1 p2 j0 j1 j2 r0 r1 r2 f0 f1 f2
   obtain ⟨t0,t1,t2,t3⟩:=TT.out.all
   obtain ⟨r0,r1,r2⟩:=RR.out.all
   obtain ⟨f0,f1,f2⟩:=RR.out.fr
   obtain ⟨p0,p1,p2⟩:=PP.out.all
   obtain ⟨j0,j1,j2⟩:=PP.out.fr
   obtain ⟨h1,h2,h3⟩:=ht _ rfl
   replace h2:x'=X:=h2.trans HX.out.symm
   replace h3:y'=Y:=h3.trans HY.out.symm
   subst h1 h2 h3
   clear ht
   go_wp2_with fail
   replace TT:=jH (((TT.out.other (D:=B+2) (by omega) 0 (.bool n')).other (D:=B+2) (by omega) 1 (.string x')).other (D:=B+2) (by omega) 2 (.string y'))
   replace RR:=jH (((RR.out.other (D:=B+2) (by omega) 0 (.bool n')).other (D:=B+2) (by omega) 1 (.string x')).other (D:=B+2) (by omega) 2 (.string y'))
   replace PP:=jH (PP.out.set n' x' y')
   replace BB:=jH (Ax (C:=B+2) BB.out (by omega) (.bool n') (.string x') (.string y'))
   clear t0 t1 t2 t3 p0 p1 p2 j0 j1 j2 r0 r1 r2 f0 f1 f2
   obtain ⟨t0,t1,t2,t3⟩:=TT.out.all
   obtain ⟨r0,r1,r2⟩:=RR.out.all
   obtain ⟨f0,f1,f2⟩:=RR.out.fr
   obtain ⟨p0,p1,p2⟩:=PP.out.all
   obtain ⟨j0,j1,j2⟩:=PP.out.fr
   refine (KG.out _ BB.out).mono ?_
   rintro e w4 ⟨rfl,hb⟩
   replace TT:=jH (TT.out.Ac hb)
   replace RR:=jH (RR.out.Ac hb)
   replace PP:=jH (PP.out.Ac hb)
   replace BB:=jH (Aa BB.out hb)
   clear hb
   clear t0 t1 t2 t3 p0 p1 p2 j0 j1 j2 r0 r1 r2 f0 f1 f2
   obtain ⟨t0,t1,t2,t3⟩:=TT.out.all
   obtain ⟨r0,r1,r2⟩:=RR.out.all
   obtain ⟨f0,f1,f2⟩:=RR.out.fr
   obtain ⟨p0,p1,p2⟩:=PP.out.all
   obtain ⟨j0,j1,j2⟩:=PP.out.fr
   go_wp2
   go_step3
   refine ⟨rfl,?_⟩
   go_wp2
   rw [Exit.noGoto_ret]
   refine bodyPost_ret (v:=.tuple #[.agg #[.bool false,.string ⟨#[]⟩,.string ⟨#[]⟩],.int .i64 G]) (by simp [results,Tryz.results35,go_sem,r0,r1,r2]) rfl ⟨rfl,?_⟩
   exact Ax (C:=B+1) BB.out (by omega) _ _ _
end
section
open Go.RowKit Utf
namespace Pth
theorem Atk (l:List Mbx.S):(Mbx.C8 (mid l)).length<=(Mbx.C8 l).length:=by
 unfold mid
 refine Nat.le_trans ?_ (Mbx.J4 l 1)
 generalize l.drop 1=r
 generalize l.length - 2=n
 unfold Mbx.C8
 induction r generalizing n with
 | nil=>simp
 | cons k t ih =>
  cases n with
  | zero=>simp
  | succ n =>
   rw [List.take_succ_cons,List.flatMap_cons,List.flatMap_cons,List.length_append,List.length_append]
   have:=ih n
   omega
theorem At9 {m:List Mbx.S} {n:Bool} {x y:List UInt8} (h:F6 m=some (n,x,y)):x.length<=(Mbx.C8 m).length/\y.length<=(Mbx.C8 m).length:=by
 unfold F6 at h
 by_cases h0:m.length=0
 ·rw [if_pos h0] at h
  injection h with h;injection h with _ h;injection h with h1 h2
  subst h1 h2
  exact ⟨Nat.zero_le _,Nat.zero_le _⟩
 rw [if_neg h0] at h
 by_cases h1:m.length=1/\(m.headD (0,[])).1=0
 ·rw [if_pos h1] at h
  split at h
  ·injection h with h;injection h with _ h;injection h with h2 h3
   subst h2 h3
   refine ⟨Mbx.N9 m _ ?_,Nat.zero_le _⟩
   cases m with
   | nil=>exact absurd rfl h0
   | cons a b=>simp
  ·cases h
 ·rw [if_neg h1] at h
  cases ht:Mbx.take m with
  | none=>rw [ht] at h;cases h
  | some p =>
   obtain ⟨u,v,k⟩:=p
   rw [ht] at h
   replace h:(if k=m.length then some (false,u,v) else none)=some (n,x,y):=h
   split at h
   ·injection h with h;injection h with _ h;injection h with h2 h3
    subst h2 h3
    exact ⟨Mbx.Aqx ht,(Mbx.take_len ht).1⟩
   ·cases h
theorem W5 {s:List UInt8} {ts:List Lex.Tok} (h:Lex.Em s=(0,0,ts)) {n:Bool} {x y:List UInt8} (hr:F6 (mid (ts.map Lex.Dx))=some (n,x,y)):x.length<=s.length/\y.length<=s.length:=by
 have h1:=At9 hr
 have h2:=Atk (ts.map Lex.Dx)
 have h3:(Mbx.C8 (ts.map Lex.Dx)).length<=s.length:=by
  rcases Lex.Ig s with ⟨-,e⟩ | ⟨-,E,p,e,h1,-⟩ | ⟨-,us,e,hc,-⟩
  ·rw [e] at h;injection h with h _;cases h
  ·rw [e] at h;injection h with h _;omega
  ·rw [e] at h
   injection h with _ h
   injection h with _ h
   subst h
   rw [Mbx.Kf]
   exact (Lex.Xi hc).1
 omega
end Pth
theorem Ea (t:Value) (s:ByteArray) (w:World) (hT:Table w t) (hs:s.size<=400) {E:Int} {n:Bool} {x y:List UInt8} (hp:Pth.Dv s.data.toList=(E,n,x,y)) :
  Calls Tryz.prog 35 #[t,.string s] w λe w'=>e=.returned (.tuple #[.agg #[.bool n,.string ⟨x.toArray⟩,.string ⟨y.toArray⟩],.int .i64 E])/\Below w.heap.size w w' :=
 Jl t s w hT (by omega) (λts n x y hl hr=>by
  have h1:=Pth.W5 hl hr
  have h2:s.data.toList.length=s.size:=by simp
  exact ⟨by omega,Ke (by omega)⟩) hp
theorem Q8 (t:Value) (s:ByteArray) (w:World) (hT:Table w t) (hs:s.size<=100000) {n:Bool} {x y:List UInt8} (hp:Pth.Dv s.data.toList=(0,n,x,y)) (hx:x.length<=100000) (hy:y.length<=400) :
  Calls Tryz.prog 35 #[t,.string s] w λe w'=>e=.returned (.tuple #[.agg #[.bool n,.string ⟨x.toArray⟩,.string ⟨y.toArray⟩],.int .i64 0])/\Below w.heap.size w w' :=
 Jl t s w hT hs (λts n' x' y' hl hr=>by
  rcases Pth.Mt hp with ⟨h,-⟩ | ⟨-,-,h,-,-⟩
  ·exact absurd rfl h
  ·rw [hl] at h
   have:=hr.symm.trans h
   injection this with this;injection this with _ this;injection this with h1 h2
   subst h1 h2
   exact ⟨hx,Ke hy⟩) hp
theorem Lg (t:Value) (n:Bool) (x y:ByteArray) (w:World) (hT:Table w t) (hx:x.size<=100000) (hy:Au y) {E:Int} (h:Pth.Cu n x.data.toList y.data.toList=E) :
  Calls Tryz.prog 30 #[t,.agg #[.bool n,.string x,.string y]] w λe w'=>e=.returned (.int .i64 E)/\Below w.heap.size w w':=by
 subst h
 exact Hd t n x y w hT hx hy
theorem Lf (n:Bool) (x y:ByteArray) (w:World) (hx:x.size<=10000) (hy:y.size<=100000) {z:List UInt8} (h:Pth.Cm n x.data.toList y.data.toList=z) :
  Calls Tryz.prog 31 #[.agg #[.bool n,.string x,.string y]] w λe w'=>e=.returned (.string ⟨z.toArray⟩)/\Below w.heap.size w w':=by
 subst h
 exact Hc n x y w hx hy
theorem Adg (t:Value) (n:Bool) (x y:ByteArray) (w:World) (hT:Table w t) (hx:Au x) (hy:Au y) {u v:List UInt8} (hu:Pth.Ud n x.data.toList y.data.toList=u) (hv:Pth.Ae5 n x.data.toList y.data.toList=v) :
  Calls Tryz.prog 33 #[t,.agg #[.bool n,.string x,.string y]] w λe w'=>e=.returned (.agg #[.bool n,.string ⟨u.toArray⟩,.string ⟨v.toArray⟩])/\Below w.heap.size w w':=by
 subst hu hv
 exact Jk t n x y w hT hx hy
theorem Jc (t:Value) (n:Bool) (x y:ByteArray) (k:Bool) (u v:ByteArray) (w:World) (hT:Table w t) (hx:Au x) (hy:Au y) (hu:Au u) (hv:Au v) {b:Bool} (h:Pth.Om n x.data.toList y.data.toList k u.data.toList v.data.toList=b) :
  Calls Tryz.prog 34 #[t,.agg #[.bool n,.string x,.string y],.agg #[.bool k,.string u,.string v]] w λe w'=>e=.returned (.bool b)/\Below w.heap.size w w':=by
 subst h
 exact Adi t n x y k u v w hT hx hy hu hv
end
end Go.Proofs.YtpcgbgfpnhiihaaGreatDoor
