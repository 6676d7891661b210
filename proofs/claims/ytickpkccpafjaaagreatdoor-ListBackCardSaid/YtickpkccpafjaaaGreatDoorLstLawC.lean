import Derived.Test.YtickpkccpafjaaaGreatDoorLstSmall
import Derived.Test.YtickpkccpafjaaaGreatDoorFrames
set_option maxRecDepth 100000
set_option maxHeartbeats 16000000
namespace Go.Proofs.YtickpkccpafjaaaGreatDoor
section
open Go.RowKit Utf
namespace Lst
def Slim (e:Ent):Prop:=e.name.length<=150/\e.boxes.length<=120/\∀ m ∈ e.boxes,m.1.length<=150/\m.2.length<=200
theorem all_nth {l:List Ent} {p:Ent->Prop} (h:∀ i,i<l.length->p (Eu l i)):∀ e ∈ l,p e:=by
 intro e he
 obtain ⟨i,hi,rfl⟩:=List.getElem_of_mem he
 have:=h i hi
 unfold Eu at this
 rwa [List.getD_eq_getElem?_getD,List.getElem?_eq_getElem hi] at this
theorem all_nthB {l:List Box} {p:Box->Prop} (h:∀ i,i<l.length->p (Ks l i)):∀ e ∈ l,p e:=by
 intro e he
 obtain ⟨i,hi,rfl⟩:=List.getElem_of_mem he
 have:=h i hi
 unfold Ks at this
 rwa [List.getD_eq_getElem?_getD,List.getElem?_eq_getElem hi] at this
end Lst
def Few15 (l:List Lst.Ent) (w:World) (e:Ending) (w':World):Prop:=∃ b,e=.returned (.bool b)/\(b=true->l.length<=12/\∀ e ∈ l,Lst.Slim e)/\Below w.heap.size w w'
theorem few15_any (v:Value) (l:List Lst.Ent) (w:World) (hl:Ov v l w) (hnr:Lst.Narrow l) :
  Calls Tryz.prog 8 #[v] w (Few15 l w):=by
 obtain ⟨A,c,rfl,hc,hx⟩:=hl
 have HX:=jH hx
 obtain ⟨hn,hm⟩:=hnr
 have HM:=jH hm
 clear hx hm
 obtain ⟨n,hnn⟩:∃ n,n=l.length:=⟨_,rfl⟩
 rw [<- hnn] at hn hc HX ⊢
 have HN:=jH hnn
 clear hnn
 go_enter Tryz.func8,Tryz.ntmps8
 go_wp2
 go_loopg [3] n (λgg s3 wr=>∃ (k:Nat),k<=n/\n - k<=gg/\s3=.int .i64 k/\Hid (Below w.heap.size w wr)/\Hid (∀ i,i<k->Lst.Slim (Lst.Eu l i)))
 case atStart=>exact ⟨0,Nat.zero_le _,by omega,rfl,Below.refl _ w,λi hi=>absurd hi (Nat.not_lt_zero _)⟩
 case round =>
  obtain ⟨k,hk,hg,rfl,BW,HK⟩:=hrel
  by_cases hlt:k<n
  ·have hkz:(k:Int)<(n:Int):=by omega
   have hkl:k<l.length:=by have:=HN.out;omega
   obtain ⟨g,o,rfl,hgl,h2⟩:=HX.out (by omega)
   obtain ⟨u,E0⟩:=h2 k hlt
   have Ek:=E0.Ae hgl BW.out
   have q0:=Ek.c0
   have q2:=Ek.c2
   have e2:=E0.c2
   have hy:=Lst.E6 hkl
   have hbx:=E0.boxes
   have HK2:=jH (λ(h:Lst.Slim (Lst.Eu l k))=>(show ∀ i,i<k+1->Lst.Slim (Lst.Eu l i) from λi hi=>by
    rcases Nat.lt_succ_iff_lt_or_eq.1 hi with h1 | rfl
    ·exact HK.out i h1
    ·exact h))
   simp only at q0 q2 e2 hbx
   generalize Lst.Eu l k=y at q0 q2 e2 hy hbx HK2
   have hm:=HM.out y hy
   obtain ⟨A2,d,rfl,hd,hx2⟩:=hbx
   have HX2:=jH hx2
   obtain ⟨m,hmm⟩:∃ m,m=y.boxes.length:=⟨_,rfl⟩
   rw [<- hmm] at q2 e2 HX2 hd hm
   obtain ⟨X,hX⟩:∃ X:ByteArray,X=⟨y.name.toArray⟩:=⟨_,rfl⟩
   have hXs:X.size=y.name.length:=by rw [hX,Li]
   rw [<- hX] at q0
   have HMM:=jH hmm
   have HXS:=jH hXs
   have q0:=jH q0
   have E2:=jH e2
   clear e2
   have q2:=jH q2
   clear h2 Ek E0 hy hx2 hmm hX hXs HK
   by_cases c1:X.size<=150
   ·have c1z:¬ (150:Int)<((X.size:Nat):Int):=by omega
    by_cases c2:m<=120
    ·have c2z:¬ (120:Int)<((m:Nat):Int):=by omega
     have q0:=q0.out
     have q2:=q2.out
     have hX1:X.size<=150:=c1
     clear c1
     go_wp2
     clear q0 q2
     go_loopg [4] m (λgj s4 wj=>∃ (j:Nat),j<=m/\m - j<=gj/\s4=.int .i64 j/\Hid (Below w.heap.size w wj)/\Hid (∀ i,i<j->(Lst.Ks y.boxes i).1.length<=150/\(Lst.Ks y.boxes i).2.length<=200))
     case atStart=>exact ⟨0,Nat.zero_le _,by omega,rfl,BW.out,λi hi=>absurd hi (Nat.not_lt_zero _)⟩
     case round =>
      clear BW
      obtain ⟨j,hj,hgj,rfl,BJ,HJ⟩:=hrel
      by_cases hjm:j<m
      ·have hjz:(j:Int)<(m:Int):=by omega
       have hjl:j<y.boxes.length:=by have:=HMM.out;omega
       have q2:=(BJ.out.cell (p:=⟨g,o+k*3+2,none⟩) hgl).trans (E2.out)
       obtain ⟨g2,o2,rfl,hg2,h3⟩:=HX2.out (by omega)
       have hbj:=h3 j hjm
       have r0:=(BJ.out.cell (p:=⟨g2,o2+j*2,none⟩) hg2).trans hbj.c0
       have r1:=(BJ.out.cell (p:=⟨g2,o2+j*2+1,none⟩) hg2).trans hbj.c1
       have HJ2:=jH (λ(h:(Lst.Ks y.boxes j).1.length<=150/\(Lst.Ks y.boxes j).2.length<=200)=>(show ∀ i,i<j+1->(Lst.Ks y.boxes i).1.length<=150/\(Lst.Ks y.boxes i).2.length<=200 from λi hi=>by
        rcases Nat.lt_succ_iff_lt_or_eq.1 hi with h1 | rfl
        · exact HJ.out i h1
        · exact h))
       generalize Lst.Ks y.boxes j=z at r0 r1 HJ2
       clear HJ h3 hbj
       obtain ⟨Y,hY⟩:∃ Y:ByteArray,Y=⟨z.1.toArray⟩:=⟨_,rfl⟩
       obtain ⟨V,hV⟩:∃ V:ByteArray,V=⟨z.2.toArray⟩:=⟨_,rfl⟩
       have hYs:Y.size=z.1.length:=by rw [hY,Li]
       have hVs:V.size=z.2.length:=by rw [hV,Li]
       rw [<- hY] at r0
       rw [<- hV] at r1
       clear hY hV
       by_cases cf:Y.size<=150/\V.size<=200
       ·have KF:=jH (A2u Y V wr cf.1 cf.2)
        have HJ3:=jH (HJ2.out ⟨by omega,by omega⟩)
        clear HJ2 cf hYs hVs
        go_wp2_with fail
        refine KF.out.mono ?_
        rintro e w1 ⟨rfl,hb⟩
        have B1:=jH (Aa BJ.out hb)
        clear hb
        go_wp2
        go_roundg (m - (j+1))
        case measure=>omega
        case rel=>exact ⟨j+1,by omega,by omega,by go_num,B1.out,HJ3.out⟩
       ·have KF:=jH (A2v Y V wr cf)
        clear HJ2 cf hYs hVs
        go_wp2_with fail
        refine KF.out.mono ?_
        rintro e w1 ⟨rfl,hb⟩
        have B1:=jH (Aa BJ.out hb)
        clear hb
        go_wp2
        go_ret
        exact ⟨false,rfl,nofun,B1.out⟩
      ·have hjz:¬ (j:Int)<(m:Int):=by omega
       obtain rfl:j=m:=by omega
       have q2:=(BJ.out.cell (p:=⟨g,o+k*3+2,none⟩) hgl).trans (E2.out)
       have HK3:=jH (HK2.out ⟨by have:=HXS.out;omega,by have:=HMM.out;omega,Lst.all_nthB (by rw [<- HMM.out];exact HJ.out)⟩)
       clear HJ HK2
       go_wp2
       go_roundg (n - (k+1))
       case measure=>omega
       case rel=>exact ⟨k+1,by omega,by omega,by go_num,BJ.out,HK3.out⟩
    ·have c2z:(120:Int)<((m:Nat):Int):=by omega
     have q0:=q0.out
     have q2:=q2.out
     clear c1
     go_wp2
     go_ret
     exact ⟨false,rfl,nofun,BW.out⟩
   ·have c1z:(150:Int)<((X.size:Nat):Int):=by omega
    have q0:=q0.out
    clear c1 q2
    go_wp2
    go_ret
    exact ⟨false,rfl,nofun,BW.out⟩
  ·have hkz:¬ (k:Int)<(n:Int):=by omega
   obtain rfl:k=n:=by omega
   have HE:=jH (show ∀ e ∈ l,Lst.Slim e from Lst.all_nth (by rw [<- HN.out];exact HK.out))
   clear HK
   go_wp2
   go_ret
   exact ⟨decide ((k:Int)<=12),rfl,λh=>⟨by have:=of_decide_eq_true h;have:=HN.out;omega,HE.out⟩,BW.out⟩
end
section
open Go.RowKit Utf
theorem same15_any (v u:Value) (l:List Lst.Ent) (w:World) (hl:Ov v l w) (hu:Ov u l w) (hnr:Lst.Narrow l) :
  Calls Tryz.prog 17 #[v,u] w λe w'=>e=.returned (.bool true)/\Below w.heap.size w w':=by
 obtain ⟨A,c,rfl,hc,hx⟩:=hl
 have HX:=jH hx
 obtain ⟨A',c',rfl,hc',hx'⟩:=hu
 have HX':=jH hx'
 obtain ⟨hn,hm⟩:=hnr
 have HM:=jH hm
 clear hx hm hx'
 obtain ⟨n,hnn⟩:∃ n,n=l.length:=⟨_,rfl⟩
 rw [<- hnn] at hn hc hc' HX HX' ⊢
 have HN:=jH hnn
 clear hnn
 go_enter Tryz.func17,Tryz.ntmps17
 go_wp2
 go_loopg [5] n (λgg s5 wr=>∃ (k:Nat),k<=n/\n - k<=gg/\s5=.int .i64 k/\Hid (Below w.heap.size w wr))
 case atStart=>exact ⟨0,Nat.zero_le _,by omega,rfl,Below.refl _ w⟩
 case round =>
  obtain ⟨k,hk,hg,rfl,BW⟩:=hrel
  by_cases hlt:k<n
  ·have hkz:(k:Int)<(n:Int):=by omega
   have hkl:k<l.length:=by have:=HN.out;omega
   obtain ⟨g,o,rfl,hgl,h2⟩:=HX.out (by omega)
   obtain ⟨g',o',rfl,hgl',h2'⟩:=HX'.out (by omega)
   obtain ⟨b1,E1⟩:=h2 k hlt
   obtain ⟨b2,E2⟩:=h2' k hlt
   have hbx:=E1.boxes
   have hbx':=E2.boxes
   have P2:=E2.c2
   have Q2:=E1.c2
   replace E1:=E1.Ae hgl BW.out
   replace E2:=E2.Ae hgl' BW.out
   have q0:=E1.c0
   have q1:=E1.c1
   have q2:=E1.c2
   have p0:=E2.c0
   have p1:=E2.c1
   have p2:=E2.c2
   have hy:=Lst.E6 hkl
   simp only at q0 q1 q2 p0 p1 p2 hbx hbx' P2 Q2
   generalize Lst.Eu l k=y at q0 q1 q2 p0 p1 p2 hy hbx hbx' P2 Q2
   have hm:=HM.out y hy
   obtain ⟨A2,d,rfl,hd,hx2⟩:=hbx
   obtain ⟨A3,d',rfl,hd',hx3⟩:=hbx'
   have HX2:=jH hx2
   have HX3:=jH hx3
   obtain ⟨m,hmm⟩:∃ m,m=y.boxes.length:=⟨_,rfl⟩
   rw [<- hmm] at q2 p2 HX2 HX3 hd hd' hm P2 Q2
   generalize (⟨y.name.toArray⟩:ByteArray)=X at q0 p0
   generalize y.grp=G at q1 p1
   have HMM:=jH hmm
   replace P2:=jH P2
   replace Q2:=jH Q2
   clear h2 h2' E1 E2 hy hx2 hx3 hmm
   go_wp2_with fail
   go_quiet (fail)
   go_wp2_with fail
   have BQ:=jH (below_drewN BW.out nq)
   clear q0 q1 q2 p0 p1 p2 BW
   go_loopg [6] m (λgj s6 wj=>∃ (j:Nat),j<=m/\m - j<=gj/\s6=.int .i64 j/\Hid (Below w.heap.size w wj))
   case atStart=>exact ⟨0,Nat.zero_le _,by omega,rfl,BQ.out⟩
   case round =>
    clear BQ
    obtain ⟨j,hj,hgj,rfl,BJ⟩:=hrel
    have q2:=(BJ.out.cell (p:=⟨g,o+k*3+2,none⟩) hgl).trans Q2.out
    have p2:=(BJ.out.cell (p:=⟨g',o'+k*3+2,none⟩) hgl').trans P2.out
    by_cases hjm:j<m
    ·have hjz:(j:Int)<(m:Int):=by omega
     obtain ⟨g2,o2,rfl,hg2,h3⟩:=HX2.out (by omega)
     obtain ⟨g3,o3,rfl,hg3,h4⟩:=HX3.out (by omega)
     have r0:=(BJ.out.cell (p:=⟨g2,o2+j*2,none⟩) hg2).trans (h3 j hjm).c0
     have r1:=(BJ.out.cell (p:=⟨g2,o2+j*2+1,none⟩) hg2).trans (h3 j hjm).c1
     have t0:=(BJ.out.cell (p:=⟨g3,o3+j*2,none⟩) hg3).trans (h4 j hjm).c0
     have t1:=(BJ.out.cell (p:=⟨g3,o3+j*2+1,none⟩) hg3).trans (h4 j hjm).c1
     generalize (⟨(Lst.Ks y.boxes j).1.toArray⟩:ByteArray)=Y at r0 t0
     generalize (⟨(Lst.Ks y.boxes j).2.toArray⟩:ByteArray)=V at r1 t1
     clear h3 h4
     go_wp2_with fail
     go_quiet (fail)
     go_wp2_with fail
     go_roundg (m - (j+1))
     case measure=>omega
     case rel=>exact ⟨j+1,by omega,by omega,by go_num,below_drewN BJ.out _⟩
    ·have hjz:¬ (j:Int)<(m:Int):=by omega
     obtain rfl:j=m:=by omega
     go_wp2
     go_roundg (n - (k+1))
     case measure=>omega
     case rel=>exact ⟨k+1,by omega,by omega,by go_num,BJ.out⟩
  ·have hkz:¬ (k:Int)<(n:Int):=by omega
   go_wp2
   go_ret
   exact ⟨rfl,BW.out⟩
end
section
open Go.RowKit Utf
theorem Kept.drew {w0:World} {S b0 b1 b2 b3:Nat} {w:World} (h:Kept w0 S b0 b1 b2 b3 w):Kept w0 S b0 b1 b2 b3 w.drew:=h.next ((Below.refl _ w).drew)
namespace Lst
open Lex (Fm Cy)
theorem slim_fits {l:List Ent} (h:l.length<=12/\∀ e ∈ l,Slim e):Fits l/\A09 l :=
 Pr ⟨by have:=h.1;omega,λe he=>by
  obtain ⟨h1,h2,h3⟩:=h.2 e he
  exact ⟨by omega,by omega,λm hm=>by have:=h3 m hm;omega⟩⟩
theorem read_fit {s:List UInt8} {es:List Ent} (hs:s.length<=400) (h:Cx s=(0,es)):Fits es/\A09 es/\Narrow es/\Fk es=0:=by
 have hr:=(A1g h).1 rfl
 unfold Cx at h
 obtain ⟨⟨F,pl,ts⟩,hl⟩:∃ q,Fm s=q:=⟨_,rfl⟩
 rw [hl] at h
 unfold Jm at h
 simp only at h
 by_cases hF:F=0
 case neg =>
  rw [if_pos hF] at h
  injection h with h1 h2
  exact absurd h1 hF
 subst hF
 have hpl:=Ary hl
 subst hpl
 rw [if_neg (show ¬ ((0:Int) ≠ 0) by decide)] at h
 have hlen:ts.length<=s.length:=by
  rcases Lex.I7 s with ⟨-,e⟩ | ⟨-,E,p,e,h1,-⟩ | ⟨-,us,e,hc,-⟩
  ·rw [e] at hl;injection hl with h _;cases h
  ·rw [e] at hl;injection hl with h _;omega
  ·rw [e] at hl
   injection hl with _ h
   injection h with _ h
   subst h
   exact (Lex.Ru hc).2
 have ho:(Mbx.Dq (ts.map Cy)).length<=s.length:=by
  rcases Lex.I7 s with ⟨-,e⟩ | ⟨-,E,p,e,h1,-⟩ | ⟨-,us,e,hc,-⟩
  ·rw [e] at hl;injection hl with h _;cases h
  ·rw [e] at hl;injection hl with h _;omega
  ·rw [e] at hl
   injection hl with _ h
   injection h with _ h
   subst h
   rw [Mbx.Kv]
   exact (Lex.Ru hc).1
 cases he:Dg (ts.length+1) (ts.map Cy) with
 | none=>rw [he] at h;injection h with h1 _;cases h1
 | some r =>
  rw [he] at h
  simp only at h
  have hrr:r=es:=by
   split at h
   · injection h
   · rename_i h0;injection h with h1 _;exact absurd h1 h0
  subst hrr
  have h1:=Aha (Q:=λ_=>True) _ _ _ (λ_ _ _ _ _=>trivial) he
  have h2:=(Ana hl he).2
  have h3:=Abw (λz=>z.length<=800) (Nat.zero_le _) _ _ _ (λn=>by
   have h1:=Aij ((ts.map Cy).drop n)
   have h2:=Mbx.Iz (ts.map Cy) n
   rw [List.length_drop,List.length_map] at h1
   omega) he
  rw [List.length_map] at h1
  refine ⟨⟨by omega,λe h=>by have:=h3 e h;omega,λe h=>by have:=(h1.2 e h).1;omega,λe h m hm=>?_⟩,⟨by omega,λe h=>by have:=h3 e h;omega,λe h=>by have:=(h1.2 e h).1;omega,λe h m hm=>?_⟩,⟨by omega,λe h=>by have:=(h1.2 e h).1;omega⟩,hr⟩
  ·have:=(h2 e h).2 m hm
   exact ⟨by omega,Yh (by omega)⟩
  ·have:=(h2 e h).2 m hm
   exact ⟨by omega,by omega⟩
theorem print_read {l:List Ent} (h:Fk l=0) (hl:¬ 2000<(Mn l).length) {ts:List Lex.Tok} {es:List Ent} (hx:Fm (Mn l)=(0,0,ts)) (he:Dg (ts.length+1) (ts.map Cy)=some es):es=l:=by
 obtain ⟨h1,h2⟩:=Ane h
 obtain ⟨us,c,hf⟩:=Arz h1 h2
 have ho:Lex.ok (Mn l):=Apd λe he=>⟨((Afb h).2.2 e he).2.1,((Afb h).2.2 e he).2.2.2⟩
 have hy:=Mbx.Qz (by omega) ho c
 rw [hy] at hx
 injection hx with _ hx
 injection hx with _ hx
 subst hx
 rw [hf _ (by omega)] at he
 injection he with he
 exact he.symm
end Lst
theorem lex_long (s:ByteArray) (w:World) (h1:2000<s.size):Calls Tryz.prog 38 #[.string s] w (Adz 5 0 [] w):=by
 have h1z:(2000:Int)<(s.size:Int):=by omega
 clear h1
 go_enter Tryz.func38,Tryz.ntmps38
 go_wp2
 go_ret3
 exact Lu rfl (Sm.nil _) (Below.refl _ _)
theorem parse_long (t:Value) (s:ByteArray) (w:World) (hT:Table w t) (h1:2000<s.size) :
  Calls Tryz.prog 16 #[t,.string s] w λe w'=>∃ v,e=.returned (.tuple #[v,.int .i64 5])/\Dz w.heap.size v [] w'/\Below w.heap.size w w':=by
 obtain ⟨b0,b1,b2,b3,rfl,-,-,-,-⟩:=hT
 obtain ⟨W0,hW0⟩:∃ W0,W0=w.alloc (.cells #[.slice (some ⟨b0,0,none⟩) 74 74,.slice (some ⟨b1,0,none⟩) 10 10,.slice (some ⟨b2,0,none⟩) 11 11,.slice (some ⟨b3,0,none⟩) 42 42] 36):=⟨_,rfl⟩
 have B0:=jH (show Below w.heap.size w W0 by rw [hW0];exact Ac _ _)
 have HW0:=jH hW0.symm
 have KL:=jH (lex_long s W0 h1)
 clear hW0 h1
 go_enter Tryz.func16,Tryz.ntmps16
 go_wp2_with fail
 rw [HW0.out]
 refine KL.out.mono ?_
 rintro e w1 ⟨A,c,rfl,-,hb⟩
 have B1:=jH (Aa B0.out hb)
 clear hb
 go_wp2
 go_ret2
 exact ⟨_,rfl,Dz.nil _ _,B1.out⟩
theorem parse_printed (t:Value) (w:World) (hT:Table w t) {l:List Lst.Ent} (h:Lst.Fk l=0) (F:Lst.Fits l) {p:ByteArray} (hp:p=⟨(Lst.Mn l).toArray⟩) (hs:¬ 2000<p.size) :
  Calls Tryz.prog 16 #[t,.string p] w λe w'=>∃ v,e=.returned (.tuple #[v,.int .i64 0])/\Dz w.heap.size v l w'/\Below w.heap.size w w':=by
 have hd:p.data.toList=Lst.Mn l:=by rw [hp]
 have hz:p.size=(Lst.Mn l).length:=by rw [hp,Li]
 have hq:=Lst.A1f h
 rw [if_neg (by omega)] at hq
 refine Yu t p w hT (by omega) (λts es hl he=>?_) (by rw [hd];exact hq)
 rw [hd] at hl
 have:=Lst.print_read h (by omega) hl he
 subst this
 exact ⟨F.len,λe h1=>⟨F.many e h1,λm hm=>F.box e h1 m hm⟩⟩
theorem print_to (v:Value) (l:List Lst.Ent) (w:World) (hl:Ov v l w) (F:Lst.A09 l) {p:ByteArray} (hp:p=⟨(Lst.Mn l).toArray⟩):Calls Tryz.prog 14 #[v] w λe w'=>e=.returned (.string p)/\Below w.heap.size w w':=by
 subst hp
 exact Am6 v l w hl F rfl
end
section
open Go.RowKit Utf
theorem back15_walk (v:Value) (l:List Lst.Ent) (s:ByteArray) (w:World) (hl:Ov v l w) (hnr:Lst.Narrow l):Calls Tryz.prog 4 #[v,.string s] w λe w'=>e=.returned (.bool true)/\Below w.heap.size w w':=by
 have CA:=jH hl
 have HN:=jH hnr
 clear hl hnr
 have BB:=jH (Below.refl w.heap.size w)
 go_enter Tryz.func4,Tryz.ntmps4
 go_wp2_with fail
 refine (E8 _).mono ?_
 rintro e w1 ⟨rfl,hb⟩
 replace CA:=jH (CA.out.Ae hb)
 replace BB:=jH (Aa BB.out hb)
 clear hb
 go_wp2_with fail
 refine (few15_any v l _ CA.out HN.out).mono ?_
 rintro e w2 ⟨b,rfl,hfew,hb⟩
 replace CA:=jH (CA.out.Ae hb)
 replace BB:=jH (Aa BB.out hb)
 clear hb
 cases b
 case false =>
  go_wp2
  go_ret
  exact ⟨rfl,BB.out⟩
 case true =>
  have hfit:=Lst.slim_fits (hfew rfl)
  clear hfew
  by_cases hs:s.size<=400
  case neg =>
   have hz:(400:Int)<(s.size:Int):=by omega
   go_wp2
   go_ret
   exact ⟨rfl,BB.out⟩
  have hz:¬ (400:Int)<(s.size:Int):=by omega
  obtain ⟨P,hP⟩:∃ P:ByteArray,P=⟨(Lst.Mn l).toArray⟩:=⟨_,rfl⟩
  obtain ⟨E1,h1⟩:∃ E,Lst.Fk l=E:=⟨_,rfl⟩
  obtain ⟨⟨E2,x⟩,hq⟩:∃ p,Lst.Cx s.data.toList=p:=⟨_,rfl⟩
  obtain ⟨F1,S1⟩:=hfit
  have F1:=jH F1
  have S1:=jH S1
  have HP:=jH hP
  have H1:=jH h1
  have HQ:=jH hq
  clear hP h1 hq
  go_wp2_with fail
  refine (Oi _).mono ?_
  rintro e w3 ⟨tt,rfl,hT,hb⟩
  obtain ⟨b0,b1,b2,b3,rfl,-,-,-,-⟩:=id hT
  replace CA:=jH (CA.out.Ae hb)
  replace BB:=jH (Aa BB.out hb)
  have K:=jH (Rj (b0:=b0) (b1:=b1) (b2:=b2) (b3:=b3) BB.out hT 36)
  clear hT hb BB
  obtain ⟨S,hS⟩:∃ N,w3.heap.size=N:=⟨_,rfl⟩
  rw [hS] at K
  have hb:=Ac w3 (.cells #[.slice (some ⟨b0,0,none⟩) 74 74,.slice (some ⟨b1,0,none⟩) 10 10,.slice (some ⟨b2,0,none⟩) 11 11,.slice (some ⟨b3,0,none⟩) 42 42] 36)
  replace CA:=jH (CA.out.Ae hb)
  clear hb
  obtain ⟨-,t0,t1,t2,t3⟩:=K.out.held
  go_wp2_with fail
  refine (print_to v l _ CA.out S1.out HP.out).mono ?_
  rintro e w4 ⟨rfl,hb⟩
  replace t0:=Kc hb t0
  replace t1:=Kc hb t1
  replace t2:=Kc hb t2
  replace t3:=Kc hb t3
  replace CA:=jH (CA.out.Ae hb)
  replace K:=jH (K.out.next hb)
  clear hb
  go_wp2_with fail
  refine (P9 (.agg #[.slice (some ⟨b0,0,none⟩) 74 74,.slice (some ⟨b1,0,none⟩) 10 10,.slice (some ⟨b2,0,none⟩) 11 11,.slice (some ⟨b3,0,none⟩) 42 42]) v l _ K.out.table CA.out F1.out H1.out).mono ?_
  rintro e w5 ⟨rfl,hb⟩
  replace t0:=Kc hb t0
  replace t1:=Kc hb t1
  replace t2:=Kc hb t2
  replace t3:=Kc hb t3
  replace CA:=jH (CA.out.Ae hb)
  replace K:=jH (K.out.next hb)
  clear hb
  by_cases hE1:E1=0
  case neg =>
   have hE10:(E1 == 0)=false:=by rw [beq_eq_false_iff_ne];exact hE1
   go_wp2_with fail
   refine (Ga (.agg #[.slice (some ⟨b0,0,none⟩) 74 74,.slice (some ⟨b1,0,none⟩) 10 10,.slice (some ⟨b2,0,none⟩) 11 11,.slice (some ⟨b3,0,none⟩) 42 42]) s _ K.out.table hs HQ.out).mono ?_
   rintro e w6 ⟨v2,rfl,o2,hb⟩
   have CX:=jH o2
   clear o2
   replace t0:=Kc hb t0
   replace t1:=Kc hb t1
   replace t2:=Kc hb t2
   replace t3:=Kc hb t3
   replace CA:=jH (CA.out.Ae hb)
   replace K:=jH (K.out.next hb)
   clear hb
   by_cases hE:E2=0
   case neg =>
    have hE0:(E2 != 0)=true:=by simpa using hE
    obtain rfl:=(Lst.A1g HQ.out).2 hE
    obtain ⟨A2,k2,rfl⟩:=CX.out.slice
    go_wp2
    go_ret
    exact ⟨rfl,K.out.below⟩
   subst hE
   obtain ⟨Fx,Sx,Nx,Rx⟩:=Lst.read_fit (by simpa using hs) HQ.out
   have FX:=jH Fx
   have SX:=jH Sx
   have NX:=jH Nx
   have RX:=jH Rx
   obtain ⟨R,hR⟩:∃ R:ByteArray,R=⟨(Lst.Mn x).toArray⟩:=⟨_,rfl⟩
   have HR:=jH hR
   clear Fx Sx Nx Rx hR
   go_wp2_with fail
   by_cases hlong:2000<R.size
   case pos =>
    replace t0:(World.drew w6).cell? ⟨S,0,none⟩=some (.slice (some ⟨b0,0,none⟩) 74 74):=t0
    replace t1:(World.drew w6).cell? ⟨S,1,none⟩=some (.slice (some ⟨b1,0,none⟩) 10 10):=t1
    replace t2:(World.drew w6).cell? ⟨S,2,none⟩=some (.slice (some ⟨b2,0,none⟩) 11 11):=t2
    replace t3:(World.drew w6).cell? ⟨S,3,none⟩=some (.slice (some ⟨b3,0,none⟩) 42 42):=t3
    replace K:=jH K.out.drew
    replace CA:=jH (CA.out.Ae (Below.refl _ _).drew)
    replace CX:=jH (CX.out.Ae (Below.refl _ _).drew)
    refine wp_region_held_drew (S:=(λw':World=>w'.cell? ⟨S,0,none⟩=some (.slice (some ⟨b0,0,none⟩) 74 74)/\w'.cell? ⟨S,1,none⟩=some (.slice (some ⟨b1,0,none⟩) 10 10)/\w'.cell? ⟨S,2,none⟩=some (.slice (some ⟨b2,0,none⟩) 11 11)/\w'.cell? ⟨S,3,none⟩=some (.slice (some ⟨b3,0,none⟩) 42 42))) (by kernel_rfl) ?_ (λhHeld=>?_)
    ·exact ⟨t0,t1,t2,t3⟩
    generalize hwd:(World.drew w6)=d7 at t0 t1 t2 t3 CA CX K hHeld ⊢
    clear hwd
    refine Aj 0 76 (v:=?_) rfl rfl (by kernel_rfl) (by kernel_rfl) (by kernel_rfl) (λ_ _ _ h=>h) (Or.inl ⟨by rfl,?_⟩) (by assumption) ?_
    rotate_left
    ·intro w hSw
     (try dsimp only at hSw)
     go_simp
     first | done | with_reducible rfl
    simp only [Act.put,List.setIfInBounds_toArray,List.set_cons_zero,List.set_cons_succ]
    refine Aj 1 77 (v:=?_) rfl rfl (by kernel_rfl) (by kernel_rfl) (by kernel_rfl) (λ_ _ _ h=>h) (Or.inl ⟨by rfl,?_⟩) (by assumption) ?_
    rotate_left
    ·intro w hSw
     (try dsimp only at hSw)
     go_simp
     first | done | with_reducible rfl
    simp only [Act.put,List.setIfInBounds_toArray,List.set_cons_zero,List.set_cons_succ]
    refine wpAnyH_ready (rs:=[2]) (by kernel_rfl) (by simp) ?_
    refine AllReadyH.cons (o:={ dst:=some 78,op:=.call { callee:=.value (.func 14),args:=#[.tmp 77],argTypes:=#[22] },type:=_,pos := "law.go:94", after:=_,guard:=none }) rfl (λK_ hK=>?_) AllReadyH.nil
    (try go_simp)
    go_at_call 14
    refine (print_to _ x _ CX.out.Dg SX.out HR.out).mono ?_
    rintro e w8 ⟨rfl,hb⟩
    replace t0:=Kc hb t0
    replace t1:=Kc hb t1
    replace t2:=Kc hb t2
    replace t3:=Kc hb t3
    replace CA:=jH (CA.out.Ae hb)
    replace CX:=jH (CX.out.Ae hb)
    replace K:=jH (K.out.next hb)
    clear hb
    go_wp2_with fail
    clear hHeld
    refine hK.out _ _ ?_ (λhHeld=>?_)
    ·exact ⟨t0,t1,t2,t3⟩
    clear hK K_
    refine wpAnyH_ready (rs:=[3]) (by kernel_rfl) (by simp) ?_
    refine AllReadyH.cons (o:={ dst:=some 79,op:=.call { callee:=.value (.func 16),args:=#[.tmp 76,.tmp 78],argTypes:=#[36,9] },type:=_,pos := "law.go:94", after:=_,guard:=none }) rfl (λK_ hK=>?_) AllReadyH.nil
    (try go_simp)
    go_at_call 16
    refine (parse_long (.agg #[.slice (some ⟨b0,0,none⟩) 74 74,.slice (some ⟨b1,0,none⟩) 10 10,.slice (some ⟨b2,0,none⟩) 11 11,.slice (some ⟨b3,0,none⟩) 42 42]) R _ K.out.table hlong).mono ?_
    rintro e w9 ⟨v3,rfl,o3,hb⟩
    have CY:=jH o3
    clear o3
    replace t0:=Kc hb t0
    replace t1:=Kc hb t1
    replace t2:=Kc hb t2
    replace t3:=Kc hb t3
    replace CA:=jH (CA.out.Ae hb)
    replace CX:=jH (CX.out.Ae hb)
    replace K:=jH (K.out.next hb)
    clear hb
    go_wp2_with fail
    clear hHeld
    refine hK.out _ _ ?_ (λhHeld=>?_)
    ·exact ⟨t0,t1,t2,t3⟩
    clear hK K_
    refine Aj 4 75 (v:=?_) rfl rfl (by kernel_rfl) (by kernel_rfl) (by kernel_rfl) (λ_ _ _ h=>h) (Or.inl ⟨by rfl,?_⟩) (by assumption) ?_
    rotate_left
    ·intro w hSw
     (try dsimp only at hSw)
     go_simp
     first | done | with_reducible rfl
    simp only [Act.put,List.setIfInBounds_toArray,List.set_cons_zero,List.set_cons_succ]
    refine Aj 5 80 (v:=?_) rfl rfl (by kernel_rfl) (by kernel_rfl) (by kernel_rfl) (λ_ _ _ h=>h) (Or.inl ⟨by rfl,?_⟩) (by assumption) ?_
    rotate_left
    ·intro w hSw
     (try dsimp only at hSw)
     go_simp
     first | done | with_reducible rfl
    simp only [Act.put,List.setIfInBounds_toArray,List.set_cons_zero,List.set_cons_succ]
    refine Aj 6 81 (v:=?_) rfl rfl (by kernel_rfl) (by kernel_rfl) (by kernel_rfl) (λ_ _ _ h=>h) (Or.inl ⟨by rfl,?_⟩) (by assumption) ?_
    rotate_left
    ·intro w hSw
     (try dsimp only at hSw)
     go_simp
     first | done | with_reducible rfl
    simp only [Act.put,List.setIfInBounds_toArray,List.set_cons_zero,List.set_cons_succ]
    refine Aj 7 13 (v:=?_) rfl rfl (by kernel_rfl) (by kernel_rfl) (by kernel_rfl) (λ_ _ _ h=>h) (Or.inl ⟨by rfl,?_⟩) (by assumption) ?_
    rotate_left
    ·intro w hSw
     (try dsimp only at hSw)
     go_simp
     first | done | with_reducible rfl
    simp only [Act.put,List.setIfInBounds_toArray,List.set_cons_zero,List.set_cons_succ]
    refine Aj 8 14 (v:=?_) rfl rfl (by kernel_rfl) (by kernel_rfl) (by kernel_rfl) (λ_ _ _ h=>h) (Or.inl ⟨by rfl,?_⟩) (by assumption) ?_
    rotate_left
    ·intro w hSw
     (try dsimp only at hSw)
     go_simp
     first | done | with_reducible rfl
    simp only [Act.put,List.setIfInBounds_toArray,List.set_cons_zero,List.set_cons_succ]
    refine wpAnyH_done (by kernel_rfl) ?_ _
    go_wp2_with fail
    refine (P9 (.agg #[.slice (some ⟨b0,0,none⟩) 74 74,.slice (some ⟨b1,0,none⟩) 10 10,.slice (some ⟨b2,0,none⟩) 11 11,.slice (some ⟨b3,0,none⟩) 42 42]) _ x _ K.out.table CX.out.Dg FX.out RX.out).mono ?_
    rintro e w10 ⟨rfl,hb⟩
    replace t0:=Kc hb t0
    replace t1:=Kc hb t1
    replace t2:=Kc hb t2
    replace t3:=Kc hb t3
    replace CA:=jH (CA.out.Ae hb)
    replace CX:=jH (CX.out.Ae hb)
    replace CY:=jH (CY.out.Ae hb)
    replace K:=jH (K.out.next hb)
    clear hb
    go_wp2
    go_ret
    exact ⟨rfl,K.out.below⟩
   case neg =>
    replace t0:(World.drew w6).cell? ⟨S,0,none⟩=some (.slice (some ⟨b0,0,none⟩) 74 74):=t0
    replace t1:(World.drew w6).cell? ⟨S,1,none⟩=some (.slice (some ⟨b1,0,none⟩) 10 10):=t1
    replace t2:(World.drew w6).cell? ⟨S,2,none⟩=some (.slice (some ⟨b2,0,none⟩) 11 11):=t2
    replace t3:(World.drew w6).cell? ⟨S,3,none⟩=some (.slice (some ⟨b3,0,none⟩) 42 42):=t3
    replace K:=jH K.out.drew
    replace CA:=jH (CA.out.Ae (Below.refl _ _).drew)
    replace CX:=jH (CX.out.Ae (Below.refl _ _).drew)
    refine wp_region_held_drew (S:=(λw':World=>w'.cell? ⟨S,0,none⟩=some (.slice (some ⟨b0,0,none⟩) 74 74)/\w'.cell? ⟨S,1,none⟩=some (.slice (some ⟨b1,0,none⟩) 10 10)/\w'.cell? ⟨S,2,none⟩=some (.slice (some ⟨b2,0,none⟩) 11 11)/\w'.cell? ⟨S,3,none⟩=some (.slice (some ⟨b3,0,none⟩) 42 42))) (by kernel_rfl) ?_ (λhHeld=>?_)
    ·exact ⟨t0,t1,t2,t3⟩
    generalize hwd:(World.drew w6)=d7 at t0 t1 t2 t3 CA CX K hHeld ⊢
    clear hwd
    refine Aj 0 76 (v:=?_) rfl rfl (by kernel_rfl) (by kernel_rfl) (by kernel_rfl) (λ_ _ _ h=>h) (Or.inl ⟨by rfl,?_⟩) (by assumption) ?_
    rotate_left
    ·intro w hSw
     (try dsimp only at hSw)
     go_simp
     first | done | with_reducible rfl
    simp only [Act.put,List.setIfInBounds_toArray,List.set_cons_zero,List.set_cons_succ]
    refine Aj 1 77 (v:=?_) rfl rfl (by kernel_rfl) (by kernel_rfl) (by kernel_rfl) (λ_ _ _ h=>h) (Or.inl ⟨by rfl,?_⟩) (by assumption) ?_
    rotate_left
    ·intro w hSw
     (try dsimp only at hSw)
     go_simp
     first | done | with_reducible rfl
    simp only [Act.put,List.setIfInBounds_toArray,List.set_cons_zero,List.set_cons_succ]
    refine wpAnyH_ready (rs:=[2]) (by kernel_rfl) (by simp) ?_
    refine AllReadyH.cons (o:={ dst:=some 78,op:=.call { callee:=.value (.func 14),args:=#[.tmp 77],argTypes:=#[22] },type:=_,pos := "law.go:94", after:=_,guard:=none }) rfl (λK_ hK=>?_) AllReadyH.nil
    (try go_simp)
    go_at_call 14
    refine (print_to _ x _ CX.out.Dg SX.out HR.out).mono ?_
    rintro e w8 ⟨rfl,hb⟩
    replace t0:=Kc hb t0
    replace t1:=Kc hb t1
    replace t2:=Kc hb t2
    replace t3:=Kc hb t3
    replace CA:=jH (CA.out.Ae hb)
    replace CX:=jH (CX.out.Ae hb)
    replace K:=jH (K.out.next hb)
    clear hb
    go_wp2_with fail
    clear hHeld
    refine hK.out _ _ ?_ (λhHeld=>?_)
    ·exact ⟨t0,t1,t2,t3⟩
    clear hK K_
    refine wpAnyH_ready (rs:=[3]) (by kernel_rfl) (by simp) ?_
    refine AllReadyH.cons (o:={ dst:=some 79,op:=.call { callee:=.value (.func 16),args:=#[.tmp 76,.tmp 78],argTypes:=#[36,9] },type:=_,pos := "law.go:94", after:=_,guard:=none }) rfl (λK_ hK=>?_) AllReadyH.nil
    (try go_simp)
    go_at_call 16
    refine (parse_printed (.agg #[.slice (some ⟨b0,0,none⟩) 74 74,.slice (some ⟨b1,0,none⟩) 10 10,.slice (some ⟨b2,0,none⟩) 11 11,.slice (some ⟨b3,0,none⟩) 42 42]) _ K.out.table RX.out FX.out HR.out hlong).mono ?_
    rintro e w9 ⟨v3,rfl,o3,hb⟩
    have CY:=jH o3
    clear o3
    replace t0:=Kc hb t0
    replace t1:=Kc hb t1
    replace t2:=Kc hb t2
    replace t3:=Kc hb t3
    replace CA:=jH (CA.out.Ae hb)
    replace CX:=jH (CX.out.Ae hb)
    replace K:=jH (K.out.next hb)
    clear hb
    go_wp2_with fail
    clear hHeld
    refine hK.out _ _ ?_ (λhHeld=>?_)
    ·exact ⟨t0,t1,t2,t3⟩
    clear hK K_
    refine Aj 4 75 (v:=?_) rfl rfl (by kernel_rfl) (by kernel_rfl) (by kernel_rfl) (λ_ _ _ h=>h) (Or.inl ⟨by rfl,?_⟩) (by assumption) ?_
    rotate_left
    ·intro w hSw
     (try dsimp only at hSw)
     go_simp
     first | done | with_reducible rfl
    simp only [Act.put,List.setIfInBounds_toArray,List.set_cons_zero,List.set_cons_succ]
    refine Aj 5 80 (v:=?_) rfl rfl (by kernel_rfl) (by kernel_rfl) (by kernel_rfl) (λ_ _ _ h=>h) (Or.inl ⟨by rfl,?_⟩) (by assumption) ?_
    rotate_left
    ·intro w hSw
     (try dsimp only at hSw)
     go_simp
     first | done | with_reducible rfl
    simp only [Act.put,List.setIfInBounds_toArray,List.set_cons_zero,List.set_cons_succ]
    refine Aj 6 81 (v:=?_) rfl rfl (by kernel_rfl) (by kernel_rfl) (by kernel_rfl) (λ_ _ _ h=>h) (Or.inl ⟨by rfl,?_⟩) (by assumption) ?_
    rotate_left
    ·intro w hSw
     (try dsimp only at hSw)
     go_simp
     first | done | with_reducible rfl
    simp only [Act.put,List.setIfInBounds_toArray,List.set_cons_zero,List.set_cons_succ]
    refine Aj 7 13 (v:=?_) rfl rfl (by kernel_rfl) (by kernel_rfl) (by kernel_rfl) (λ_ _ _ h=>h) (Or.inl ⟨by rfl,?_⟩) (by assumption) ?_
    rotate_left
    ·intro w hSw
     (try dsimp only at hSw)
     go_simp
     first | done | with_reducible rfl
    simp only [Act.put,List.setIfInBounds_toArray,List.set_cons_zero,List.set_cons_succ]
    refine Aj 8 14 (v:=?_) rfl rfl (by kernel_rfl) (by kernel_rfl) (by kernel_rfl) (λ_ _ _ h=>h) (Or.inl ⟨by rfl,?_⟩) (by assumption) ?_
    rotate_left
    ·intro w hSw
     (try dsimp only at hSw)
     go_simp
     first | done | with_reducible rfl
    simp only [Act.put,List.setIfInBounds_toArray,List.set_cons_zero,List.set_cons_succ]
    refine wpAnyH_done (by kernel_rfl) ?_ _
    go_wp2_with fail
    refine (P9 (.agg #[.slice (some ⟨b0,0,none⟩) 74 74,.slice (some ⟨b1,0,none⟩) 10 10,.slice (some ⟨b2,0,none⟩) 11 11,.slice (some ⟨b3,0,none⟩) 42 42]) _ x _ K.out.table CX.out.Dg FX.out RX.out).mono ?_
    rintro e w10 ⟨rfl,hb⟩
    replace t0:=Kc hb t0
    replace t1:=Kc hb t1
    replace t2:=Kc hb t2
    replace t3:=Kc hb t3
    replace CA:=jH (CA.out.Ae hb)
    replace CX:=jH (CX.out.Ae hb)
    replace CY:=jH (CY.out.Ae hb)
    replace K:=jH (K.out.next hb)
    clear hb
    go_wp2_with fail
    refine (same15_any _ _ x _ CX.out.Dg CY.out.Dg NX.out).mono ?_
    rintro e w11 ⟨rfl,hb⟩
    replace t0:=Kc hb t0
    replace t1:=Kc hb t1
    replace t2:=Kc hb t2
    replace t3:=Kc hb t3
    replace CA:=jH (CA.out.Ae hb)
    replace CX:=jH (CX.out.Ae hb)
    replace CY:=jH (CY.out.Ae hb)
    replace K:=jH (K.out.next hb)
    clear hb
    go_wp2
    go_ret
    exact ⟨rfl,K.out.below⟩
  subst hE1
  by_cases hp:2000<P.size
  case pos =>
   have hpz:(2000:Int)<(P.size:Int):=by omega
   have hpy:¬ (P.size:Int)<=2000:=by omega
   go_wp2_with fail
   refine (parse_long (.agg #[.slice (some ⟨b0,0,none⟩) 74 74,.slice (some ⟨b1,0,none⟩) 10 10,.slice (some ⟨b2,0,none⟩) 11 11,.slice (some ⟨b3,0,none⟩) 42 42]) P _ K.out.table hp).mono ?_
   rintro e w6 ⟨v1,rfl,-,hb⟩
   replace t0:=Kc hb t0
   replace t1:=Kc hb t1
   replace t2:=Kc hb t2
   replace t3:=Kc hb t3
   replace CA:=jH (CA.out.Ae hb)
   replace K:=jH (K.out.next hb)
   clear hb
   go_wp2_with fail
   refine (Ga (.agg #[.slice (some ⟨b0,0,none⟩) 74 74,.slice (some ⟨b1,0,none⟩) 10 10,.slice (some ⟨b2,0,none⟩) 11 11,.slice (some ⟨b3,0,none⟩) 42 42]) s _ K.out.table hs HQ.out).mono ?_
   rintro e w7 ⟨v2,rfl,o2,hb⟩
   have CX:=jH o2
   clear o2
   replace t0:=Kc hb t0
   replace t1:=Kc hb t1
   replace t2:=Kc hb t2
   replace t3:=Kc hb t3
   replace CA:=jH (CA.out.Ae hb)
   replace K:=jH (K.out.next hb)
   clear hb
   by_cases hE:E2=0
   case neg =>
    have hE0:(E2 != 0)=true:=by simpa using hE
    obtain rfl:=(Lst.A1g HQ.out).2 hE
    obtain ⟨A2,k2,rfl⟩:=CX.out.slice
    go_wp2
    go_ret
    exact ⟨rfl,K.out.below⟩
   subst hE
   obtain ⟨Fx,Sx,Nx,Rx⟩:=Lst.read_fit (by simpa using hs) HQ.out
   have FX:=jH Fx
   have SX:=jH Sx
   have NX:=jH Nx
   have RX:=jH Rx
   obtain ⟨R,hR⟩:∃ R:ByteArray,R=⟨(Lst.Mn x).toArray⟩:=⟨_,rfl⟩
   have HR:=jH hR
   clear Fx Sx Nx Rx hR
   go_wp2_with fail
   by_cases hlong:2000<R.size
   case pos =>
    replace t0:(World.drew w7).cell? ⟨S,0,none⟩=some (.slice (some ⟨b0,0,none⟩) 74 74):=t0
    replace t1:(World.drew w7).cell? ⟨S,1,none⟩=some (.slice (some ⟨b1,0,none⟩) 10 10):=t1
    replace t2:(World.drew w7).cell? ⟨S,2,none⟩=some (.slice (some ⟨b2,0,none⟩) 11 11):=t2
    replace t3:(World.drew w7).cell? ⟨S,3,none⟩=some (.slice (some ⟨b3,0,none⟩) 42 42):=t3
    replace K:=jH K.out.drew
    replace CA:=jH (CA.out.Ae (Below.refl _ _).drew)
    replace CX:=jH (CX.out.Ae (Below.refl _ _).drew)
    refine wp_region_held_drew (S:=(λw':World=>w'.cell? ⟨S,0,none⟩=some (.slice (some ⟨b0,0,none⟩) 74 74)/\w'.cell? ⟨S,1,none⟩=some (.slice (some ⟨b1,0,none⟩) 10 10)/\w'.cell? ⟨S,2,none⟩=some (.slice (some ⟨b2,0,none⟩) 11 11)/\w'.cell? ⟨S,3,none⟩=some (.slice (some ⟨b3,0,none⟩) 42 42))) (by kernel_rfl) ?_ (λhHeld=>?_)
    ·exact ⟨t0,t1,t2,t3⟩
    generalize hwd:(World.drew w7)=d8 at t0 t1 t2 t3 CA CX K hHeld ⊢
    clear hwd
    refine Aj 0 76 (v:=?_) rfl rfl (by kernel_rfl) (by kernel_rfl) (by kernel_rfl) (λ_ _ _ h=>h) (Or.inl ⟨by rfl,?_⟩) (by assumption) ?_
    rotate_left
    ·intro w hSw
     (try dsimp only at hSw)
     go_simp
     first | done | with_reducible rfl
    simp only [Act.put,List.setIfInBounds_toArray,List.set_cons_zero,List.set_cons_succ]
    refine Aj 1 77 (v:=?_) rfl rfl (by kernel_rfl) (by kernel_rfl) (by kernel_rfl) (λ_ _ _ h=>h) (Or.inl ⟨by rfl,?_⟩) (by assumption) ?_
    rotate_left
    ·intro w hSw
     (try dsimp only at hSw)
     go_simp
     first | done | with_reducible rfl
    simp only [Act.put,List.setIfInBounds_toArray,List.set_cons_zero,List.set_cons_succ]
    refine wpAnyH_ready (rs:=[2]) (by kernel_rfl) (by simp) ?_
    refine AllReadyH.cons (o:={ dst:=some 78,op:=.call { callee:=.value (.func 14),args:=#[.tmp 77],argTypes:=#[22] },type:=_,pos := "law.go:94", after:=_,guard:=none }) rfl (λK_ hK=>?_) AllReadyH.nil
    (try go_simp)
    go_at_call 14
    refine (print_to _ x _ CX.out.Dg SX.out HR.out).mono ?_
    rintro e w9 ⟨rfl,hb⟩
    replace t0:=Kc hb t0
    replace t1:=Kc hb t1
    replace t2:=Kc hb t2
    replace t3:=Kc hb t3
    replace CA:=jH (CA.out.Ae hb)
    replace CX:=jH (CX.out.Ae hb)
    replace K:=jH (K.out.next hb)
    clear hb
    go_wp2_with fail
    clear hHeld
    refine hK.out _ _ ?_ (λhHeld=>?_)
    ·exact ⟨t0,t1,t2,t3⟩
    clear hK K_
    refine wpAnyH_ready (rs:=[3]) (by kernel_rfl) (by simp) ?_
    refine AllReadyH.cons (o:={ dst:=some 79,op:=.call { callee:=.value (.func 16),args:=#[.tmp 76,.tmp 78],argTypes:=#[36,9] },type:=_,pos := "law.go:94", after:=_,guard:=none }) rfl (λK_ hK=>?_) AllReadyH.nil
    (try go_simp)
    go_at_call 16
    refine (parse_long (.agg #[.slice (some ⟨b0,0,none⟩) 74 74,.slice (some ⟨b1,0,none⟩) 10 10,.slice (some ⟨b2,0,none⟩) 11 11,.slice (some ⟨b3,0,none⟩) 42 42]) R _ K.out.table hlong).mono ?_
    rintro e w10 ⟨v3,rfl,o3,hb⟩
    have CY:=jH o3
    clear o3
    replace t0:=Kc hb t0
    replace t1:=Kc hb t1
    replace t2:=Kc hb t2
    replace t3:=Kc hb t3
    replace CA:=jH (CA.out.Ae hb)
    replace CX:=jH (CX.out.Ae hb)
    replace K:=jH (K.out.next hb)
    clear hb
    go_wp2_with fail
    clear hHeld
    refine hK.out _ _ ?_ (λhHeld=>?_)
    ·exact ⟨t0,t1,t2,t3⟩
    clear hK K_
    refine Aj 4 75 (v:=?_) rfl rfl (by kernel_rfl) (by kernel_rfl) (by kernel_rfl) (λ_ _ _ h=>h) (Or.inl ⟨by rfl,?_⟩) (by assumption) ?_
    rotate_left
    ·intro w hSw
     (try dsimp only at hSw)
     go_simp
     first | done | with_reducible rfl
    simp only [Act.put,List.setIfInBounds_toArray,List.set_cons_zero,List.set_cons_succ]
    refine Aj 5 80 (v:=?_) rfl rfl (by kernel_rfl) (by kernel_rfl) (by kernel_rfl) (λ_ _ _ h=>h) (Or.inl ⟨by rfl,?_⟩) (by assumption) ?_
    rotate_left
    ·intro w hSw
     (try dsimp only at hSw)
     go_simp
     first | done | with_reducible rfl
    simp only [Act.put,List.setIfInBounds_toArray,List.set_cons_zero,List.set_cons_succ]
    refine Aj 6 81 (v:=?_) rfl rfl (by kernel_rfl) (by kernel_rfl) (by kernel_rfl) (λ_ _ _ h=>h) (Or.inl ⟨by rfl,?_⟩) (by assumption) ?_
    rotate_left
    ·intro w hSw
     (try dsimp only at hSw)
     go_simp
     first | done | with_reducible rfl
    simp only [Act.put,List.setIfInBounds_toArray,List.set_cons_zero,List.set_cons_succ]
    refine Aj 7 13 (v:=?_) rfl rfl (by kernel_rfl) (by kernel_rfl) (by kernel_rfl) (λ_ _ _ h=>h) (Or.inl ⟨by rfl,?_⟩) (by assumption) ?_
    rotate_left
    ·intro w hSw
     (try dsimp only at hSw)
     go_simp
     first | done | with_reducible rfl
    simp only [Act.put,List.setIfInBounds_toArray,List.set_cons_zero,List.set_cons_succ]
    refine Aj 8 14 (v:=?_) rfl rfl (by kernel_rfl) (by kernel_rfl) (by kernel_rfl) (λ_ _ _ h=>h) (Or.inl ⟨by rfl,?_⟩) (by assumption) ?_
    rotate_left
    ·intro w hSw
     (try dsimp only at hSw)
     go_simp
     first | done | with_reducible rfl
    simp only [Act.put,List.setIfInBounds_toArray,List.set_cons_zero,List.set_cons_succ]
    refine wpAnyH_done (by kernel_rfl) ?_ _
    go_wp2_with fail
    refine (P9 (.agg #[.slice (some ⟨b0,0,none⟩) 74 74,.slice (some ⟨b1,0,none⟩) 10 10,.slice (some ⟨b2,0,none⟩) 11 11,.slice (some ⟨b3,0,none⟩) 42 42]) _ x _ K.out.table CX.out.Dg FX.out RX.out).mono ?_
    rintro e w11 ⟨rfl,hb⟩
    replace t0:=Kc hb t0
    replace t1:=Kc hb t1
    replace t2:=Kc hb t2
    replace t3:=Kc hb t3
    replace CA:=jH (CA.out.Ae hb)
    replace CX:=jH (CX.out.Ae hb)
    replace CY:=jH (CY.out.Ae hb)
    replace K:=jH (K.out.next hb)
    clear hb
    go_wp2
    go_ret
    exact ⟨rfl,K.out.below⟩
   case neg =>
    replace t0:(World.drew w7).cell? ⟨S,0,none⟩=some (.slice (some ⟨b0,0,none⟩) 74 74):=t0
    replace t1:(World.drew w7).cell? ⟨S,1,none⟩=some (.slice (some ⟨b1,0,none⟩) 10 10):=t1
    replace t2:(World.drew w7).cell? ⟨S,2,none⟩=some (.slice (some ⟨b2,0,none⟩) 11 11):=t2
    replace t3:(World.drew w7).cell? ⟨S,3,none⟩=some (.slice (some ⟨b3,0,none⟩) 42 42):=t3
    replace K:=jH K.out.drew
    replace CA:=jH (CA.out.Ae (Below.refl _ _).drew)
    replace CX:=jH (CX.out.Ae (Below.refl _ _).drew)
    refine wp_region_held_drew (S:=(λw':World=>w'.cell? ⟨S,0,none⟩=some (.slice (some ⟨b0,0,none⟩) 74 74)/\w'.cell? ⟨S,1,none⟩=some (.slice (some ⟨b1,0,none⟩) 10 10)/\w'.cell? ⟨S,2,none⟩=some (.slice (some ⟨b2,0,none⟩) 11 11)/\w'.cell? ⟨S,3,none⟩=some (.slice (some ⟨b3,0,none⟩) 42 42))) (by kernel_rfl) ?_ (λhHeld=>?_)
    ·exact ⟨t0,t1,t2,t3⟩
    generalize hwd:(World.drew w7)=d8 at t0 t1 t2 t3 CA CX K hHeld ⊢
    clear hwd
    refine Aj 0 76 (v:=?_) rfl rfl (by kernel_rfl) (by kernel_rfl) (by kernel_rfl) (λ_ _ _ h=>h) (Or.inl ⟨by rfl,?_⟩) (by assumption) ?_
    rotate_left
    ·intro w hSw
     (try dsimp only at hSw)
     go_simp
     first | done | with_reducible rfl
    simp only [Act.put,List.setIfInBounds_toArray,List.set_cons_zero,List.set_cons_succ]
    refine Aj 1 77 (v:=?_) rfl rfl (by kernel_rfl) (by kernel_rfl) (by kernel_rfl) (λ_ _ _ h=>h) (Or.inl ⟨by rfl,?_⟩) (by assumption) ?_
    rotate_left
    ·intro w hSw
     (try dsimp only at hSw)
     go_simp
     first | done | with_reducible rfl
    simp only [Act.put,List.setIfInBounds_toArray,List.set_cons_zero,List.set_cons_succ]
    refine wpAnyH_ready (rs:=[2]) (by kernel_rfl) (by simp) ?_
    refine AllReadyH.cons (o:={ dst:=some 78,op:=.call { callee:=.value (.func 14),args:=#[.tmp 77],argTypes:=#[22] },type:=_,pos := "law.go:94", after:=_,guard:=none }) rfl (λK_ hK=>?_) AllReadyH.nil
    (try go_simp)
    go_at_call 14
    refine (print_to _ x _ CX.out.Dg SX.out HR.out).mono ?_
    rintro e w9 ⟨rfl,hb⟩
    replace t0:=Kc hb t0
    replace t1:=Kc hb t1
    replace t2:=Kc hb t2
    replace t3:=Kc hb t3
    replace CA:=jH (CA.out.Ae hb)
    replace CX:=jH (CX.out.Ae hb)
    replace K:=jH (K.out.next hb)
    clear hb
    go_wp2_with fail
    clear hHeld
    refine hK.out _ _ ?_ (λhHeld=>?_)
    ·exact ⟨t0,t1,t2,t3⟩
    clear hK K_
    refine wpAnyH_ready (rs:=[3]) (by kernel_rfl) (by simp) ?_
    refine AllReadyH.cons (o:={ dst:=some 79,op:=.call { callee:=.value (.func 16),args:=#[.tmp 76,.tmp 78],argTypes:=#[36,9] },type:=_,pos := "law.go:94", after:=_,guard:=none }) rfl (λK_ hK=>?_) AllReadyH.nil
    (try go_simp)
    go_at_call 16
    refine (parse_printed (.agg #[.slice (some ⟨b0,0,none⟩) 74 74,.slice (some ⟨b1,0,none⟩) 10 10,.slice (some ⟨b2,0,none⟩) 11 11,.slice (some ⟨b3,0,none⟩) 42 42]) _ K.out.table RX.out FX.out HR.out hlong).mono ?_
    rintro e w10 ⟨v3,rfl,o3,hb⟩
    have CY:=jH o3
    clear o3
    replace t0:=Kc hb t0
    replace t1:=Kc hb t1
    replace t2:=Kc hb t2
    replace t3:=Kc hb t3
    replace CA:=jH (CA.out.Ae hb)
    replace CX:=jH (CX.out.Ae hb)
    replace K:=jH (K.out.next hb)
    clear hb
    go_wp2_with fail
    clear hHeld
    refine hK.out _ _ ?_ (λhHeld=>?_)
    ·exact ⟨t0,t1,t2,t3⟩
    clear hK K_
    refine Aj 4 75 (v:=?_) rfl rfl (by kernel_rfl) (by kernel_rfl) (by kernel_rfl) (λ_ _ _ h=>h) (Or.inl ⟨by rfl,?_⟩) (by assumption) ?_
    rotate_left
    ·intro w hSw
     (try dsimp only at hSw)
     go_simp
     first | done | with_reducible rfl
    simp only [Act.put,List.setIfInBounds_toArray,List.set_cons_zero,List.set_cons_succ]
    refine Aj 5 80 (v:=?_) rfl rfl (by kernel_rfl) (by kernel_rfl) (by kernel_rfl) (λ_ _ _ h=>h) (Or.inl ⟨by rfl,?_⟩) (by assumption) ?_
    rotate_left
    ·intro w hSw
     (try dsimp only at hSw)
     go_simp
     first | done | with_reducible rfl
    simp only [Act.put,List.setIfInBounds_toArray,List.set_cons_zero,List.set_cons_succ]
    refine Aj 6 81 (v:=?_) rfl rfl (by kernel_rfl) (by kernel_rfl) (by kernel_rfl) (λ_ _ _ h=>h) (Or.inl ⟨by rfl,?_⟩) (by assumption) ?_
    rotate_left
    ·intro w hSw
     (try dsimp only at hSw)
     go_simp
     first | done | with_reducible rfl
    simp only [Act.put,List.setIfInBounds_toArray,List.set_cons_zero,List.set_cons_succ]
    refine Aj 7 13 (v:=?_) rfl rfl (by kernel_rfl) (by kernel_rfl) (by kernel_rfl) (λ_ _ _ h=>h) (Or.inl ⟨by rfl,?_⟩) (by assumption) ?_
    rotate_left
    ·intro w hSw
     (try dsimp only at hSw)
     go_simp
     first | done | with_reducible rfl
    simp only [Act.put,List.setIfInBounds_toArray,List.set_cons_zero,List.set_cons_succ]
    refine Aj 8 14 (v:=?_) rfl rfl (by kernel_rfl) (by kernel_rfl) (by kernel_rfl) (λ_ _ _ h=>h) (Or.inl ⟨by rfl,?_⟩) (by assumption) ?_
    rotate_left
    ·intro w hSw
     (try dsimp only at hSw)
     go_simp
     first | done | with_reducible rfl
    simp only [Act.put,List.setIfInBounds_toArray,List.set_cons_zero,List.set_cons_succ]
    refine wpAnyH_done (by kernel_rfl) ?_ _
    go_wp2_with fail
    refine (P9 (.agg #[.slice (some ⟨b0,0,none⟩) 74 74,.slice (some ⟨b1,0,none⟩) 10 10,.slice (some ⟨b2,0,none⟩) 11 11,.slice (some ⟨b3,0,none⟩) 42 42]) _ x _ K.out.table CX.out.Dg FX.out RX.out).mono ?_
    rintro e w11 ⟨rfl,hb⟩
    replace t0:=Kc hb t0
    replace t1:=Kc hb t1
    replace t2:=Kc hb t2
    replace t3:=Kc hb t3
    replace CA:=jH (CA.out.Ae hb)
    replace CX:=jH (CX.out.Ae hb)
    replace CY:=jH (CY.out.Ae hb)
    replace K:=jH (K.out.next hb)
    clear hb
    go_wp2_with fail
    refine (same15_any _ _ x _ CX.out.Dg CY.out.Dg NX.out).mono ?_
    rintro e w12 ⟨rfl,hb⟩
    replace t0:=Kc hb t0
    replace t1:=Kc hb t1
    replace t2:=Kc hb t2
    replace t3:=Kc hb t3
    replace CA:=jH (CA.out.Ae hb)
    replace CX:=jH (CX.out.Ae hb)
    replace CY:=jH (CY.out.Ae hb)
    replace K:=jH (K.out.next hb)
    clear hb
    go_wp2
    go_ret
    exact ⟨rfl,K.out.below⟩
  case neg =>
   have hpz:¬ (2000:Int)<(P.size:Int):=by omega
   have hpy:(P.size:Int)<=2000:=by omega
   go_wp2_with fail
   refine (parse_printed (.agg #[.slice (some ⟨b0,0,none⟩) 74 74,.slice (some ⟨b1,0,none⟩) 10 10,.slice (some ⟨b2,0,none⟩) 11 11,.slice (some ⟨b3,0,none⟩) 42 42]) _ K.out.table H1.out F1.out HP.out hp).mono ?_
   rintro e w6 ⟨v1,rfl,o1,hb⟩
   have CL:=jH o1
   clear o1
   replace t0:=Kc hb t0
   replace t1:=Kc hb t1
   replace t2:=Kc hb t2
   replace t3:=Kc hb t3
   replace CA:=jH (CA.out.Ae hb)
   replace K:=jH (K.out.next hb)
   clear hb
   go_wp2_with fail
   refine (same15_any _ v l _ CL.out.Dg CA.out HN.out).mono ?_
   rintro e w7 ⟨rfl,hb⟩
   replace t0:=Kc hb t0
   replace t1:=Kc hb t1
   replace t2:=Kc hb t2
   replace t3:=Kc hb t3
   replace CA:=jH (CA.out.Ae hb)
   replace CL:=jH (CL.out.Ae hb)
   replace K:=jH (K.out.next hb)
   clear hb
   go_wp2_with fail
   refine (Ga (.agg #[.slice (some ⟨b0,0,none⟩) 74 74,.slice (some ⟨b1,0,none⟩) 10 10,.slice (some ⟨b2,0,none⟩) 11 11,.slice (some ⟨b3,0,none⟩) 42 42]) s _ K.out.table hs HQ.out).mono ?_
   rintro e w8 ⟨v2,rfl,o2,hb⟩
   have CX:=jH o2
   clear o2
   replace t0:=Kc hb t0
   replace t1:=Kc hb t1
   replace t2:=Kc hb t2
   replace t3:=Kc hb t3
   replace CA:=jH (CA.out.Ae hb)
   replace CL:=jH (CL.out.Ae hb)
   replace K:=jH (K.out.next hb)
   clear hb
   by_cases hE:E2=0
   case neg =>
    have hE0:(E2 != 0)=true:=by simpa using hE
    obtain rfl:=(Lst.A1g HQ.out).2 hE
    obtain ⟨A2,k2,rfl⟩:=CX.out.slice
    go_wp2
    go_ret
    exact ⟨rfl,K.out.below⟩
   subst hE
   obtain ⟨Fx,Sx,Nx,Rx⟩:=Lst.read_fit (by simpa using hs) HQ.out
   have FX:=jH Fx
   have SX:=jH Sx
   have NX:=jH Nx
   have RX:=jH Rx
   obtain ⟨R,hR⟩:∃ R:ByteArray,R=⟨(Lst.Mn x).toArray⟩:=⟨_,rfl⟩
   have HR:=jH hR
   clear Fx Sx Nx Rx hR
   go_wp2_with fail
   by_cases hlong:2000<R.size
   case pos =>
    replace t0:(World.drew w8).cell? ⟨S,0,none⟩=some (.slice (some ⟨b0,0,none⟩) 74 74):=t0
    replace t1:(World.drew w8).cell? ⟨S,1,none⟩=some (.slice (some ⟨b1,0,none⟩) 10 10):=t1
    replace t2:(World.drew w8).cell? ⟨S,2,none⟩=some (.slice (some ⟨b2,0,none⟩) 11 11):=t2
    replace t3:(World.drew w8).cell? ⟨S,3,none⟩=some (.slice (some ⟨b3,0,none⟩) 42 42):=t3
    replace K:=jH K.out.drew
    replace CA:=jH (CA.out.Ae (Below.refl _ _).drew)
    replace CL:=jH (CL.out.Ae (Below.refl _ _).drew)
    replace CX:=jH (CX.out.Ae (Below.refl _ _).drew)
    refine wp_region_held_drew (S:=(λw':World=>w'.cell? ⟨S,0,none⟩=some (.slice (some ⟨b0,0,none⟩) 74 74)/\w'.cell? ⟨S,1,none⟩=some (.slice (some ⟨b1,0,none⟩) 10 10)/\w'.cell? ⟨S,2,none⟩=some (.slice (some ⟨b2,0,none⟩) 11 11)/\w'.cell? ⟨S,3,none⟩=some (.slice (some ⟨b3,0,none⟩) 42 42))) (by kernel_rfl) ?_ (λhHeld=>?_)
    ·exact ⟨t0,t1,t2,t3⟩
    generalize hwd:(World.drew w8)=d9 at t0 t1 t2 t3 CA CL CX K hHeld ⊢
    clear hwd
    refine Aj 0 76 (v:=?_) rfl rfl (by kernel_rfl) (by kernel_rfl) (by kernel_rfl) (λ_ _ _ h=>h) (Or.inl ⟨by rfl,?_⟩) (by assumption) ?_
    rotate_left
    ·intro w hSw
     (try dsimp only at hSw)
     go_simp
     first | done | with_reducible rfl
    simp only [Act.put,List.setIfInBounds_toArray,List.set_cons_zero,List.set_cons_succ]
    refine Aj 1 77 (v:=?_) rfl rfl (by kernel_rfl) (by kernel_rfl) (by kernel_rfl) (λ_ _ _ h=>h) (Or.inl ⟨by rfl,?_⟩) (by assumption) ?_
    rotate_left
    ·intro w hSw
     (try dsimp only at hSw)
     go_simp
     first | done | with_reducible rfl
    simp only [Act.put,List.setIfInBounds_toArray,List.set_cons_zero,List.set_cons_succ]
    refine wpAnyH_ready (rs:=[2]) (by kernel_rfl) (by simp) ?_
    refine AllReadyH.cons (o:={ dst:=some 78,op:=.call { callee:=.value (.func 14),args:=#[.tmp 77],argTypes:=#[22] },type:=_,pos := "law.go:94", after:=_,guard:=none }) rfl (λK_ hK=>?_) AllReadyH.nil
    (try go_simp)
    go_at_call 14
    refine (print_to _ x _ CX.out.Dg SX.out HR.out).mono ?_
    rintro e w10 ⟨rfl,hb⟩
    replace t0:=Kc hb t0
    replace t1:=Kc hb t1
    replace t2:=Kc hb t2
    replace t3:=Kc hb t3
    replace CA:=jH (CA.out.Ae hb)
    replace CL:=jH (CL.out.Ae hb)
    replace CX:=jH (CX.out.Ae hb)
    replace K:=jH (K.out.next hb)
    clear hb
    go_wp2_with fail
    clear hHeld
    refine hK.out _ _ ?_ (λhHeld=>?_)
    ·exact ⟨t0,t1,t2,t3⟩
    clear hK K_
    refine wpAnyH_ready (rs:=[3]) (by kernel_rfl) (by simp) ?_
    refine AllReadyH.cons (o:={ dst:=some 79,op:=.call { callee:=.value (.func 16),args:=#[.tmp 76,.tmp 78],argTypes:=#[36,9] },type:=_,pos := "law.go:94", after:=_,guard:=none }) rfl (λK_ hK=>?_) AllReadyH.nil
    (try go_simp)
    go_at_call 16
    refine (parse_long (.agg #[.slice (some ⟨b0,0,none⟩) 74 74,.slice (some ⟨b1,0,none⟩) 10 10,.slice (some ⟨b2,0,none⟩) 11 11,.slice (some ⟨b3,0,none⟩) 42 42]) R _ K.out.table hlong).mono ?_
    rintro e w11 ⟨v3,rfl,o3,hb⟩
    have CY:=jH o3
    clear o3
    replace t0:=Kc hb t0
    replace t1:=Kc hb t1
    replace t2:=Kc hb t2
    replace t3:=Kc hb t3
    replace CA:=jH (CA.out.Ae hb)
    replace CL:=jH (CL.out.Ae hb)
    replace CX:=jH (CX.out.Ae hb)
    replace K:=jH (K.out.next hb)
    clear hb
    go_wp2_with fail
    clear hHeld
    refine hK.out _ _ ?_ (λhHeld=>?_)
    ·exact ⟨t0,t1,t2,t3⟩
    clear hK K_
    refine Aj 4 75 (v:=?_) rfl rfl (by kernel_rfl) (by kernel_rfl) (by kernel_rfl) (λ_ _ _ h=>h) (Or.inl ⟨by rfl,?_⟩) (by assumption) ?_
    rotate_left
    ·intro w hSw
     (try dsimp only at hSw)
     go_simp
     first | done | with_reducible rfl
    simp only [Act.put,List.setIfInBounds_toArray,List.set_cons_zero,List.set_cons_succ]
    refine Aj 5 80 (v:=?_) rfl rfl (by kernel_rfl) (by kernel_rfl) (by kernel_rfl) (λ_ _ _ h=>h) (Or.inl ⟨by rfl,?_⟩) (by assumption) ?_
    rotate_left
    ·intro w hSw
     (try dsimp only at hSw)
     go_simp
     first | done | with_reducible rfl
    simp only [Act.put,List.setIfInBounds_toArray,List.set_cons_zero,List.set_cons_succ]
    refine Aj 6 81 (v:=?_) rfl rfl (by kernel_rfl) (by kernel_rfl) (by kernel_rfl) (λ_ _ _ h=>h) (Or.inl ⟨by rfl,?_⟩) (by assumption) ?_
    rotate_left
    ·intro w hSw
     (try dsimp only at hSw)
     go_simp
     first | done | with_reducible rfl
    simp only [Act.put,List.setIfInBounds_toArray,List.set_cons_zero,List.set_cons_succ]
    refine Aj 7 13 (v:=?_) rfl rfl (by kernel_rfl) (by kernel_rfl) (by kernel_rfl) (λ_ _ _ h=>h) (Or.inl ⟨by rfl,?_⟩) (by assumption) ?_
    rotate_left
    ·intro w hSw
     (try dsimp only at hSw)
     go_simp
     first | done | with_reducible rfl
    simp only [Act.put,List.setIfInBounds_toArray,List.set_cons_zero,List.set_cons_succ]
    refine Aj 8 14 (v:=?_) rfl rfl (by kernel_rfl) (by kernel_rfl) (by kernel_rfl) (λ_ _ _ h=>h) (Or.inl ⟨by rfl,?_⟩) (by assumption) ?_
    rotate_left
    ·intro w hSw
     (try dsimp only at hSw)
     go_simp
     first | done | with_reducible rfl
    simp only [Act.put,List.setIfInBounds_toArray,List.set_cons_zero,List.set_cons_succ]
    refine wpAnyH_done (by kernel_rfl) ?_ _
    go_wp2_with fail
    refine (P9 (.agg #[.slice (some ⟨b0,0,none⟩) 74 74,.slice (some ⟨b1,0,none⟩) 10 10,.slice (some ⟨b2,0,none⟩) 11 11,.slice (some ⟨b3,0,none⟩) 42 42]) _ x _ K.out.table CX.out.Dg FX.out RX.out).mono ?_
    rintro e w12 ⟨rfl,hb⟩
    replace t0:=Kc hb t0
    replace t1:=Kc hb t1
    replace t2:=Kc hb t2
    replace t3:=Kc hb t3
    replace CA:=jH (CA.out.Ae hb)
    replace CL:=jH (CL.out.Ae hb)
    replace CX:=jH (CX.out.Ae hb)
    replace CY:=jH (CY.out.Ae hb)
    replace K:=jH (K.out.next hb)
    clear hb
    go_wp2
    go_ret
    exact ⟨rfl,K.out.below⟩
   case neg =>
    replace t0:(World.drew w8).cell? ⟨S,0,none⟩=some (.slice (some ⟨b0,0,none⟩) 74 74):=t0
    replace t1:(World.drew w8).cell? ⟨S,1,none⟩=some (.slice (some ⟨b1,0,none⟩) 10 10):=t1
    replace t2:(World.drew w8).cell? ⟨S,2,none⟩=some (.slice (some ⟨b2,0,none⟩) 11 11):=t2
    replace t3:(World.drew w8).cell? ⟨S,3,none⟩=some (.slice (some ⟨b3,0,none⟩) 42 42):=t3
    replace K:=jH K.out.drew
    replace CA:=jH (CA.out.Ae (Below.refl _ _).drew)
    replace CL:=jH (CL.out.Ae (Below.refl _ _).drew)
    replace CX:=jH (CX.out.Ae (Below.refl _ _).drew)
    refine wp_region_held_drew (S:=(λw':World=>w'.cell? ⟨S,0,none⟩=some (.slice (some ⟨b0,0,none⟩) 74 74)/\w'.cell? ⟨S,1,none⟩=some (.slice (some ⟨b1,0,none⟩) 10 10)/\w'.cell? ⟨S,2,none⟩=some (.slice (some ⟨b2,0,none⟩) 11 11)/\w'.cell? ⟨S,3,none⟩=some (.slice (some ⟨b3,0,none⟩) 42 42))) (by kernel_rfl) ?_ (λhHeld=>?_)
    ·exact ⟨t0,t1,t2,t3⟩
    generalize hwd:(World.drew w8)=d9 at t0 t1 t2 t3 CA CL CX K hHeld ⊢
    clear hwd
    refine Aj 0 76 (v:=?_) rfl rfl (by kernel_rfl) (by kernel_rfl) (by kernel_rfl) (λ_ _ _ h=>h) (Or.inl ⟨by rfl,?_⟩) (by assumption) ?_
    rotate_left
    ·intro w hSw
     (try dsimp only at hSw)
     go_simp
     first | done | with_reducible rfl
    simp only [Act.put,List.setIfInBounds_toArray,List.set_cons_zero,List.set_cons_succ]
    refine Aj 1 77 (v:=?_) rfl rfl (by kernel_rfl) (by kernel_rfl) (by kernel_rfl) (λ_ _ _ h=>h) (Or.inl ⟨by rfl,?_⟩) (by assumption) ?_
    rotate_left
    ·intro w hSw
     (try dsimp only at hSw)
     go_simp
     first | done | with_reducible rfl
    simp only [Act.put,List.setIfInBounds_toArray,List.set_cons_zero,List.set_cons_succ]
    refine wpAnyH_ready (rs:=[2]) (by kernel_rfl) (by simp) ?_
    refine AllReadyH.cons (o:={ dst:=some 78,op:=.call { callee:=.value (.func 14),args:=#[.tmp 77],argTypes:=#[22] },type:=_,pos := "law.go:94", after:=_,guard:=none }) rfl (λK_ hK=>?_) AllReadyH.nil
    (try go_simp)
    go_at_call 14
    refine (print_to _ x _ CX.out.Dg SX.out HR.out).mono ?_
    rintro e w10 ⟨rfl,hb⟩
    replace t0:=Kc hb t0
    replace t1:=Kc hb t1
    replace t2:=Kc hb t2
    replace t3:=Kc hb t3
    replace CA:=jH (CA.out.Ae hb)
    replace CL:=jH (CL.out.Ae hb)
    replace CX:=jH (CX.out.Ae hb)
    replace K:=jH (K.out.next hb)
    clear hb
    go_wp2_with fail
    clear hHeld
    refine hK.out _ _ ?_ (λhHeld=>?_)
    ·exact ⟨t0,t1,t2,t3⟩
    clear hK K_
    refine wpAnyH_ready (rs:=[3]) (by kernel_rfl) (by simp) ?_
    refine AllReadyH.cons (o:={ dst:=some 79,op:=.call { callee:=.value (.func 16),args:=#[.tmp 76,.tmp 78],argTypes:=#[36,9] },type:=_,pos := "law.go:94", after:=_,guard:=none }) rfl (λK_ hK=>?_) AllReadyH.nil
    (try go_simp)
    go_at_call 16
    refine (parse_printed (.agg #[.slice (some ⟨b0,0,none⟩) 74 74,.slice (some ⟨b1,0,none⟩) 10 10,.slice (some ⟨b2,0,none⟩) 11 11,.slice (some ⟨b3,0,none⟩) 42 42]) _ K.out.table RX.out FX.out HR.out hlong).mono ?_
    rintro e w11 ⟨v3,rfl,o3,hb⟩
    have CY:=jH o3
    clear o3
    replace t0:=Kc hb t0
    replace t1:=Kc hb t1
    replace t2:=Kc hb t2
    replace t3:=Kc hb t3
    replace CA:=jH (CA.out.Ae hb)
    replace CL:=jH (CL.out.Ae hb)
    replace CX:=jH (CX.out.Ae hb)
    replace K:=jH (K.out.next hb)
    clear hb
    go_wp2_with fail
    clear hHeld
    refine hK.out _ _ ?_ (λhHeld=>?_)
    ·exact ⟨t0,t1,t2,t3⟩
    clear hK K_
    refine Aj 4 75 (v:=?_) rfl rfl (by kernel_rfl) (by kernel_rfl) (by kernel_rfl) (λ_ _ _ h=>h) (Or.inl ⟨by rfl,?_⟩) (by assumption) ?_
    rotate_left
    ·intro w hSw
     (try dsimp only at hSw)
     go_simp
     first | done | with_reducible rfl
    simp only [Act.put,List.setIfInBounds_toArray,List.set_cons_zero,List.set_cons_succ]
    refine Aj 5 80 (v:=?_) rfl rfl (by kernel_rfl) (by kernel_rfl) (by kernel_rfl) (λ_ _ _ h=>h) (Or.inl ⟨by rfl,?_⟩) (by assumption) ?_
    rotate_left
    ·intro w hSw
     (try dsimp only at hSw)
     go_simp
     first | done | with_reducible rfl
    simp only [Act.put,List.setIfInBounds_toArray,List.set_cons_zero,List.set_cons_succ]
    refine Aj 6 81 (v:=?_) rfl rfl (by kernel_rfl) (by kernel_rfl) (by kernel_rfl) (λ_ _ _ h=>h) (Or.inl ⟨by rfl,?_⟩) (by assumption) ?_
    rotate_left
    ·intro w hSw
     (try dsimp only at hSw)
     go_simp
     first | done | with_reducible rfl
    simp only [Act.put,List.setIfInBounds_toArray,List.set_cons_zero,List.set_cons_succ]
    refine Aj 7 13 (v:=?_) rfl rfl (by kernel_rfl) (by kernel_rfl) (by kernel_rfl) (λ_ _ _ h=>h) (Or.inl ⟨by rfl,?_⟩) (by assumption) ?_
    rotate_left
    ·intro w hSw
     (try dsimp only at hSw)
     go_simp
     first | done | with_reducible rfl
    simp only [Act.put,List.setIfInBounds_toArray,List.set_cons_zero,List.set_cons_succ]
    refine Aj 8 14 (v:=?_) rfl rfl (by kernel_rfl) (by kernel_rfl) (by kernel_rfl) (λ_ _ _ h=>h) (Or.inl ⟨by rfl,?_⟩) (by assumption) ?_
    rotate_left
    ·intro w hSw
     (try dsimp only at hSw)
     go_simp
     first | done | with_reducible rfl
    simp only [Act.put,List.setIfInBounds_toArray,List.set_cons_zero,List.set_cons_succ]
    refine wpAnyH_done (by kernel_rfl) ?_ _
    go_wp2_with fail
    refine (P9 (.agg #[.slice (some ⟨b0,0,none⟩) 74 74,.slice (some ⟨b1,0,none⟩) 10 10,.slice (some ⟨b2,0,none⟩) 11 11,.slice (some ⟨b3,0,none⟩) 42 42]) _ x _ K.out.table CX.out.Dg FX.out RX.out).mono ?_
    rintro e w12 ⟨rfl,hb⟩
    replace t0:=Kc hb t0
    replace t1:=Kc hb t1
    replace t2:=Kc hb t2
    replace t3:=Kc hb t3
    replace CA:=jH (CA.out.Ae hb)
    replace CL:=jH (CL.out.Ae hb)
    replace CX:=jH (CX.out.Ae hb)
    replace CY:=jH (CY.out.Ae hb)
    replace K:=jH (K.out.next hb)
    clear hb
    go_wp2_with fail
    refine (same15_any _ _ x _ CX.out.Dg CY.out.Dg NX.out).mono ?_
    rintro e w13 ⟨rfl,hb⟩
    replace t0:=Kc hb t0
    replace t1:=Kc hb t1
    replace t2:=Kc hb t2
    replace t3:=Kc hb t3
    replace CA:=jH (CA.out.Ae hb)
    replace CL:=jH (CL.out.Ae hb)
    replace CX:=jH (CX.out.Ae hb)
    replace CY:=jH (CY.out.Ae hb)
    replace K:=jH (K.out.next hb)
    clear hb
    go_wp2
    go_ret
    exact ⟨rfl,K.out.below⟩
end
end Go.Proofs.YtickpkccpafjaaaGreatDoor
