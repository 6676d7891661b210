import Derived.Test.YtipkfalbepiphaaGreatDoorSort
set_option maxRecDepth 100000
set_option maxHeartbeats 8000000
namespace Go.Proofs.YtipkfalbepiphaaGreatDoor
open Tryz
section
open Go.RowKit Utf
namespace Norm
def Uy (M:List Int) (i:Nat):Prop:=¬ (0<Ad M[i+1]!/\Ad M[i+1]!<Ad M[i]!)
theorem Aek:∀ {M:List Int},(∀ i,i+1<M.length->Uy M i)->sorted M=true
 | [],_=>rfl
 | [x],_=>rfl
 | x::y::l,h=>by
  have h0:=h 0 jS;have ih:sorted (y::l)=true:=Aek λi hi=>by
   have:=h (i+1) (by simp at hi ⊢;omega);unfold Uy at this ⊢;simpa using this
  unfold Uy at h0;simp only [Nat.zero_add,List.getElem!_cons_zero,List.getElem!_cons_succ] at h0;unfold sorted;rw [ih,Bool.and_true,Bool.not_eq_true',Bool.and_eq_false_iff,decide_eq_false_iff_not,decide_eq_false_iff_not];omega
structure Ord (l M:List Int) (k:Nat):Prop where
 sim:Sim l M
 len:M.length=l.length
 ok:∀ i,i+1<k->i+1<M.length->Uy M i
 ahead:k=0\/M.length<k\/Ad M[k - 1]!<=0
theorem Ord.start (l:List Int):Ord l l 0:=⟨.refl _,rfl,λi h _=>by omega,.inl rfl⟩
theorem Ord.done {l M:List Int} {k:Nat} (h:Ord l M k) (hk:M.length<=k):M=order l:=A0n h.sim (Aek λi hi=>h.ok i jO hi)
theorem Acs (M:List Int) {k e:Nat} (h1:k<=e) (h2:e<=M.length):M=M.take k ++ ((M.take e).drop k ++ M.drop e):=by
 have l1:(M.take k).length=k:=by rw [jak];omega
 have l2:((M.take e).drop k).length=e - k:=by rw [jaj,jak];omega
 refine Xw (by simp only [jab,jaj,l1,l2];omega) λi hi=>?_;by_cases i1:i<k
 · rw [Dk jO,Gd i1]
 rw [C5 jO,l1];by_cases i2:i<e
 · rw [Dk jO,Gc,Gd jO,show k+(i - k)=i by omega]
 rw [C5 jO,l2,Gc,show e+(i - k - (e - k))=i by omega]
theorem Ord.next {l M N:List Int} {k e:Nat} (h:Ord l M k) (h1:k<=e) (h2:e<=M.length) (hm:∀ i,k<=i->i<e->0<Ad M[i]!) (he:e=M.length\/Ad M[e]!<=0)
  (hN:Ar 0 (e - k) ((M.take e).drop k) N) (u:Up N 0 (e - k)):Ord l (M.take k ++ (N ++ M.drop e)) (e+1):=by
 have l1:(M.take k).length=k:=by rw [jak];omega
 have l2:((M.take e).drop k).length=e - k:=by rw [jaj,jak];omega
 have l3:N.length=e - k:=hN.len.trans l2;have b1:∀ i,i<k->(M.take k ++ (N ++ M.drop e))[i]! = M[i]!:=λi hi=>by rw [Dk jO,Gd hi]
 have b2:∀ i,k<=i->i<e->(M.take k ++ (N ++ M.drop e))[i]! = N[i - k]!:=λi h3 h4=>by rw [C5 jO,l1,Dk jO]
 have b3:∀ i,e<=i->(M.take k ++ (N ++ M.drop e))[i]! = M[i]!:=λi h3=>by rw [C5 jO,l1,C5 jO,l3,Gc,show e+(i - k - (e - k))=i by omega]
 have hl:(M.take k ++ (N ++ M.drop e)).length=M.length:=by simp only [jab,jaj,l1,l3];omega
 refine ⟨?_,hl.trans h.len,λi h3 h4=>?_,?_⟩
 ·refine .trans h.sim ?_;have hs:=hN.sim λi _ h4=>by
   rw [Gc,Gd jO];exact hm _ jO jO
  have:=(hs.behind (M.drop e)).ahead (M.take k);rwa [<- Acs M h1 h2] at this
 ·unfold Uy;by_cases c1:i+1<k
  ·rw [b1 i jO,b1 (i+1) c1];exact h.ok i c1 jO
  by_cases c2:i+1=k
  ·rw [b1 i jO];have:=h.ahead;rw [show k - 1=i by omega] at this;intro hh;omega
  by_cases c3:i+1<e
  ·rw [b2 i jO jO,b2 (i+1) jO c3];have:=u (i - k) (i+1 - k) jO jO jO;omega
  ·rw [b3 (i+1) jO];obtain rfl:e=i+1:=jO
   omega
 ·rcases he with rfl | he
  ·right;left;rw [hl];omega
  ·right;right;rw [Nat.add_sub_cancel,b3 e (jaa _)];exact he
end Norm
theorem An0 (t:Value) (x:Int) (w:World) (hT:Table w t):Calls prog 305 #[t,.int .i32 x] w λe w'=>e=.returned (.bool (decide (0<Ad x)))/\Below w.heap.size w w':=by
 have hr:=λW (h:Below w.heap.size w W)=>Ky t x W (hT.below h);obtain ⟨b0,b1,b2,b3,rfl,-,-,-,-⟩:=hT;generalize Ad x=c at hr ⊢;have HF:=jH hr;clear hr;go_enter func305,ntmps305;go_wp2_with fail;refine (HF.out _ ((jan _ w).alloc (jaa _) _)).mono ?_;rintro e w1 ⟨rfl,hb1⟩;have HB:=jH (((jan _ w).alloc (jaa _) _).trans (hb1.mono jS));clear hb1;go_wp2;go_ret;exact ⟨rfl,HB.out⟩
theorem A1k {base g n c:Nat} {M:List Int} {w0 w:World} (h:Av base (.slice (some ⟨g,0,none⟩) n c) M w) (hb:Below base w0 w) (hg:base<=g) {k e:Nat} (h1:k<=e) (h2:e<=M.length) :
  Seg ⟨base,w0,g,k,M.take k,M.drop e,n,c⟩ ((M.take e).drop k) w:=by
 refine ⟨?_,hb,by simp only [jak];omega,hg⟩;simp only;rw [<- Norm.Acs M h1 h2];exact h
theorem Av.cap {base n c:Nat} {A:Option Addr} {l:List Int} {w:World} (h:Av base (.slice A n c) l w):l.length<=c:=by
 obtain ⟨A',c',e,hc,-⟩:=h.Nc.form;injection e with _ _ e2
 omega
theorem Asu {b0 b1 b2 b3:Nat} {w:World} (hT:Table w (.agg #[.slice (some ⟨b0,0,none⟩) 74 74,.slice (some ⟨b1,0,none⟩) 10 10,.slice (some ⟨b2,0,none⟩) 11 11,.slice (some ⟨b3,0,none⟩) 42 42])) :
  Boxed w.heap.size (w.alloc (.cells #[.slice (some ⟨b0,0,none⟩) 74 74,.slice (some ⟨b1,0,none⟩) 10 10,.slice (some ⟨b2,0,none⟩) 11 11,.slice (some ⟨b3,0,none⟩) 42 42] 35)) :=
 ⟨b0,b1,b2,b3,hT.below (Ab _ _),by simp,by go_simp,by go_simp,by go_simp,by go_simp⟩
theorem Auu (t:Value) (v:Value) (l:List Int) (w:World) (hT:Table w t) (hl:Runes v l w) (hn:l.length<=10000):Calls prog 276 #[t,v] w (Jm (Norm.order l) w):=by
 have hT':=hT;obtain ⟨b0,b1,b2,b3,rfl,-,-,-,-⟩:=hT';have HL:=jH hl;obtain ⟨w0,hw0⟩:∃ w0,w0=w.alloc (.cells #[.slice (some ⟨b0,0,none⟩) 74 74,.slice (some ⟨b1,0,none⟩) 10 10,.slice (some ⟨b2,0,none⟩) 11 11,.slice (some ⟨b3,0,none⟩) 42 42] 35):=⟨_,rfl⟩
 have hB0:Below w.heap.size w w0:=by rw [hw0];exact Ab _ _
 have hX0:Boxed w.heap.size w0:=by rw [hw0];exact Asu hT
 have hz0:w0.heap.size=w.heap.size+1:=by rw [hw0];simp
 have HB0:=jH hB0;have HX0:=jH hX0;have HZ0:=jH hz0;have HT:=jH (hT.below hB0);clear hT hl hB0 hX0 hz0;go_enter func276,ntmps276;go_wp2_with (at_builtin;(rw [<- hw0]);refine Amo w0 157 21 (.int .i32 0) 4 underlying157 Bt rfl jO w0.heap.size _ _ _ (World.ownsRow_nil w0 w0.heap.size _ _) (jaa _) jO _ _ (HL.out.Ac HB0.out) (Ad1 _) (by rw [jai];omega) rfl _ _ rfl rfl rfl ?_;intro v2 w2 ho2 hb2;have hO2:Av w0.heap.size v2 l w2:=(Av.more (l:=[]) ho2 rfl (by rw [jai]));obtain ⟨A,c,rfl,hA⟩:=hO2.shape;have O2:=jH hO2;have HA:=jH hA;have B2:=jH hb2;clear ho2 hb2 hO2 hA hw0);go_loopg [7,8] (l.length+2) (λgk sf _ wr=>∃ (k:Nat) (M:List Int),sf=.int .i64 k/\k<=l.length+1/\l.length+1 - k<gk/\Hid (Norm.Ord l M k/\Av w0.heap.size (.slice A l.length c) M wr/\Below w0.heap.size w0 wr))
 case atStart=>exact ⟨0,l,rfl,by omega,by omega,⟨Norm.Ord.start l,O2.out,B2.out⟩⟩
 case round =>
  obtain ⟨k,M,rfl,hkl,hg,I⟩:=hrel;by_cases hlt:k<l.length
  ·obtain ⟨g,rfl,hgb,-⟩:=HA.out jO;have HG:=jH hgb;clear hgb;have hML:=I.out.1.len;have HML:=jH hML;go_wp2;go_loopg [8] (l.length+1) (λgk se wr=>∃ (e:Nat),se=.int .i64 e/\k<=e/\e<=l.length/\l.length - e<gk/\Hid ((∀ i,k<=i->i<e->0<Ad M[i]!)/\Av w0.heap.size (.slice (some ⟨g,0,none⟩) l.length c) M wr/\Below w0.heap.size w0 wr))
   case atStart=>exact ⟨k,rfl,jaa _,by omega,by omega,⟨λi h1 h2=>by omega,I.out.2.1,I.out.2.2⟩⟩
   case round =>
    obtain ⟨e,rfl,hke,hel,hge,J⟩:=hrel;by_cases helt:e<l.length
    ·have hez:(e:Int)<(l.length:Int):=jO
     have g1:(0:Int)<=(e:Int):=jO
     obtain ⟨x,hx⟩:∃ x,x=M[e]!:=⟨_,rfl⟩
     have c1:=J.out.2.1.cell e (by rw [HML.out];exact helt);rw [<- hx] at c1;have hBX:=HX0.out.Ac J.out.2.2;obtain ⟨a0,a1,a2,a3,hTT,hlt0,d0,d1,d2,d3⟩:=hBX;have K:=jH (An0 _ x wr.drew (hTT.below (jan _ wr).drew));have HX:=jH hx;clear hx hTT;by_cases hm:0<Ad x
     ·rw [decide_eq_true hm] at K;have HM:=jH hm;clear hm;go_wp2;go_region_held3 (λw'=>w'.cell? ⟨g,e,none⟩=some (.int .i32 x)/\w'.cell? ⟨w.heap.size,0,none⟩=some (.slice (some ⟨a0,0,none⟩) 74 74)/\w'.cell? ⟨w.heap.size,1,none⟩=some (.slice (some ⟨a1,0,none⟩) 10 10)/\w'.cell? ⟨w.heap.size,2,none⟩=some (.slice (some ⟨a2,0,none⟩) 11 11)/\w'.cell? ⟨w.heap.size,3,none⟩=some (.slice (some ⟨a3,0,none⟩) 42 42)) (go_keep) ((go_at_call 305;(with_reducible refine K.out.mono ?_);rintro e1 w3 ⟨rfl,hb3⟩;have HB3:=jH (Ag hb3);have q1:=(HB3.out.cell (p:=⟨g,e,none⟩) (by exact jam _ _ c1)).trans c1;have q2:=(HB3.out.cell (p:=⟨w.heap.size,0,none⟩) hlt0).trans d0;have q3:=(HB3.out.cell (p:=⟨w.heap.size,1,none⟩) hlt0).trans d1;have q4:=(HB3.out.cell (p:=⟨w.heap.size,2,none⟩) hlt0).trans d2;have q5:=(HB3.out.cell (p:=⟨w.heap.size,3,none⟩) hlt0).trans d3;clear hb3))
      all_goals
       have J2:Hid ((∀ i,k<=i->i<e+1->0<Ad M[i]!)/\Av w0.heap.size (.slice (some ⟨g,0,none⟩) l.length c) M w3/\Below w0.heap.size w0 w3):=by
        refine ⟨λi h1 h2=>?_,J.out.2.1.Ac HB3.out,J.out.2.2.trans (HB3.out.mono J.out.2.2.size)⟩;by_cases hi:i=e
        · rw [hi,<- HX.out];exact HM.out
        · exact J.out.1 i h1 jO
       clear J c1 d0 d1 d2 d3;go_wp2;go_roundg (l.length - e)
       case measure=>omega
       case rel=>exact ⟨e+1,by go_num,by omega,by omega,by omega,J2⟩
     ·rw [decide_eq_false hm] at K;have HM:=jH hm;clear hm;have hcap:=J.out.2.1.cap;have hcz:(e:Int)<=(c:Int):=by have:=HML.out;omega
      have hkz:(k:Int)<=(e:Int):=jO
      go_wp2;go_region_held3 (λw'=>w'.cell? ⟨g,e,none⟩=some (.int .i32 x)/\w'.cell? ⟨w.heap.size,0,none⟩=some (.slice (some ⟨a0,0,none⟩) 74 74)/\w'.cell? ⟨w.heap.size,1,none⟩=some (.slice (some ⟨a1,0,none⟩) 10 10)/\w'.cell? ⟨w.heap.size,2,none⟩=some (.slice (some ⟨a2,0,none⟩) 11 11)/\w'.cell? ⟨w.heap.size,3,none⟩=some (.slice (some ⟨a3,0,none⟩) 42 42)) (go_keep) ((go_at_call 305;(with_reducible refine K.out.mono ?_);rintro e1 w3 ⟨rfl,hb3⟩;have HB3:=jH (Ag hb3);have q1:=(HB3.out.cell (p:=⟨g,e,none⟩) (by exact jam _ _ c1)).trans c1;have q2:=(HB3.out.cell (p:=⟨w.heap.size,0,none⟩) hlt0).trans d0;have q3:=(HB3.out.cell (p:=⟨w.heap.size,1,none⟩) hlt0).trans d1;have q4:=(HB3.out.cell (p:=⟨w.heap.size,2,none⟩) hlt0).trans d2;have q5:=(HB3.out.cell (p:=⟨w.heap.size,3,none⟩) hlt0).trans d3;clear hb3))
      all_goals
       go_wp2_with fail;have hl2:((M.take e).drop k).length=e - k:=by rw [jaj,jak];have:=HML.out;omega
       have hc:=Oj (p:=⟨w0.heap.size,w0,g,k,M.take k,M.drop e,l.length,c⟩) (bt:=w.heap.size) ⟨rfl,HX0.out⟩ ((M.take e).drop k) w3 (A1k (J.out.2.1.Ac HB3.out) (J.out.2.2.trans (HB3.out.mono J.out.2.2.size)) HG.out hke (by have:=HML.out;omega)) (e - k) (c - k) hl2 jO;refine hc.mono ?_;rintro e2 w4 ⟨N,rfl,⟨k4,v4⟩,s4⟩;have J2:Hid (Norm.Ord l (M.take k ++ (N ++ M.drop e)) (e+1)/\Av w0.heap.size (.slice (some ⟨g,0,none⟩) l.length c) (M.take k ++ (N ++ M.drop e)) w4/\Below w0.heap.size w0 w4) :=
        ⟨I.out.1.next hke (by have:=HML.out;omega) J.out.1 (.inr (by rw [<- HX.out];have:=HM.out;omega)) k4 v4,s4.1,s4.2.1⟩
       clear hc k4 v4 s4 hl2;go_wp2;go_roundg (l.length+1 - k)
       case measure=>omega
       case rel=>exact ⟨e+1,_,by go_num,by omega,by omega,J2⟩
    ·obtain rfl:e=l.length:=jO
     have hez:¬ (l.length:Int)<(l.length:Int):=jO
     have hcap:=J.out.2.1.cap;have hcz:(l.length:Int)<=(c:Int):=by have:=HML.out;omega
     have hkz:(k:Int)<=(l.length:Int):=jO
     go_wp2;go_quiet (fail);go_wp2_with fail;have hl2:((M.take l.length).drop k).length=l.length - k:=by rw [jaj,jak];have:=HML.out;omega
     have hc:=Oj (p:=⟨w0.heap.size,w0,g,k,M.take k,M.drop l.length,l.length,c⟩) (bt:=w.heap.size) ⟨rfl,HX0.out⟩ ((M.take l.length).drop k) (wr.drewN nq) (A1k (J.out.2.1.drewN nq) (below_drewN J.out.2.2 nq) HG.out hke (by have:=HML.out;omega)) (l.length - k) (c - k) hl2 jO;refine hc.mono ?_;rintro e2 w4 ⟨N,rfl,⟨k4,v4⟩,s4⟩;have J2:Hid (Norm.Ord l (M.take k ++ (N ++ M.drop l.length)) (l.length+1)/\Av w0.heap.size (.slice (some ⟨g,0,none⟩) l.length c) (M.take k ++ (N ++ M.drop l.length)) w4/\Below w0.heap.size w0 w4) :=
      ⟨I.out.1.next hke (by have:=HML.out;omega) J.out.1 (.inl HML.out.symm) k4 v4,s4.1,s4.2.1⟩
     clear hc k4 v4 s4 hl2;go_wp2;go_roundg (l.length+1 - k)
     case measure=>omega
     case rel=>exact ⟨l.length+1,_,by go_num,by omega,by omega,J2⟩
  ·have hz:¬ (k:Int)<(l.length:Int):=jO
   have hO:=I.out.1.done (by have:=I.out.1.len;omega);have R:Hid (Av w.heap.size (.slice A l.length c) (Norm.order l) wr/\Below w.heap.size w wr):=by
    refine ⟨?_,HB0.out.trans (I.out.2.2.mono HB0.out.size)⟩;rw [<- hO];exact I.out.2.1.lower HB0.out.size
   clear hO;go_wp2;go_ret;exact ⟨_,rfl,R.out.1,R.out.2⟩
end
section
open Go.RowKit Utf
def Lays (base:Nat) (v:Value) (x:List Int) (w:World) (e:Ending) (w':World):Prop:=∃ v',e=.returned v'/\Av base v' x w'/\Cq v v' w w'
theorem Pb (r:Int) (w:World):Calls prog 323 #[.int .i32 r] w λe w'=>e=.returned (.bool (Norm.syl r))/\w=w':=by
 rcases (show r<44032\/(44032<=r/\r<=55203)\/55203<r by omega) with h | ⟨h1,h2⟩ | h
 ·rw [show Norm.syl r=false by unfold Norm.syl;rw [decide_eq_false jO];rfl];have e1:decide (44032<=r)=false:=by simp;omega
  go_enter func323,ntmps323;go_wp2;go_ret;exact ⟨rfl,rfl⟩
 ·rw [(Norm.Cp r).2 ⟨h1,h2⟩];go_enter func323,ntmps323;go_wp2;go_ret;exact ⟨rfl,rfl⟩
 ·have h1:44032<=r:=jO
  rw [show Norm.syl r=false by unfold Norm.syl;rw [decide_eq_true h1,decide_eq_false jO];rfl];have e1:decide (r<=55203)=false:=by simp;omega
  go_enter func323,ntmps323;go_wp2;go_ret;exact ⟨rfl,rfl⟩
theorem Ag6 (base:Nat) (v:Value) (o:List Int) (r:Int) (w:World) (hO:Av base v o w) (hb:base<=w.heap.size) (hl:o.length<=900000) (h:Norm.syl r=true) :
  Calls prog 324 #[v,.int .i32 r] w (Lays base v (o ++ Norm.C9 r) w):=by
 obtain ⟨h1,h2⟩:=(Norm.Cp r).1 h;clear h;have H:=jH (show Norm.C9 r=[4352+(r - 44032) / 588,4449+(r - 44032) % 588 / 28] ++ (if (r - 44032) % 28=0 then [] else [4519+(r - 44032) % 28]) from rfl);have HO:=jH hO;clear hO;by_cases h0:(r - 44032) % 28=0
 ·have h0':((r - 44032) % 28 == 0)=true:=by simpa using h0
  have H0:=jH h0;clear h0;go_enter func324,ntmps324;go_wp2_with (at_builtin;refine Bw w 157 21 (.int .i32 0) 4 underlying157 Bt rfl jO base _ _ _ HO.out hb jO 2 jO _ rfl rfl _ rfl rfl _ _ rfl rfl rfl ?_;intro v2 w2 ho2 hg2;have O2:=jH ho2;have G2:=jH hg2;clear ho2 hg2);go_ret;refine ⟨_,rfl,?_,G2.out⟩;rw [H.out,if_pos H0.out,List.append_nil];exact Av.more O2.out rfl rfl
 ·have h0':((r - 44032) % 28 == 0)=false:=by simpa using h0
  have H0:=jH h0;clear h0;have tok1:True:=trivial;go_enter func324,ntmps324;go_wp2_with (first
   | (at_builtin;have _t:=tok1;refine Bw w 157 21 (.int .i32 0) 4 underlying157 Bt rfl jO base _ _ _ HO.out hb jO 2 jO _ rfl rfl _ rfl rfl _ _ rfl rfl rfl ?_;intro v2 w2 ho2 hg2;have O2:Hid (Av base v2 (o ++ [4352+(r - 44032) / 588,4449+(r - 44032) % 588 / 28]) w2):=jH (Av.more ho2 rfl rfl);have G2:=jH hg2;clear ho2 hg2 tok1)
   | (at_builtin;refine Bw w2 157 21 (.int .i32 0) 4 underlying157 Bt rfl jO base _ _ _ O2.out (Nat.le_trans hb G2.out.size) (by simp;omega) 1 jO _ rfl rfl _ rfl rfl _ _ rfl rfl rfl ?_;intro v3 w3 ho3 hg3;have O3:=jH ho3;have G3:=jH hg3;clear ho3 hg3))
  go_ret;refine ⟨_,rfl,?_,G2.out.trans G3.out⟩;rw [H.out,if_neg H0.out,<- jaq];exact Av.more O3.out rfl rfl
def Ni (base:Nat) (t:Value) (w:World):Prop:=∀ W,Below base w W->Table W t
theorem Ni.next {base:Nat} {t:Value} {w w':World} (h:Ni base t w) (hb:Below base w w'):Ni base t w':=λW hW=>h W (hb.trans hW)
theorem Ni.now {base:Nat} {t:Value} {w:World} (h:Ni base t w):Table w t:=h w (jan _ _)
def Ey (n:Nat) (soft:Bool) (r:Int):Prop:=∀ (base:Nat) (t v:Value) (o:List Int) (w:World),Ni base t w->Av base v o w->base<=w.heap.size->o.length<=n ->
 Calls prog 307 #[t,v,.int .i32 r,.bool soft] w (Lays base v (o ++ Norm.pieces soft r) w)
theorem Awj (soft:Bool) (r:Int) (h:Norm.syl r=true):Ey 800000 soft r:=by
 intro base t v o w hT hO hb hl;have hS:=λW=>Pb r W;rw [h] at hS;have HS:=jH hS;have e:Norm.pieces soft r=Norm.C9 r:=by rw [Norm.Ba,h];rfl
 rw [e];have HC:=jH (λW (hW:Below w.heap.size w W)=>Ag6 base v o r W (hO.Ac hW) (Nat.le_trans hb hW.size) jO h);obtain ⟨b0,b1,b2,b3,rfl,-,-,-,-⟩:=hT.now;clear hS e h hT hO;go_enter func307,ntmps307;go_wp2_with fail;refine (HS.out _).mono ?_;rintro e w1 ⟨rfl,rfl⟩;go_wp2_with fail;refine (HC.out _ (Ab _ _)).mono ?_;rintro e w2 ⟨v2,rfl,ho2,hg2⟩;have R:=jH (And.intro ho2 ((Cq.C7 (Ab w _) v).trans hg2));clear ho2 hg2;go_wp2;go_ret;exact ⟨v2,rfl,R.out.1,R.out.2⟩
theorem Aap (soft:Bool) (r:Int) (h:Norm.syl r=false) (hs:∀ y,Ak r=some y->y.soft=true/\soft=false):Ey 800000 soft r:=by
 intro base t v o w hT hO hb hl;have hS:=λW=>Pb r W;rw [h] at hS;have HS:=jH hS;rw [Akx h hs];have hR:=λW (hW:Below w.heap.size w W)=>Pl t r W (hT W (hW.mono hb));have HO:=jH hO;obtain ⟨b0,b1,b2,b3,rfl,-,-,-,-⟩:=hT.now;clear hT hO;cases ho:Ak r with
 | none =>
  rw [ho] at hR;have HR:=jH hR;clear hS h hs hR ho;go_enter func307,ntmps307;go_wp2_with fail;refine (HS.out _).mono ?_;rintro e w1 ⟨rfl,rfl⟩;go_wp2_with fail;refine (HR.out _ (Ab _ _)).mono ?_;rintro e w2 ⟨rfl,hb2⟩;have B2:=jH (Aa (Ab w _) hb2);clear hb2;simp only [Option.getD_none,Option.isSome_none,Gi];go_wp2_with (at_builtin;refine Bw (w2.alloc _) 157 21 (.int .i32 0) 4 underlying157 Bt rfl jO base _ _ _ (HO.out.Ac (Ap B2.out (jaa _) _)) (Nat.le_trans hb (Ap B2.out (jaa _) _).size) jO 1 jO _ rfl rfl _ jS rfl _ _ rfl rfl rfl ?_;intro v3 w3 ho3 hg3;have O3:Hid (Av base v3 (o ++ [r]) w3):=jH (Av.more ho3 rfl rfl);have G3:=jH ((Cq.C7 (Ap B2.out (jaa _) _) v).trans hg3);clear ho3 hg3);go_ret;exact ⟨_,rfl,O3.out,G3.out⟩
 | some y =>
  obtain ⟨h1,rfl⟩:=hs y ho;rw [ho] at hR;obtain ⟨v0,v1,v2,v3,v4⟩:=y;simp only at h1;subst h1;have HR:=jH hR;clear hS h hs hR ho;go_enter func307,ntmps307;go_wp2_with fail;refine (HS.out _).mono ?_;rintro e w1 ⟨rfl,rfl⟩;go_wp2_with fail;refine (HR.out _ (Ab _ _)).mono ?_;rintro e w2 ⟨rfl,hb2⟩;have B2:=jH (Aa (Ab w _) hb2);clear hb2;simp only [Option.getD_some,Option.isSome_some,Gi];go_wp2_with (at_builtin;refine Bw (w2.alloc _) 157 21 (.int .i32 0) 4 underlying157 Bt rfl jO base _ _ _ (HO.out.Ac (Ap B2.out (jaa _) _)) (Nat.le_trans hb (Ap B2.out (jaa _) _).size) jO 1 jO _ rfl rfl _ jS rfl _ _ rfl rfl rfl ?_;intro v3 w3 ho3 hg3;have O3:Hid (Av base v3 (o ++ [r]) w3):=jH (Av.more ho3 rfl rfl);have G3:=jH ((Cq.C7 (Ap B2.out (jaa _) _) v).trans hg3);clear ho3 hg3);go_ret;exact ⟨_,rfl,O3.out,G3.out⟩
theorem Jn {c0 c1 c2 c3:Value} {w w1:World} (hb:Below (w.alloc (.cells #[c0,c1,c2,c3] 35)).heap.size (w.alloc (.cells #[c0,c1,c2,c3] 35)) w1) :
  w.heap.size<w1.heap.size/\w1.cell? ⟨w.heap.size,0,none⟩=some c0/\w1.cell? ⟨w.heap.size,1,none⟩=some c1/\w1.cell? ⟨w.heap.size,2,none⟩=some c2/\w1.cell? ⟨w.heap.size,3,none⟩=some c3:=by
 have hc:∀ i,w1.cell? ⟨w.heap.size,i,none⟩=_:=λi=>hb.cell (p:=⟨w.heap.size,i,none⟩) (show w.heap.size<_ by simp);exact ⟨by have:=hb.size;simp at this;omega,(hc 0).trans (by go_simp),(hc 1).trans (by go_simp),(hc 2).trans (by go_simp),(hc 3).trans (by go_simp)⟩
theorem Hw {base:Nat} {v v':Value} {o:List Int} {w W W':World} (h:Cq v v' W W') (hO:Av base v o w) {p:Addr} (hp:w.heap.size<=p.block) {x:Value} (hx:W.cell? p=some x):W'.cell? p=some x :=
 (h.cell (jam _ _ hx) (hO.under hp)).trans hx
theorem A1x (n n1:Nat) (soft:Bool) (r:Int) (y:Sp) (h:Norm.syl r=false) (hs:Ak r=some y) (hn:(y.soft && !soft)=false) (hp:(Norm.pieces soft y.one).length<=48) (hnn:n+48<=n1)
  (H1:Ey n1 soft y.one) (H2:Ey n1 soft y.two):Ey n soft r:=by
 intro base t v o w hT hO hb hl;have hS:=λW=>Pb r W;rw [h] at hS;have HS:=jH hS;rw [Au5 h hs hn];have hR:=λW (hW:Below w.heap.size w W)=>Pl t r W (hT W (hW.mono hb));rw [hs] at hR;obtain ⟨v0,v1,v2,v3,v4⟩:=y;simp only at H1 H2 hn hp ⊢;have K1:=jH H1;have K2:=jH H2;have HT:=jH hT;have HO:=jH hO;have HR:=jH hR;obtain ⟨b0,b1,b2,b3,rfl,-,-,-,-⟩:=hT.now;unfold Ey at K1 K2;generalize Norm.pieces soft v1=a at K1 hp ⊢;generalize Norm.pieces soft v2=b at K2 ⊢;have HP:=jH hp;clear hS h hs hR H1 H2 hp hT hO;by_cases h0:v2=0
 ·rw [if_pos h0];subst h0;cases v3<;>cases soft<;>simp only [Bool.not_true,Bool.not_false,Bool.and_true,Bool.and_false,reduceCtorEq] at hn
  all_goals
   clear hn K2;go_enter func307,ntmps307;go_wp2_with fail;refine (HS.out _).mono ?_;rintro e w1 ⟨rfl,rfl⟩;go_wp2_with fail;refine (HR.out _ (Ab _ _)).mono ?_;rintro e w2 ⟨rfl,hb2⟩;have B2:=jH (Aa (Ab w _) hb2);obtain ⟨hz,e0,e1,e2,e3⟩:=Jn hb2;clear hb2;simp only [Option.getD_some,Option.isSome_some,Gi];have W3:=jH (λob=>Ap B2.out (jaa _) ob);go_wp2_with fail;refine (K1.out base _ v o _ (HT.out.next ((W3.out _).mono hb)) (HO.out.Ac (W3.out _)) (Nat.le_trans hb (W3.out _).size) jO).mono ?_;rintro e w3 ⟨v5,rfl,ho3,hg3⟩;have G3:=jH hg3;have O3:=jH ho3;have hz3:w.heap.size<w3.heap.size:=jas (jas hz jS) hg3.size;have hy3:w2.heap.size<w3.heap.size:=jas jS hg3.size;have f0:=Hw hg3 HO.out (p:=⟨w.heap.size,0,none⟩) (jaa _) (Ge _ e0);have f1:=Hw hg3 HO.out (p:=⟨w.heap.size,1,none⟩) (jaa _) (Ge _ e1);have f2:=Hw hg3 HO.out (p:=⟨w.heap.size,2,none⟩) (jaa _) (Ge _ e2);have f3:=Hw hg3 HO.out (p:=⟨w.heap.size,3,none⟩) (jaa _) (Ge _ e3);have f4:w3.cell? ⟨w2.heap.size,2,none⟩=some (.int .i32 0):=Hw hg3 HO.out (p:=⟨w2.heap.size,2,none⟩) (Nat.le_of_lt hz) jS;have G4:=jH ((Cq.C7 (W3.out _) v).trans hg3);clear ho3 hg3 e0 e1 e2 e3;go_wp2;go_ret;exact ⟨_,rfl,by rw [List.append_nil];exact O3.out,G4.out⟩
 ·rw [if_neg h0];have hne:(v2 == 0)=false:=by simpa using h0
  clear h0;cases v3<;>cases soft<;>simp only [Bool.not_true,Bool.not_false,Bool.and_true,Bool.and_false,reduceCtorEq] at hn
  all_goals
   clear hn;go_enter func307,ntmps307;go_wp2_with fail;refine (HS.out _).mono ?_;rintro e w1 ⟨rfl,rfl⟩;go_wp2_with fail;refine (HR.out _ (Ab _ _)).mono ?_;rintro e w2 ⟨rfl,hb2⟩;have B2:=jH (Aa (Ab w _) hb2);obtain ⟨hz,e0,e1,e2,e3⟩:=Jn hb2;clear hb2;simp only [Option.getD_some,Option.isSome_some,Gi];have W3:=jH (λob=>Ap B2.out (jaa _) ob);go_wp2_with fail;refine (K1.out base _ v o _ (HT.out.next ((W3.out _).mono hb)) (HO.out.Ac (W3.out _)) (Nat.le_trans hb (W3.out _).size) jO).mono ?_;rintro e w3 ⟨v5,rfl,ho3,hg3⟩;have G3:=jH hg3;have O3:=jH ho3;have hz3:w.heap.size<w3.heap.size:=jas (jas hz jS) hg3.size;have hy3:w2.heap.size<w3.heap.size:=jas jS hg3.size;have f0:=Hw hg3 HO.out (p:=⟨w.heap.size,0,none⟩) (jaa _) (Ge _ e0);have f1:=Hw hg3 HO.out (p:=⟨w.heap.size,1,none⟩) (jaa _) (Ge _ e1);have f2:=Hw hg3 HO.out (p:=⟨w.heap.size,2,none⟩) (jaa _) (Ge _ e2);have f3:=Hw hg3 HO.out (p:=⟨w.heap.size,3,none⟩) (jaa _) (Ge _ e3);have f4:w3.cell? ⟨w2.heap.size,2,none⟩=some (.int .i32 v2):=Hw hg3 HO.out (p:=⟨w2.heap.size,2,none⟩) (Nat.le_of_lt hz) jS;have G4:=jH ((Cq.C7 (W3.out _) v).trans hg3);clear ho3 hg3 e0 e1 e2 e3;go_wp2_with fail;refine (K2.out base _ v5 (o ++ a) _ (HT.out.next (G4.out.below hb HO.out.off)) O3.out (Nat.le_trans hb (Nat.le_of_lt hz3)) (by rw [jab];have:=HP.out;omega)).mono ?_;rintro e w6 ⟨v6,rfl,ho6,hg6⟩;have R:=jH (And.intro ho6 (G4.out.trans hg6))
   clear ho6 hg6;go_wp2;go_ret;refine ⟨_,rfl,?_,R.out.2⟩;rw [<- jaq];exact R.out.1
theorem Aam (n n1:Nat) (h8:n<=800000) (hnn:n+48<=n1) (soft:Bool) (r:Int) (H:∀ y,Ak r=some y->Ey n1 soft y.one/\Ey n1 soft y.two):Ey n soft r:=by
 have weak:Ey 800000 soft r->Ey n soft r:=λh base t v o w h1 h2 h3 h4=>h base t v o w h1 h2 h3 jO;cases hS:Norm.syl r with
 | true=>exact weak (Awj soft r hS)
 | false =>
  cases hs:Ak r with
  | none=>exact weak (Aap soft r hS λy hy=>by rw [hs] at hy;cases hy)
  | some y =>
   cases hn:(y.soft && !soft) with
   | true =>
    refine weak (Aap soft r hS λz hz=>?_);rw [hs] at hz;obtain rfl:=Option.some.inj hz;simpa using hn
   | false =>
    obtain ⟨h1,h2⟩:=H y hs;exact A1x n n1 soft r y hS hs hn (Ao4 _ _) hnn h1 h2
theorem Wf (soft:Bool) (r:Int) (h:flat r=true):Ey 700000 soft r :=
 Aam 700000 800000 jO jO soft r λy hy=>by unfold flat at h;rw [hy] at h;cases h
theorem Wg (soft:Bool) (r:Int) (h:Vw r=true):Ey 600000 soft r :=
 Aam 600000 700000 jO jO soft r λy hy=>by
  unfold Vw at h;rw [hy] at h;simp only [jag] at h;exact ⟨Wf soft _ h.1,Wf soft _ h.2⟩
theorem Ag5 (soft:Bool) (r:Int):Ey 500000 soft r :=
 Aam 500000 600000 jO jO soft r λ_ hy=>⟨Wg soft _ (Aan hy).1,Wg soft _ (Aan hy).2⟩
end
section
open Go.RowKit Utf
theorem Adr {w w1:World} (h:w.grownBy w1 none):Below w.heap.size w w1:=⟨h.os,h.tape,h.output,h.size,λk hk=>h.block k hk jS⟩
theorem Ag4 (t v:Value) (l:List Int) (soft:Bool) (w:World) (hT:Table w t) (hl:Runes v l w) (hn:l.length<=10000):Calls prog 277 #[t,v,.bool soft] w (Jm (Norm.split soft l) w):=by
 have hT':=hT;obtain ⟨b0,b1,b2,b3,rfl,-,-,-,-⟩:=hT';obtain ⟨A,c,rfl,hc,hcell⟩:=hl.form;have HC:=jH hcell;have HT:=jH (show Ni w.heap.size _ w from λW hW=>hT.below hW);obtain ⟨i0,hi0,hz0,hs0,hb0⟩:=info_parts Bt;have hby:i0.bytes*l.length<=281474976710656:=by rw [hb0];omega
 clear hT hl hcell;go_enter func277,ntmps277;go_wp2_with (at_make;refine wpList_make_own _ rfl _ _ 157 rfl w.heap.size 21 i0 (.int .i32 0) 1 underlying157 hi0 hz0 hs0 _ _ _ l.length rfl rfl rfl hby (by simp only [maxLen];omega) jS ?_;intro w1 ho1 hg1);have hb1:=Adr hg1;obtain ⟨hz1,e0,e1,e2,e3⟩:=Jn hb1;have hsz1:w.heap.size+1<w1.heap.size:=by have:=(World.ownsRow.lt ho1 (w.heap.size+1) (by simp [Value.ownBlock])).2;omega
 have E:=jH (And.intro e0 (And.intro e1 (And.intro e2 e3)));have B1:=jH (Aa (Ab w _) hb1);have O1:Hid (Av w.heap.size (.slice (some ⟨w.heap.size+1,0,none⟩) 0 l.length) [] w1):=jH (by simpa [Av] using ho1);clear hb1 hg1 ho1 e0 e1 e2 e3 hby hb0 hs0 hz0 hi0;go_loopg [7,9,15] (l.length+1) (λgk v _ i wr=>∃ k:Nat,k<=l.length/\i=.int .i64 k/\l.length - k<gk/\Hid (Av w.heap.size v (Norm.split soft (l.take k)) wr/\Cq (.slice (some ⟨w.heap.size+1,0,none⟩) 0 l.length) v w1 wr))
 case atStart=>exact ⟨0,Nat.zero_le _,rfl,by omega,⟨O1.out,Cq.refl _ _⟩⟩
 case round =>
  obtain ⟨k,hk,rfl,hg,I⟩:=hrel;have hBW:=B1.out.trans (I.out.2.below (base:=w.heap.size) jO (λj hj=>by simp [Value.ownBlock] at hj;omega));have BW:=jH hBW;by_cases hlt:k<l.length
  ·obtain ⟨ad,rfl,hb,hx⟩:=HC.out k hlt;have hx':=(hBW.cell (by rw [Bf];exact hb)).trans hx;obtain ⟨x,hxe⟩:∃ x,x=l[k]!:=⟨_,rfl⟩
   rw [<- hxe] at hx';have HX:=jH hxe;have hkz:(k:Int)<(l.length:Int):=jO
   have hwz:w.heap.size<wr.heap.size:=by have:=I.out.2.size;omega
   have f0:=(I.out.2.cell (p:=⟨w.heap.size,0,none⟩) hz1 (by simp [Value.ownBlock])).trans E.out.1;have f1:=(I.out.2.cell (p:=⟨w.heap.size,1,none⟩) hz1 (by simp [Value.ownBlock])).trans E.out.2.1;have f2:=(I.out.2.cell (p:=⟨w.heap.size,2,none⟩) hz1 (by simp [Value.ownBlock])).trans E.out.2.2.1;have f3:=(I.out.2.cell (p:=⟨w.heap.size,3,none⟩) hz1 (by simp [Value.ownBlock])).trans E.out.2.2.2;have K:=jH (Ag5 soft x w.heap.size _ u7 _ wr (HT.out.next hBW) I.out.1 (Nat.le_of_lt hwz) (by have:=Awh soft (l.take k);rw [jak] at this;omega));clear hx hb hxe hBW;go_wp2_with fail;refine K.out.mono ?_;rintro e w3 ⟨v3,rfl,ho3,hg3⟩;have I2:Hid (Av w.heap.size v3 (Norm.split soft (l.take (k+1))) w3/\Cq (.slice (some ⟨w.heap.size+1,0,none⟩) 0 l.length) v3 w1 w3):=by
    refine ⟨?_,I.out.2.trans hg3⟩;rw [Jj l k hlt,Apy,<- HX.out];exact ho3
   clear ho3 hg3 K f0 f1 f2 f3;go_wp2;go_roundg (l.length - k)
   case measure=>omega
   case rel=>exact ⟨k+1,by omega,by go_num,by omega,I2⟩
  ·obtain rfl:k=l.length:=jO
   clear hBW;go_wp2;go_ret;have h:=I.out.1;rw [List.take_length] at h;exact ⟨_,rfl,h,BW.out⟩
end
section
open Go.RowKit Utf
namespace Norm
def Abl (a b:Int):Option Int :=
 if 4352<=a/\a<=4370/\4449<=b/\b<=4469 then some (44032+(a - 4352)*588+(b - 4449)*28)
 else if 44032<=a/\a<=55203/\(a - 44032) % 28=0/\4520<=b/\b<=4546 then some (a+b - 4519)
 else none
theorem Av2:∀ y ∈ splits,¬ (4352<=y.one/\y.one<=4370)/\¬ (44032<=y.one/\y.one<=55203):=by decide +kernel
theorem Apw {x:Int} {y:Sp} (h:Ak x=some y):¬ (4352<=y.one/\y.one<=4370)/\¬ (44032<=y.one/\y.one<=55203):=by
 rcases Bn h with ⟨hy,rfl⟩ | ⟨hw,rfl⟩
 ·exact Av2 y hy
 ·simp only [Bp,jag,decide_eq_true_eq] at hw;simp only;omega
theorem Aoi {a b x:Int} (h:Gv a b=some x):D8 a b=some x:=by
 obtain ⟨y,hy,rfl,rfl,-⟩:=F8 h;have:=Apw hy;rw [Aru jO jO,h]
theorem Aoh {a b:Int} (h:Gv a b=none):D8 a b=Abl a b:=by
 unfold Abl;by_cases h1:4352<=a/\a<=4370/\4449<=b/\b<=4469
 ·rw [if_pos h1,A6y h1]
 ·rw [if_neg h1];by_cases h2:44032<=a/\a<=55203/\(a - 44032) % 28=0/\4520<=b/\b<=4546
  · rw [if_pos h2,A6b h2]
  · rw [if_neg h2,Aru h1 h2,h]
theorem A3p {a b:Int} (h:4352<=a/\a<=4370/\4449<=b/\b<=4469):Abl a b=some (44032+(a - 4352)*588+(b - 4449)*28):=by unfold Abl;rw [if_pos h]
theorem Azc {a b:Int} (h:44032<=a/\a<=55203/\(a - 44032) % 28=0/\4520<=b/\b<=4546):Abl a b=some (a+b - 4519):=by unfold Abl;rw [if_neg jO,if_pos h]
theorem Arh {a b:Int} (h1:¬ (4352<=a/\a<=4370/\4449<=b/\b<=4469)) (h2:¬ (44032<=a/\a<=55203/\(a - 44032) % 28=0/\4520<=b/\b<=4546)):Abl a b=none:=by unfold Abl;rw [if_neg h1,if_neg h2]
end Norm
def Asi (o:Option Int) (w:World) (e:Ending) (w':World):Prop:=e=.returned (.tuple #[.int .i32 (o.getD 0),.bool o.isSome])/\w=w'
theorem Ajf (a b:Int) (w:World):Calls prog 311 #[.int .i32 a,.int .i32 b] w (Asi (Norm.Abl a b) w):=by
 have hS:=λW=>Pb a W;cases hsy:Norm.syl a with
 | true =>
  obtain ⟨h1,h2⟩:=(Norm.Cp a).1 hsy;rw [hsy] at hS;have HS:=jH hS;clear hS hsy;go_enter func311,ntmps311;go_wp2_with (go_at_call 323;refine (HS.out _).mono ?_;rintro e w1 ⟨rfl,rfl⟩)
  all_goals go_ret2
  all_goals first
   | exact ⟨by rw [Norm.Azc jO];rfl,rfl⟩
   | exact ⟨by rw [Norm.Arh jO jO];rfl,rfl⟩
 | false =>
  have hno:¬ (44032<=a/\a<=55203):=λh=>by rw [(Norm.Cp a).2 h] at hsy;cases hsy
  have HNO:=jH hno;rw [hsy] at hS;have HS:=jH hS;clear hS hsy hno;go_enter func311,ntmps311;go_wp2_with (go_at_call 323;refine (HS.out _).mono ?_;rintro e w1 ⟨rfl,rfl⟩)
  all_goals go_ret2
  all_goals first
   | exact ⟨by rw [Norm.A3p jO];rfl,rfl⟩
   | exact ⟨by rw [Norm.Arh jO (by have:=HNO.out;omega)];rfl,rfl⟩
theorem Nz (t:Value) (a b:Int) (w:World) (hT:Table w t):Calls prog 279 #[t,.int .i32 a,.int .i32 b] w (Ab8 (Norm.D8 a b) w):=by
 have hP:=λW (h:Below w.heap.size w W)=>A0o t a b W (hT.below h);obtain ⟨b0,b1,b2,b3,rfl,-,-,-,-⟩:=hT;cases ho:Gv a b with
 | some x =>
  rw [Norm.Aoi ho];rw [ho] at hP;have HP:=jH hP;clear hP ho;go_enter func279,ntmps279;go_wp2_with fail;refine (HP.out _ (Ab _ _)).mono ?_;rintro e w1 ⟨rfl,hb1⟩;have B:=jH (Aa (Ab w _) hb1);clear hb1;simp only [Option.getD_some,Option.isSome_some];go_wp2;go_ret2;exact ⟨rfl,B.out⟩
 | none =>
  rw [Norm.Aoh ho];rw [ho] at hP;have HP:=jH hP;have HJ:=jH (λW=>Ajf a b W);generalize Norm.Abl a b=o at HJ ⊢;clear hP ho;go_enter func279,ntmps279;go_wp2_with fail;refine (HP.out _ (Ab _ _)).mono ?_;rintro e w1 ⟨rfl,hb1⟩;have B:=jH (Aa (Ab w _) hb1);clear hb1;simp only [Option.getD_none,Option.isSome_none];go_wp2_with fail;refine (HJ.out _).mono ?_;rintro e w2 ⟨rfl,rfl⟩;go_wp2;go_ret2;exact ⟨rfl,B.out⟩
end
section
open Go.RowKit Utf
namespace Norm
def big (M:List Int):Int:=M.foldl (λb y=>max b (Ad y)) 0
theorem Ax0 (M:List Int) (x:Int):big (M ++ [x])=max (big M) (Ad x):=by unfold big;rw [List.foldl_append];rfl
theorem Afy:∀ (M:List Int) (b c:Int),M.foldl (λb y=>max b (Ad y)) b<c ↔ b<c/\∀ y ∈ M,Ad y<c
 | [],b,c=>by simp
 | y::M,b,c=>by
  rw [List.foldl_cons,Afy M];simp only [jal,forall_eq_or_imp];constructor
  · rintro ⟨h1,h2⟩;exact ⟨by omega,by omega,h2⟩
  · rintro ⟨h1,h2,h3⟩;exact ⟨by omega,h3⟩
theorem A5g {M:List Int} {c:Int} (hM:∀ y ∈ M,0<Ad y) (hne:M ≠ []):big M<c ↔ M.all (λy=>decide (Ad y<c))=true:=by
 unfold big;rw [Afy,jar];constructor
 ·rintro ⟨_,h⟩ y hy;exact decide_eq_true (h y hy)
 ·intro h;refine ⟨?_,λy hy=>of_decide_eq_true (h y hy)⟩;cases M with
  | nil=>exact absurd rfl hne
  | cons y t=>have:=hM y jS;have:=of_decide_eq_true (h y jS);omega
theorem Am1 (M:List Int):0<=big M:=by
 rcases Int.lt_or_le (big M) 0 with h | h
 · exact absurd ((Afy M 0 0).1 h).1 jO
 · exact h
theorem Auh {a b z:Int} (h:D8 a b=some z):¬ 0<Ad z:=by
 intro hc;have:=Mp false hc;cases hs:syl z with
 | true=>rw [Ar7 hs] at hc;omega
 | false =>
  unfold D8 at h;by_cases h1:4352<=a/\a<=4370/\4449<=b/\b<=4469
  ·rw [if_pos h1] at h;have hx:=(Option.some.inj h).symm;rw [(Cp z).2 jO] at hs;cases hs
  ·rw [if_neg h1] at h;by_cases h2:syl a=true/\(a - 44032) % 28=0/\4520<=b/\b<=4546
   ·rw [if_pos h2] at h;have hx:=(Option.some.inj h).symm;have ha:=(Cp a).1 h2.1;rw [(Cp z).2 jO] at hs;cases hs
   ·rw [if_neg h2] at h;obtain ⟨y,hy,-⟩:=F8 h;have:=Wh hy;simp only [Ss,decide_eq_true_eq] at this;omega
inductive At:List Int->Int->Int->Prop
 | none (o:List Int) (bw:Int):(∀ y ∈ o,0<Ad y)->At o (-1) bw
 | some (o Q:List Int) (s:Int) (M:List Int):o=Q ++ s::M->¬ 0<Ad s->(∀ y ∈ M,0<Ad y)->At o Q.length (big M)
theorem At.plain {o:List Int} (x:Int) (hx:¬ 0<Ad x):At (o ++ [x]) o.length 0:=At.some _ o x [] rfl hx (λy hy=>by cases hy)
theorem At.mark {Q M:List Int} {s:Int} (x:Int) (hs:¬ 0<Ad s) (hM:∀ y ∈ M,0<Ad y) (hx:0<Ad x):At ((Q ++ s::M) ++ [x]) Q.length (max (big M) (Ad x)):=by
 rw [<- Ax0,jaq];refine At.some _ Q s (M ++ [x]) rfl hs λy hy=>?_;rcases jap.1 hy with h | h
 · exact hM y h
 · rw [List.mem_singleton] at h;rw [h];exact hx
theorem At.marks {o:List Int} (x:Int) (bw:Int) (ho:∀ y ∈ o,0<Ad y) (hx:0<Ad x):At (o ++ [x]) (-1) bw:=by
 refine At.none _ bw λy hy=>?_;rcases jap.1 hy with h | h
 · exact ho y h
 · rw [List.mem_singleton] at h;rw [h];exact hx
theorem At.made {Q M:List Int} {s x z:Int} (hM:∀ y ∈ M,0<Ad y) (h:D8 s x=Option.some z):At (Q ++ z::M) Q.length (big M):=At.some _ Q z M rfl (Auh h) hM
end Norm
theorem Ajd (t v:Value) (l:List Int) (w:World) (hT:Table w t) (hl:Runes v l w) (hn:l.length<=10000):Calls prog 248 #[t,v] w (Jm (Norm.join l) w):=by
 have hT':=hT;obtain ⟨b0,b1,b2,b3,rfl,-,-,-,-⟩:=hT';obtain ⟨A,c,rfl,hc,hcell⟩:=hl.form;have HC:=jH hcell;have HT:=jH (show Ni w.heap.size _ w from λW hW=>hT.below hW);obtain ⟨i0,hi0,hz0,hs0,hb0⟩:=info_parts Bt;have hby:i0.bytes*l.length<=281474976710656:=by rw [hb0];omega
 clear hT hl hcell;go_enter func248,ntmps248;go_wp2_with (at_make;refine wpList_make_own _ rfl _ _ 157 rfl w.heap.size 21 i0 (.int .i32 0) 1 underlying157 hi0 hz0 hs0 _ _ _ l.length rfl rfl rfl hby (by simp only [maxLen];omega) jS ?_;intro w1 ho1 hg1);have hb1:=Adr hg1;obtain ⟨hz1,e0,e1,e2,e3⟩:=Jn hb1;have hsz1:w.heap.size+1<w1.heap.size:=by have:=(World.ownsRow.lt ho1 (w.heap.size+1) (by simp [Value.ownBlock])).2;omega
 have E:=jH (And.intro e0 (And.intro e1 (And.intro e2 e3)));have B1:=jH (Aa (Ab w _) hb1);have O1:Hid (Av w.heap.size (.slice (some ⟨w.heap.size+1,0,none⟩) 0 l.length) [] w1):=jH (by simpa [Av] using ho1);clear hb1 hg1 ho1 e0 e1 e2 e3 hby hb0 hs0 hz0 hi0;go_loopg [5,6,7,9,10,11,12,18] (l.length+1) (λgk v sb sw _ _ _ _ i wr=>∃ (k:Nat) (bs bw:Int),k<=l.length/\i=.int .i64 k/\sb=.int .i64 bs/\sw=.int .i64 bw/\l.length - k<gk/\Hid (Av w.heap.size v (Norm.join (l.take k)) wr/\Cq (.slice (some ⟨w.heap.size+1,0,none⟩) 0 l.length) v w1 wr/\Norm.At (Norm.join (l.take k)) bs bw))
 case atStart=>exact ⟨0,-1,0,Nat.zero_le _,rfl,rfl,rfl,by omega,⟨O1.out,Cq.refl _ _,Norm.At.none _ _ (λy hy=>by cases hy)⟩⟩
 case round =>
  obtain ⟨k,bs,bw,hk,rfl,rfl,rfl,hg,I⟩:=hrel;have hBW:=B1.out.trans (I.out.2.1.below (base:=w.heap.size) jO (λj hj=>by simp [Value.ownBlock] at hj;omega));have BW:=jH hBW;by_cases hlt:k<l.length
  ·obtain ⟨ad,rfl,hb,hx⟩:=HC.out k hlt;have hx':=(hBW.cell (by rw [Bf];exact hb)).trans hx;obtain ⟨x,hxe⟩:∃ x,x=l[k]!:=⟨_,rfl⟩
   rw [<- hxe] at hx';have hol:=Norm.Y6 l k hk;have hjt:=Norm.Adi l k hlt;rw [<- hxe] at hjt;generalize Norm.join (l.take k)=o at I hol hjt;have HJ:=jH hjt;have hkz:(k:Int)<(l.length:Int):=jO
   have hwz:w.heap.size<wr.heap.size:=by have:=I.out.2.1.size;omega
   have f0:=(I.out.2.1.cell (p:=⟨w.heap.size,0,none⟩) hz1 (by simp [Value.ownBlock])).trans E.out.1;have f1:=(I.out.2.1.cell (p:=⟨w.heap.size,1,none⟩) hz1 (by simp [Value.ownBlock])).trans E.out.2.1;have f2:=(I.out.2.1.cell (p:=⟨w.heap.size,2,none⟩) hz1 (by simp [Value.ownBlock])).trans E.out.2.2.1;have f3:=(I.out.2.1.cell (p:=⟨w.heap.size,3,none⟩) hz1 (by simp [Value.ownBlock])).trans E.out.2.2.2;have KC:=jH (Ky _ x wr (HT.out.next hBW).now);obtain ⟨cx,hcx⟩:∃ cx,cx=Ad x:=⟨_,rfl⟩
   rw [<- hcx] at KC;have HCX:=jH hcx;have HI:=jH (And.intro I.out.1 I.out.2.1);have hAt:=I.out.2.2;obtain ⟨A2,c2,hsl,hA2⟩:=HI.out.1.shape;have HA2:=jH hA2;subst hsl;have hol2:o.length<=900000:=jO
   clear hx hb hxe hBW hjt hcx I hA2;cases hAt with
   | none _ hm =>
    have NX:=jH (Norm.Aup x hm);have HMM:=jH hm;clear hm;go_wp2_with fail;refine KC.out.mono ?_;rintro e w3 ⟨rfl,hb3⟩;have B3:=jH hb3;have O3:=jH (HI.out.1.Ac hb3);have G3:=jH (HI.out.2.trans (Cq.C7 hb3 _));clear hb3 KC;by_cases hp:0<cx
    ·have HPX:=jH (show 0<Ad x by rw [<- HCX.out];exact hp);go_wp2_with (at_builtin;refine Bw w3 157 21 (.int .i32 0) 4 underlying157 Bt rfl jO w.heap.size _ _ _ O3.out (Nat.le_trans (Nat.le_of_lt hwz) B3.out.size) jO 1 jO _ rfl rfl _ rfl rfl _ _ rfl rfl rfl ?_;intro v5 w5 ho5 hg5;have O5:=jH ho5;have G5:=jH (G3.out.trans hg5);clear ho5 hg5)
     all_goals
      have I2:Hid (Av w.heap.size v5 (Norm.join (l.take (k+1))) w5/\Cq (.slice (some ⟨w.heap.size+1,0,none⟩) 0 l.length) v5 w1 w5/\Norm.At (Norm.join (l.take (k+1))) (-1) (max bw cx)):=by
       refine ⟨?_,G5.out,?_⟩
       ·rw [HJ.out,NX.out];exact Av.more O5.out rfl rfl
       ·rw [HJ.out,NX.out];exact Norm.At.marks x _ HMM.out HPX.out
      go_roundg (l.length - k)
      case measure=>omega
      case rel=>exact ⟨k+1,(-1),(max bw cx),by omega,by go_num,rfl,by first | rfl | (congr 1;omega),by omega,I2⟩
    ·have hp0:cx<=0:=jO
     have HPX:=jH (show ¬ 0<Ad x by rw [<- HCX.out];exact hp);go_wp2_with (at_builtin;refine Bw w3 157 21 (.int .i32 0) 4 underlying157 Bt rfl jO w.heap.size _ _ _ O3.out (Nat.le_trans (Nat.le_of_lt hwz) B3.out.size) jO 1 jO _ rfl rfl _ rfl rfl _ _ rfl rfl rfl ?_;intro v5 w5 ho5 hg5;have O5:=jH ho5;have G5:=jH (G3.out.trans hg5);clear ho5 hg5)
     all_goals
      have I2:Hid (Av w.heap.size v5 (Norm.join (l.take (k+1))) w5/\Cq (.slice (some ⟨w.heap.size+1,0,none⟩) 0 l.length) v5 w1 w5/\Norm.At (Norm.join (l.take (k+1))) o.length 0):=by
       refine ⟨?_,G5.out,?_⟩
       ·rw [HJ.out,NX.out];exact Av.more O5.out rfl rfl
       ·rw [HJ.out,NX.out];exact Norm.At.plain x (by have:=HPX.out;omega)
      go_roundg (l.length - k)
      case measure=>omega
      case rel=>exact ⟨k+1,o.length,0,by omega,by go_num,rfl,rfl,by omega,I2⟩
   | some Q s M hoe hs hm =>
    have hlen:o.length=Q.length+1+M.length:=by rw [hoe,jab,jac];omega
    obtain ⟨g,rfl,-,-⟩:=HA2.out jO;clear HA2;have hql:Q.length<o.length:=jO
    have NA:=jH (Norm.A35 (Q:=Q) s x hm hs);rw [<- hoe] at NA;have HMM:=jH hm;have HSS:=jH hs;have hbb:=Norm.Am1 M;have HOE:=jH hoe;have hq0:(0:Int)<=(Q.length:Int):=jO
    have hqz:(Q.length:Int)<(o.length:Int):=jO
    have BL:=jH (λ(c:Int) (h:M ≠ [])=>Norm.A5g (c:=c) hm h);have HAM:=jH (λ(h:0<Ad x)=>Norm.At.mark (Q:=Q) x hs hm h);obtain ⟨bg,hbg⟩:∃ bg,bg=Norm.big M:=⟨_,rfl⟩
    rw [<- hbg] at hbb ⊢;have HBG:=jH hbg;by_cases hM0:M=[]
    ·have hbe:((Q.length:Int) == (o.length:Int) - 1)=true:=by rw [beq_iff_eq,hlen,hM0];simp
     have FR:=jH (show M.all (λy=>decide (Ad y<Ad x))=true by rw [hM0];rfl);have HM0:=jH hM0;clear hs hm hoe hlen hbg hM0;by_cases hp:0<cx
     ·go_wp2_with fail;refine KC.out.mono ?_;rintro e w3 ⟨rfl,hb3⟩;have B3:=jH hb3;have O3:=jH (HI.out.1.Ac hb3);have G3:=jH (HI.out.2.trans (Cq.C7 hb3 _));clear hb3 KC;have hz3:w.heap.size<w3.heap.size:=jas hwz B3.out.size;have k0:=(B3.out.cell (p:=⟨w.heap.size,0,none⟩) hwz).trans f0;have k1:=(B3.out.cell (p:=⟨w.heap.size,1,none⟩) hwz).trans f1;have k2:=(B3.out.cell (p:=⟨w.heap.size,2,none⟩) hwz).trans f2;have k3:=(B3.out.cell (p:=⟨w.heap.size,3,none⟩) hwz).trans f3;have cs:=O3.out.cell Q.length hql;rw [show o[Q.length]! = s by rw [HOE.out,Norm.Lr]] at cs;have KM:=jH (Nz _ s x w3.drew ((HT.out.next (BW.out.trans (B3.out.mono BW.out.size))).now.below (jan _ w3).drew));clear f0 f1 f2 f3;cases hmk:Norm.D8 s x with
      | none =>
       have NX:=jH (show Norm.next o x=o ++ [x] by rw [NA.out,if_pos FR.out,hmk,HOE.out]);rw [hmk] at KM;clear hmk;go_wp2;go_region_held3 (λw'=>w'.cell? ⟨g,Q.length,none⟩=some (.int .i32 s)/\w'.cell? ⟨w.heap.size,0,none⟩=some (.slice (some ⟨b0,0,none⟩) 74 74)/\w'.cell? ⟨w.heap.size,1,none⟩=some (.slice (some ⟨b1,0,none⟩) 10 10)/\w'.cell? ⟨w.heap.size,2,none⟩=some (.slice (some ⟨b2,0,none⟩) 11 11)/\w'.cell? ⟨w.heap.size,3,none⟩=some (.slice (some ⟨b3,0,none⟩) 42 42)) (go_keep) ((go_at_call 279;(with_reducible refine KM.out.mono ?_);rintro e1 w4 ⟨rfl,hb4⟩;have HB4:=jH (Ag hb4);have B4:=jH (B3.out.trans (HB4.out.mono B3.out.size));have O4:=jH (O3.out.Ac HB4.out);have G4:=jH (G3.out.trans (Cq.C7 HB4.out _));have q1:=O4.out.cell Q.length hql;(rw [show o[Q.length]! = s by rw [HOE.out,Norm.Lr]] at q1);have fr4:=O4.out.free Q.length;have q2:=(HB4.out.cell (p:=⟨w.heap.size,0,none⟩) hz3).trans k0;have q3:=(HB4.out.cell (p:=⟨w.heap.size,1,none⟩) hz3).trans k1;have q4:=(HB4.out.cell (p:=⟨w.heap.size,2,none⟩) hz3).trans k2;have q5:=(HB4.out.cell (p:=⟨w.heap.size,3,none⟩) hz3).trans k3;clear hb4 cs k0 k1 k2 k3))
       all_goals
        have HPX:=jH (show 0<Ad x by rw [<- HCX.out];exact hp);go_wp2_with (at_builtin;refine Bw w4 157 21 (.int .i32 0) 4 underlying157 Bt rfl jO w.heap.size _ _ _ O4.out (Nat.le_trans (Nat.le_of_lt hwz) B4.out.size) jO 1 jO _ rfl rfl _ rfl rfl _ _ rfl rfl rfl ?_;intro v5 w5 ho5 hg5;have O5:=jH ho5;have G5:=jH (G4.out.trans hg5);clear ho5 hg5)
        all_goals
         have I2:Hid (Av w.heap.size v5 (Norm.join (l.take (k+1))) w5/\Cq (.slice (some ⟨w.heap.size+1,0,none⟩) 0 l.length) v5 w1 w5/\Norm.At (Norm.join (l.take (k+1))) Q.length (max bg cx)):=by
          refine ⟨?_,G5.out,?_⟩
          · rw [HJ.out,NX.out];exact Av.more O5.out rfl rfl
          · rw [HJ.out,NX.out];rw [HOE.out,HBG.out,HCX.out];exact HAM.out HPX.out
         go_roundg (l.length - k)
         case measure=>omega
         case rel=>exact ⟨k+1,Q.length,(max bg cx),by omega,by go_num,rfl,by first | rfl | (congr 1;omega),by omega,I2⟩
      | some z =>
       have NX:=jH (show Norm.next o x=Q ++ z::M by rw [NA.out,if_pos FR.out,hmk]);have HMK:=jH (Norm.At.made (Q:=Q) HMM.out hmk);rw [hmk] at KM;clear hmk;go_wp2;go_region_held3 (λw'=>w'.cell? ⟨g,Q.length,none⟩=some (.int .i32 s)/\w'.cell? ⟨w.heap.size,0,none⟩=some (.slice (some ⟨b0,0,none⟩) 74 74)/\w'.cell? ⟨w.heap.size,1,none⟩=some (.slice (some ⟨b1,0,none⟩) 10 10)/\w'.cell? ⟨w.heap.size,2,none⟩=some (.slice (some ⟨b2,0,none⟩) 11 11)/\w'.cell? ⟨w.heap.size,3,none⟩=some (.slice (some ⟨b3,0,none⟩) 42 42)) (go_keep) ((go_at_call 279;(with_reducible refine KM.out.mono ?_);rintro e1 w4 ⟨rfl,hb4⟩;have HB4:=jH (Ag hb4);have B4:=jH (B3.out.trans (HB4.out.mono B3.out.size));have O4:=jH (O3.out.Ac HB4.out);have G4:=jH (G3.out.trans (Cq.C7 HB4.out _));have q1:=O4.out.cell Q.length hql;(rw [show o[Q.length]! = s by rw [HOE.out,Norm.Lr]] at q1);have fr4:=O4.out.free Q.length;have q2:=(HB4.out.cell (p:=⟨w.heap.size,0,none⟩) hz3).trans k0;have q3:=(HB4.out.cell (p:=⟨w.heap.size,1,none⟩) hz3).trans k1;have q4:=(HB4.out.cell (p:=⟨w.heap.size,2,none⟩) hz3).trans k2;have q5:=(HB4.out.cell (p:=⟨w.heap.size,3,none⟩) hz3).trans k3;clear hb4 cs k0 k1 k2 k3))
       all_goals
        have I2:Hid (Av w.heap.size (.slice (some ⟨g,0,none⟩) o.length c2) (Norm.join (l.take (k+1))) (w4.setCell ⟨g,Q.length,none⟩ (.int .i32 z))/\Cq (.slice (some ⟨w.heap.size+1,0,none⟩) 0 l.length) (.slice (some ⟨g,0,none⟩) o.length c2) w1 (w4.setCell ⟨g,Q.length,none⟩ (.int .i32 z))/\Norm.At (Norm.join (l.take (k+1))) Q.length bg):=by
         refine ⟨?_,G4.out.trans (Cq.put _ _ _ _ _ _),?_⟩
         ·rw [HJ.out,NX.out];have h:=O4.out.put Q.length z;rwa [show o.set Q.length z=Q ++ z::M by rw [HOE.out,Norm.Ag0]] at h
         ·rw [HJ.out,NX.out,HBG.out];exact HMK.out
        go_wp2;go_roundg (l.length - k)
        case measure=>omega
        case rel=>exact ⟨k+1,Q.length,bg,by omega,by go_num,rfl,rfl,by omega,I2⟩
     ·have hp0:cx<=0:=jO
      go_wp2_with fail;refine KC.out.mono ?_;rintro e w3 ⟨rfl,hb3⟩;have B3:=jH hb3;have O3:=jH (HI.out.1.Ac hb3);have G3:=jH (HI.out.2.trans (Cq.C7 hb3 _));clear hb3 KC;have hz3:w.heap.size<w3.heap.size:=jas hwz B3.out.size;have k0:=(B3.out.cell (p:=⟨w.heap.size,0,none⟩) hwz).trans f0;have k1:=(B3.out.cell (p:=⟨w.heap.size,1,none⟩) hwz).trans f1;have k2:=(B3.out.cell (p:=⟨w.heap.size,2,none⟩) hwz).trans f2;have k3:=(B3.out.cell (p:=⟨w.heap.size,3,none⟩) hwz).trans f3;have cs:=O3.out.cell Q.length hql;rw [show o[Q.length]! = s by rw [HOE.out,Norm.Lr]] at cs;have KM:=jH (Nz _ s x w3.drew ((HT.out.next (BW.out.trans (B3.out.mono BW.out.size))).now.below (jan _ w3).drew));clear f0 f1 f2 f3;cases hmk:Norm.D8 s x with
      | none =>
       have NX:=jH (show Norm.next o x=o ++ [x] by rw [NA.out,if_pos FR.out,hmk,HOE.out]);rw [hmk] at KM;clear hmk;go_wp2;go_region_held3 (λw'=>w'.cell? ⟨g,Q.length,none⟩=some (.int .i32 s)/\w'.cell? ⟨w.heap.size,0,none⟩=some (.slice (some ⟨b0,0,none⟩) 74 74)/\w'.cell? ⟨w.heap.size,1,none⟩=some (.slice (some ⟨b1,0,none⟩) 10 10)/\w'.cell? ⟨w.heap.size,2,none⟩=some (.slice (some ⟨b2,0,none⟩) 11 11)/\w'.cell? ⟨w.heap.size,3,none⟩=some (.slice (some ⟨b3,0,none⟩) 42 42)) (go_keep) ((go_at_call 279;(with_reducible refine KM.out.mono ?_);rintro e1 w4 ⟨rfl,hb4⟩;have HB4:=jH (Ag hb4);have B4:=jH (B3.out.trans (HB4.out.mono B3.out.size));have O4:=jH (O3.out.Ac HB4.out);have G4:=jH (G3.out.trans (Cq.C7 HB4.out _));have q1:=O4.out.cell Q.length hql;(rw [show o[Q.length]! = s by rw [HOE.out,Norm.Lr]] at q1);have fr4:=O4.out.free Q.length;have q2:=(HB4.out.cell (p:=⟨w.heap.size,0,none⟩) hz3).trans k0;have q3:=(HB4.out.cell (p:=⟨w.heap.size,1,none⟩) hz3).trans k1;have q4:=(HB4.out.cell (p:=⟨w.heap.size,2,none⟩) hz3).trans k2;have q5:=(HB4.out.cell (p:=⟨w.heap.size,3,none⟩) hz3).trans k3;clear hb4 cs k0 k1 k2 k3))
       all_goals
        have HPX:=jH (show ¬ 0<Ad x by rw [<- HCX.out];omega);go_wp2_with (at_builtin;refine Bw w4 157 21 (.int .i32 0) 4 underlying157 Bt rfl jO w.heap.size _ _ _ O4.out (Nat.le_trans (Nat.le_of_lt hwz) B4.out.size) jO 1 jO _ rfl rfl _ rfl rfl _ _ rfl rfl rfl ?_;intro v5 w5 ho5 hg5;have O5:=jH ho5;have G5:=jH (G4.out.trans hg5);clear ho5 hg5)
        all_goals
         have I2:Hid (Av w.heap.size v5 (Norm.join (l.take (k+1))) w5/\Cq (.slice (some ⟨w.heap.size+1,0,none⟩) 0 l.length) v5 w1 w5/\Norm.At (Norm.join (l.take (k+1))) o.length 0):=by
          refine ⟨?_,G5.out,?_⟩
          · rw [HJ.out,NX.out];exact Av.more O5.out rfl rfl
          · rw [HJ.out,NX.out];exact Norm.At.plain x (by have:=HPX.out;omega)
         go_roundg (l.length - k)
         case measure=>omega
         case rel=>exact ⟨k+1,o.length,0,by omega,by go_num,rfl,by first | rfl | (congr 1;omega),by omega,I2⟩
      | some z =>
       have NX:=jH (show Norm.next o x=Q ++ z::M by rw [NA.out,if_pos FR.out,hmk]);have HMK:=jH (Norm.At.made (Q:=Q) HMM.out hmk);rw [hmk] at KM;clear hmk;go_wp2;go_region_held3 (λw'=>w'.cell? ⟨g,Q.length,none⟩=some (.int .i32 s)/\w'.cell? ⟨w.heap.size,0,none⟩=some (.slice (some ⟨b0,0,none⟩) 74 74)/\w'.cell? ⟨w.heap.size,1,none⟩=some (.slice (some ⟨b1,0,none⟩) 10 10)/\w'.cell? ⟨w.heap.size,2,none⟩=some (.slice (some ⟨b2,0,none⟩) 11 11)/\w'.cell? ⟨w.heap.size,3,none⟩=some (.slice (some ⟨b3,0,none⟩) 42 42)) (go_keep) ((go_at_call 279;(with_reducible refine KM.out.mono ?_);rintro e1 w4 ⟨rfl,hb4⟩;have HB4:=jH (Ag hb4);have B4:=jH (B3.out.trans (HB4.out.mono B3.out.size));have O4:=jH (O3.out.Ac HB4.out);have G4:=jH (G3.out.trans (Cq.C7 HB4.out _));have q1:=O4.out.cell Q.length hql;(rw [show o[Q.length]! = s by rw [HOE.out,Norm.Lr]] at q1);have fr4:=O4.out.free Q.length;have q2:=(HB4.out.cell (p:=⟨w.heap.size,0,none⟩) hz3).trans k0;have q3:=(HB4.out.cell (p:=⟨w.heap.size,1,none⟩) hz3).trans k1;have q4:=(HB4.out.cell (p:=⟨w.heap.size,2,none⟩) hz3).trans k2;have q5:=(HB4.out.cell (p:=⟨w.heap.size,3,none⟩) hz3).trans k3;clear hb4 cs k0 k1 k2 k3))
       all_goals
        have I2:Hid (Av w.heap.size (.slice (some ⟨g,0,none⟩) o.length c2) (Norm.join (l.take (k+1))) (w4.setCell ⟨g,Q.length,none⟩ (.int .i32 z))/\Cq (.slice (some ⟨w.heap.size+1,0,none⟩) 0 l.length) (.slice (some ⟨g,0,none⟩) o.length c2) w1 (w4.setCell ⟨g,Q.length,none⟩ (.int .i32 z))/\Norm.At (Norm.join (l.take (k+1))) Q.length bg):=by
         refine ⟨?_,G4.out.trans (Cq.put _ _ _ _ _ _),?_⟩
         ·rw [HJ.out,NX.out];have h:=O4.out.put Q.length z;rwa [show o.set Q.length z=Q ++ z::M by rw [HOE.out,Norm.Ag0]] at h
         ·rw [HJ.out,NX.out,HBG.out];exact HMK.out
        go_wp2;go_roundg (l.length - k)
        case measure=>omega
        case rel=>exact ⟨k+1,Q.length,bg,by omega,by go_num,rfl,rfl,by omega,I2⟩
    ·have hMl:0<M.length:=by rcases Nat.eq_zero_or_pos M.length with h | h;exact absurd (List.eq_nil_of_length_eq_zero h) hM0;exact h
     have hbe:((Q.length:Int) == (o.length:Int) - 1)=false:=by rw [beq_eq_false_iff_ne,hlen];omega
     have HM0:=jH hM0;by_cases hbw:bg<cx
     ·have FR:=jH (show M.all (λy=>decide (Ad y<Ad x))=true by rw [<- HCX.out];exact (BL.out cx hM0).1 (by rw [<- hbg];exact hbw));have hp:0<cx:=jO
      clear hs hm hoe hlen hbg hM0;go_wp2_with fail;refine KC.out.mono ?_;rintro e w3 ⟨rfl,hb3⟩;have B3:=jH hb3;have O3:=jH (HI.out.1.Ac hb3);have G3:=jH (HI.out.2.trans (Cq.C7 hb3 _));clear hb3 KC;have hz3:w.heap.size<w3.heap.size:=jas hwz B3.out.size;have k0:=(B3.out.cell (p:=⟨w.heap.size,0,none⟩) hwz).trans f0;have k1:=(B3.out.cell (p:=⟨w.heap.size,1,none⟩) hwz).trans f1;have k2:=(B3.out.cell (p:=⟨w.heap.size,2,none⟩) hwz).trans f2;have k3:=(B3.out.cell (p:=⟨w.heap.size,3,none⟩) hwz).trans f3;have cs:=O3.out.cell Q.length hql;rw [show o[Q.length]! = s by rw [HOE.out,Norm.Lr]] at cs;have KM:=jH (Nz _ s x w3.drew ((HT.out.next (BW.out.trans (B3.out.mono BW.out.size))).now.below (jan _ w3).drew));clear f0 f1 f2 f3;cases hmk:Norm.D8 s x with
      | none =>
       have NX:=jH (show Norm.next o x=o ++ [x] by rw [NA.out,if_pos FR.out,hmk,HOE.out]);rw [hmk] at KM;clear hmk;go_wp2;go_region_held3 (λw'=>w'.cell? ⟨g,Q.length,none⟩=some (.int .i32 s)/\w'.cell? ⟨w.heap.size,0,none⟩=some (.slice (some ⟨b0,0,none⟩) 74 74)/\w'.cell? ⟨w.heap.size,1,none⟩=some (.slice (some ⟨b1,0,none⟩) 10 10)/\w'.cell? ⟨w.heap.size,2,none⟩=some (.slice (some ⟨b2,0,none⟩) 11 11)/\w'.cell? ⟨w.heap.size,3,none⟩=some (.slice (some ⟨b3,0,none⟩) 42 42)) (go_keep) ((go_at_call 279;(with_reducible refine KM.out.mono ?_);rintro e1 w4 ⟨rfl,hb4⟩;have HB4:=jH (Ag hb4);have B4:=jH (B3.out.trans (HB4.out.mono B3.out.size));have O4:=jH (O3.out.Ac HB4.out);have G4:=jH (G3.out.trans (Cq.C7 HB4.out _));have q1:=O4.out.cell Q.length hql;(rw [show o[Q.length]! = s by rw [HOE.out,Norm.Lr]] at q1);have fr4:=O4.out.free Q.length;have q2:=(HB4.out.cell (p:=⟨w.heap.size,0,none⟩) hz3).trans k0;have q3:=(HB4.out.cell (p:=⟨w.heap.size,1,none⟩) hz3).trans k1;have q4:=(HB4.out.cell (p:=⟨w.heap.size,2,none⟩) hz3).trans k2;have q5:=(HB4.out.cell (p:=⟨w.heap.size,3,none⟩) hz3).trans k3;clear hb4 cs k0 k1 k2 k3))
       all_goals
        have HPX:=jH (show 0<Ad x by rw [<- HCX.out];exact hp);go_wp2_with (at_builtin;refine Bw w4 157 21 (.int .i32 0) 4 underlying157 Bt rfl jO w.heap.size _ _ _ O4.out (Nat.le_trans (Nat.le_of_lt hwz) B4.out.size) jO 1 jO _ rfl rfl _ rfl rfl _ _ rfl rfl rfl ?_;intro v5 w5 ho5 hg5;have O5:=jH ho5;have G5:=jH (G4.out.trans hg5);clear ho5 hg5)
        all_goals
         have I2:Hid (Av w.heap.size v5 (Norm.join (l.take (k+1))) w5/\Cq (.slice (some ⟨w.heap.size+1,0,none⟩) 0 l.length) v5 w1 w5/\Norm.At (Norm.join (l.take (k+1))) Q.length (max bg cx)):=by
          refine ⟨?_,G5.out,?_⟩
          · rw [HJ.out,NX.out];exact Av.more O5.out rfl rfl
          · rw [HJ.out,NX.out];rw [HOE.out,HBG.out,HCX.out];exact HAM.out HPX.out
         go_roundg (l.length - k)
         case measure=>omega
         case rel=>exact ⟨k+1,Q.length,(max bg cx),by omega,by go_num,rfl,by first | rfl | (congr 1;omega),by omega,I2⟩
      | some z =>
       have NX:=jH (show Norm.next o x=Q ++ z::M by rw [NA.out,if_pos FR.out,hmk]);have HMK:=jH (Norm.At.made (Q:=Q) HMM.out hmk);rw [hmk] at KM;clear hmk;go_wp2;go_region_held3 (λw'=>w'.cell? ⟨g,Q.length,none⟩=some (.int .i32 s)/\w'.cell? ⟨w.heap.size,0,none⟩=some (.slice (some ⟨b0,0,none⟩) 74 74)/\w'.cell? ⟨w.heap.size,1,none⟩=some (.slice (some ⟨b1,0,none⟩) 10 10)/\w'.cell? ⟨w.heap.size,2,none⟩=some (.slice (some ⟨b2,0,none⟩) 11 11)/\w'.cell? ⟨w.heap.size,3,none⟩=some (.slice (some ⟨b3,0,none⟩) 42 42)) (go_keep) ((go_at_call 279;(with_reducible refine KM.out.mono ?_);rintro e1 w4 ⟨rfl,hb4⟩;have HB4:=jH (Ag hb4);have B4:=jH (B3.out.trans (HB4.out.mono B3.out.size));have O4:=jH (O3.out.Ac HB4.out);have G4:=jH (G3.out.trans (Cq.C7 HB4.out _));have q1:=O4.out.cell Q.length hql;(rw [show o[Q.length]! = s by rw [HOE.out,Norm.Lr]] at q1);have fr4:=O4.out.free Q.length;have q2:=(HB4.out.cell (p:=⟨w.heap.size,0,none⟩) hz3).trans k0;have q3:=(HB4.out.cell (p:=⟨w.heap.size,1,none⟩) hz3).trans k1;have q4:=(HB4.out.cell (p:=⟨w.heap.size,2,none⟩) hz3).trans k2;have q5:=(HB4.out.cell (p:=⟨w.heap.size,3,none⟩) hz3).trans k3;clear hb4 cs k0 k1 k2 k3))
       all_goals
        have I2:Hid (Av w.heap.size (.slice (some ⟨g,0,none⟩) o.length c2) (Norm.join (l.take (k+1))) (w4.setCell ⟨g,Q.length,none⟩ (.int .i32 z))/\Cq (.slice (some ⟨w.heap.size+1,0,none⟩) 0 l.length) (.slice (some ⟨g,0,none⟩) o.length c2) w1 (w4.setCell ⟨g,Q.length,none⟩ (.int .i32 z))/\Norm.At (Norm.join (l.take (k+1))) Q.length bg):=by
         refine ⟨?_,G4.out.trans (Cq.put _ _ _ _ _ _),?_⟩
         ·rw [HJ.out,NX.out];have h:=O4.out.put Q.length z;rwa [show o.set Q.length z=Q ++ z::M by rw [HOE.out,Norm.Ag0]] at h
         ·rw [HJ.out,NX.out,HBG.out];exact HMK.out
        go_wp2;go_roundg (l.length - k)
        case measure=>omega
        case rel=>exact ⟨k+1,Q.length,bg,by omega,by go_num,rfl,rfl,by omega,I2⟩
     ·have FR:=jH (show ¬ M.all (λy=>decide (Ad y<Ad x))=true by rw [<- HCX.out];exact λh=>hbw (by rw [hbg];exact (BL.out cx hM0).2 h));have NX:=jH (show Norm.next o x=o ++ [x] by rw [NA.out,if_neg FR.out,HOE.out]);clear hs hm hoe hlen hbg hM0;go_wp2_with fail;refine KC.out.mono ?_;rintro e w3 ⟨rfl,hb3⟩;have B3:=jH hb3;have O3:=jH (HI.out.1.Ac hb3);have G3:=jH (HI.out.2.trans (Cq.C7 hb3 _));clear hb3 KC;by_cases hp:0<cx
      ·have HPX:=jH (show 0<Ad x by rw [<- HCX.out];exact hp);go_wp2_with (at_builtin;refine Bw w3 157 21 (.int .i32 0) 4 underlying157 Bt rfl jO w.heap.size _ _ _ O3.out (Nat.le_trans (Nat.le_of_lt hwz) B3.out.size) jO 1 jO _ rfl rfl _ rfl rfl _ _ rfl rfl rfl ?_;intro v5 w5 ho5 hg5;have O5:=jH ho5;have G5:=jH (G3.out.trans hg5);clear ho5 hg5)
       all_goals
        have I2:Hid (Av w.heap.size v5 (Norm.join (l.take (k+1))) w5/\Cq (.slice (some ⟨w.heap.size+1,0,none⟩) 0 l.length) v5 w1 w5/\Norm.At (Norm.join (l.take (k+1))) Q.length (max bg cx)):=by
         refine ⟨?_,G5.out,?_⟩
         ·rw [HJ.out,NX.out];exact Av.more O5.out rfl rfl
         ·rw [HJ.out,NX.out];rw [HOE.out,HBG.out,HCX.out];exact HAM.out HPX.out
        go_roundg (l.length - k)
        case measure=>omega
        case rel=>exact ⟨k+1,Q.length,(max bg cx),by omega,by go_num,rfl,by first | rfl | (congr 1;omega),by omega,I2⟩
      ·have hp0:cx<=0:=jO
       have HPX:=jH (show ¬ 0<Ad x by rw [<- HCX.out];exact hp);go_wp2_with (at_builtin;refine Bw w3 157 21 (.int .i32 0) 4 underlying157 Bt rfl jO w.heap.size _ _ _ O3.out (Nat.le_trans (Nat.le_of_lt hwz) B3.out.size) jO 1 jO _ rfl rfl _ rfl rfl _ _ rfl rfl rfl ?_;intro v5 w5 ho5 hg5;have O5:=jH ho5;have G5:=jH (G3.out.trans hg5);clear ho5 hg5)
       all_goals
        have I2:Hid (Av w.heap.size v5 (Norm.join (l.take (k+1))) w5/\Cq (.slice (some ⟨w.heap.size+1,0,none⟩) 0 l.length) v5 w1 w5/\Norm.At (Norm.join (l.take (k+1))) o.length 0):=by
         refine ⟨?_,G5.out,?_⟩
         ·rw [HJ.out,NX.out];exact Av.more O5.out rfl rfl
         ·rw [HJ.out,NX.out];exact Norm.At.plain x (by have:=HPX.out;omega)
        go_roundg (l.length - k)
        case measure=>omega
        case rel=>exact ⟨k+1,o.length,0,by omega,by go_num,rfl,rfl,by omega,I2⟩
  ·obtain rfl:k=l.length:=jO
   clear hBW;go_wp2;go_ret;have h:=I.out.1;rw [List.take_length] at h;exact ⟨_,rfl,h,BW.out⟩
end
section
open Go.RowKit Utf
structure Fits (soft:Bool) (s:ByteArray) (m:List Nat):Prop where
 size:s.size<=100000
 read:Au s.data.toList=(m,-1)
 len:m.length<=10000
 down:(Norm.down soft (ints m)).length<=10000
theorem Fits.right {soft:Bool} {s:ByteArray} {m:List Nat} (h:Fits soft s m):Ae (ints m)=true:=(Mh m (Eu h.read).1).1
theorem Fits.split {soft:Bool} {s:ByteArray} {m:List Nat} (h:Fits soft s m):(Norm.split soft (ints m)).length<=10000:=by
 have:=Ag1 (Norm.Ho (Norm.split soft (ints m)));have:=h.down;unfold Norm.down at this;omega
def Ahn (l:List Int) (w:World) (e:Ending) (w':World):Prop:=∃ v,e=.returned (.tuple #[v,.bool true])/\Av w.heap.size v l w'/\Below w.heap.size w w'
theorem Akm (t:Value) (s:ByteArray) (soft:Bool) (w:World) (hT:Table w t) {m:List Nat} (hf:Fits soft s m) :
  Calls prog 247 #[t,.string s,.bool soft] w (Ahn (Norm.down soft (ints m)) w):=by
 have h1:=λW=>Tc s W hf.size hf.read;have hml:(ints m).length<=10000:=by simp only [ints,jai];exact hf.len
 have h2:=λv W (hW:Below w.heap.size w W) (h:Runes v (ints m) W)=>Ag4 t v (ints m) soft W (hT.below hW) h hml;have h3:=λv W (hW:Below w.heap.size w W) (h:Runes v (Norm.split soft (ints m)) W)=>Auu t v _ W (hT.below hW) h hf.split
 obtain ⟨b0,b1,b2,b3,rfl,-,-,-,-⟩:=hT;have H1:=jH h1;have H2:=jH h2;have H3:=jH h3;clear h1 h2 h3 hml hf;go_enter func247,ntmps247;go_wp2_with fail;refine (H1.out _).mono ?_;rintro e w1 ⟨A1,c1,rfl,hr1,hb1⟩;obtain ⟨hz,k0,k1,k2,k3⟩:=Jn hb1;have R1:=jH hr1;have B1:=jH (Aa (Ab w _) hb1);clear hr1 hb1;go_wp2;go_region_held3 (λw'=>w'.cell? ⟨w.heap.size,0,none⟩=some (.slice (some ⟨b0,0,none⟩) 74 74)/\w'.cell? ⟨w.heap.size,1,none⟩=some (.slice (some ⟨b1,0,none⟩) 10 10)/\w'.cell? ⟨w.heap.size,2,none⟩=some (.slice (some ⟨b2,0,none⟩) 11 11)/\w'.cell? ⟨w.heap.size,3,none⟩=some (.slice (some ⟨b3,0,none⟩) 42 42)) (go_keep) (first
  | (go_at_call 277;(with_reducible refine (H2.out _ _ B1.out.drew (R1.out.Ac (jan _ w1).drew)).mono ?_);rintro e w2 ⟨v2,rfl,ho2,hb2⟩;have hB2:=Ag hb2;have R2:=jH ho2.Nc;have B2:=jH (Aa B1.out hB2);have q0:=(hB2.cell (p:=⟨w.heap.size,0,none⟩) hz).trans k0;have q1:=(hB2.cell (p:=⟨w.heap.size,1,none⟩) hz).trans k1;have q2:=(hB2.cell (p:=⟨w.heap.size,2,none⟩) hz).trans k2;have q3:=(hB2.cell (p:=⟨w.heap.size,3,none⟩) hz).trans k3;have hz2:=jas hz hB2.size;clear hb2 ho2 hB2 k0 k1 k2 k3)
  | (go_at_call 276;(with_reducible refine (H3.out _ _ B2.out R2.out).mono ?_);rintro e w3 ⟨v3,rfl,ho3,hb3⟩;have O3:=jH (ho3.lower B2.out.size);have B3:=jH (Aa B2.out hb3);have p0:=(hb3.cell (p:=⟨w.heap.size,0,none⟩) hz2).trans q0;have p1:=(hb3.cell (p:=⟨w.heap.size,1,none⟩) hz2).trans q1;have p2:=(hb3.cell (p:=⟨w.heap.size,2,none⟩) hz2).trans q2;have p3:=(hb3.cell (p:=⟨w.heap.size,3,none⟩) hz2).trans q3;clear hb3 ho3))
 all_goals
  go_wp2;go_ret2;exact ⟨v3,rfl,O3.out,B3.out⟩
theorem Ag9 (t:Value) (s:ByteArray) (soft:Bool) (w:World) (hT:Table w t) {m:List Nat} (hf:Fits soft s m) :
  Calls prog 219 #[t,.string s,.bool soft] w (Xr (Ah (Fe soft true (ints m))) true w):=by
 have h1:=λW (hW:Below w.heap.size w W)=>Akm t s soft W (hT.below hW) hf;have hfr:=Ys soft true hf.right;have hd:=hf.down;have h4:=λv W (hW:Below w.heap.size w W) (h:Runes v (Norm.down soft (ints m)) W)=>Ajd t v _ W (hT.below hW) h hd;have hfl:(Fe soft true (ints m)).length<=20000:=by
  unfold Fe;split
  · have:=Adh (Norm.down soft (ints m));omega
  · omega
 have h5:=λv W (h:Runes v (Fe soft true (ints m)) W)=>Vf v _ W h hfl hfr (Aat hfr);obtain ⟨b0,b1,b2,b3,rfl,-,-,-,-⟩:=hT;have H1:=jH h1;have H4:=jH h4;have H5:=jH h5;clear h1 h4 h5 hfr hd hfl hf;go_enter func219,ntmps219;go_wp2_with fail;refine (H1.out _ (Ab _ _)).mono ?_;rintro e w1 ⟨v1,rfl,ho1,hb1⟩;obtain ⟨hz,k0,k1,k2,k3⟩:=Jn hb1;have R1:=jH ho1.Nc;have B1:=jH (Aa (Ab w _) hb1);clear ho1 hb1;go_wp2_with fail;refine (H4.out _ _ B1.out R1.out).mono ?_;rintro e w2 ⟨v2,rfl,ho2,hb2⟩;have R2:=jH ho2.Nc;have B2:=jH (Aa B1.out hb2);clear ho2 hb2;go_wp2_with fail;refine (H5.out _ _ R2.out).mono ?_;rintro e w3 ⟨rfl,hb3⟩;have B3:=jH (Aa B2.out hb3);clear hb3;go_wp2;go_ret2;exact ⟨rfl,B3.out⟩
theorem Arx (t:Value) (s:ByteArray) (w:World) (hT:Table w t) {m:List Nat} (hf:Fits false s m) :
  Calls prog 183 #[t,.string s] w (Xr (Ah (Fe false true (ints m))) true w):=by
 have h1:=λW (hW:Below w.heap.size w W)=>Ag9 t s false W (hT.below hW) hf;obtain ⟨b0,b1,b2,b3,rfl,-,-,-,-⟩:=hT;have H1:=jH h1;clear h1 hf;go_enter func183,ntmps183;go_wp2_with fail;refine (H1.out _ (Ab _ _)).mono ?_;rintro e w1 ⟨rfl,hb1⟩;have B1:=jH (Aa (Ab w _) hb1);clear hb1;go_wp2;go_ret2;exact ⟨rfl,B1.out⟩
theorem A55 (t:Value) (s:ByteArray) (w:World) (hT:Table w t) {m:List Nat} (hf:Fits false s m) {b:Bool} (hb:(Ah (Fe false true (ints m)) == s.toList)=b) :
  Calls prog 251 #[t,.string s] w λe w'=>e=.returned (.bool b)/\Below w.heap.size w w':=by
 have h1:=λW (hW:Below w.heap.size w W)=>Arx t s W (hT.below hW) hf;obtain ⟨b0,b1,b2,b3,rfl,-,-,-,-⟩:=hT;generalize Ah (Fe false true (ints m))=bs at h1 hb;have H1:=jH h1;have HB:=jH hb;clear h1 hf hb;go_enter func251,ntmps251;go_wp2_with fail;refine (H1.out _ (Ab _ _)).mono ?_;rintro e w1 ⟨rfl,hb1⟩;have B1:=jH (Aa (Ab w _) hb1);clear hb1;go_wp2;go_ret;refine ⟨?_,B1.out⟩;rw [<- HB.out];rfl
end
section
open Go.RowKit Utf
end
section
open Go.RowKit Utf
namespace Norm
end Norm
end
section
open Go.RowKit Utf
end
section
open Go.RowKit Utf
end
section
open Go.RowKit Utf
theorem Ay4 {soft:Bool} {X:List Int} {s:ByteArray} (hs:s.data.toList=Ah X) (hX:Ae X=true) (hl:X.length<=9600) (hd:(Norm.down soft X).length<=9600):Fits soft s (X.map Int.toNat)/\ints (X.map Int.toNat)=X:=by
 obtain ⟨i1,-,-⟩:=Ed hX;have h1:=Gr X;have h2:s.size=(Ah X).length:=by rw [<- hs];simp
 exact ⟨⟨by omega,by rw [hs];exact Gy hX,by rw [jai];omega,by rw [i1];omega⟩,i1⟩
theorem again {soft join:Bool} {X Y:List Int} (hX:Ae X=true) (hl:X.length<=9600) (hd:(Norm.down soft X).length<=9600) (hf:Fe soft join X=Y) :
  ∃ m,Fits soft ⟨(Ah X).toArray⟩ m/\Ah (Fe soft join (ints m))=Ah Y:=by
 obtain ⟨h1,h2⟩:=Ay4 (soft:=soft) (s:=⟨(Ah X).toArray⟩) jS hX hl hd;exact ⟨_,h1,by rw [h2,hf]⟩
end
