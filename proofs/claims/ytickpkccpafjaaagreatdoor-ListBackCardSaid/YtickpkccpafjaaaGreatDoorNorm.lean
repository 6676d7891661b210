import Derived.Test.YtickpkccpafjaaaGreatDoorSort
set_option maxRecDepth 100000
set_option maxHeartbeats 8000000
namespace Go.Proofs.YtickpkccpafjaaaGreatDoor
open Tryz
section
open Go.RowKit Utf
namespace Norm
def Tx (M:List Int) (i:Nat):Prop:=¬ (0<Ad M[i+1]!/\Ad M[i+1]!<Ad M[i]!)
theorem Adc:∀ {M:List Int},(∀ i,i+1<M.length->Tx M i)->sorted M=true
 | [],_=>rfl
 | [x],_=>rfl
 | x::y::l,h=>by
  have h0:=h 0 jS;have ih:sorted (y::l)=true:=Adc λi hi=>by
   have:=h (i+1) (by simp at hi ⊢;omega);unfold Tx at this ⊢;simpa using this
  unfold Tx at h0;simp only [Nat.zero_add,List.getElem!_cons_zero,List.getElem!_cons_succ] at h0;unfold sorted;rw [ih,Bool.and_true,Bool.not_eq_true',Bool.and_eq_false_iff,decide_eq_false_iff_not,decide_eq_false_iff_not];omega
structure Ord (l M:List Int) (k:Nat):Prop where
 sim:Sim l M
 len:M.length=l.length
 ok:∀ i,i+1<k->i+1<M.length->Tx M i
 ahead:k=0\/M.length<k\/Ad M[k - 1]!<=0
theorem Ord.start (l:List Int):Ord l l 0:=⟨.refl _,rfl,λi h _=>by omega,.inl rfl⟩
theorem Ord.done {l M:List Int} {k:Nat} (h:Ord l M k) (hk:M.length<=k):M=order l:=Axi h.sim (Adc λi hi=>h.ok i jO hi)
theorem Abi (M:List Int) {k e:Nat} (h1:k<=e) (h2:e<=M.length):M=M.take k ++ ((M.take e).drop k ++ M.drop e):=by
 have l1:(M.take k).length=k:=by rw [jak];omega
 have l2:((M.take e).drop k).length=e - k:=by rw [jaj,jak];omega
 refine Wt (by simp only [jab,jaj,l1,l2];omega) λi hi=>?_;by_cases i1:i<k
 · rw [C7 jO,F3 i1]
 rw [Cq jO,l1];by_cases i2:i<e
 · rw [C7 jO,F2,F3 jO,show k+(i - k)=i by omega]
 rw [Cq jO,l2,F2,show e+(i - k - (e - k))=i by omega]
theorem Ord.next {l M N:List Int} {k e:Nat} (h:Ord l M k) (h1:k<=e) (h2:e<=M.length) (hm:∀ i,k<=i->i<e->0<Ad M[i]!) (he:e=M.length\/Ad M[e]!<=0)
  (hN:Ar 0 (e - k) ((M.take e).drop k) N) (u:Up N 0 (e - k)):Ord l (M.take k ++ (N ++ M.drop e)) (e+1):=by
 have l1:(M.take k).length=k:=by rw [jak];omega
 have l2:((M.take e).drop k).length=e - k:=by rw [jaj,jak];omega
 have l3:N.length=e - k:=hN.len.trans l2;have b1:∀ i,i<k->(M.take k ++ (N ++ M.drop e))[i]! = M[i]!:=λi hi=>by rw [C7 jO,F3 hi]
 have b2:∀ i,k<=i->i<e->(M.take k ++ (N ++ M.drop e))[i]! = N[i - k]!:=λi h3 h4=>by rw [Cq jO,l1,C7 jO]
 have b3:∀ i,e<=i->(M.take k ++ (N ++ M.drop e))[i]! = M[i]!:=λi h3=>by rw [Cq jO,l1,Cq jO,l3,F2,show e+(i - k - (e - k))=i by omega]
 have hl:(M.take k ++ (N ++ M.drop e)).length=M.length:=by simp only [jab,jaj,l1,l3];omega
 refine ⟨?_,hl.trans h.len,λi h3 h4=>?_,?_⟩
 ·refine .trans h.sim ?_;have hs:=hN.sim λi _ h4=>by
   rw [F2,F3 jO];exact hm _ jO jO
  have:=(hs.behind (M.drop e)).ahead (M.take k);rwa [<- Abi M h1 h2] at this
 ·unfold Tx;by_cases c1:i+1<k
  ·rw [b1 i jO,b1 (i+1) c1];exact h.ok i c1 jO
  by_cases c2:i+1=k
  ·rw [b1 i jO];have:=h.ahead;rw [show k - 1=i by omega] at this;intro hh;omega
  by_cases c3:i+1<e
  ·rw [b2 i jO jO,b2 (i+1) jO c3];have:=u (i - k) (i+1 - k) jO jO jO;omega
  ·rw [b3 (i+1) jO];obtain rfl:e=i+1:=jO
   omega
 ·rcases he with rfl | he
  ·right;left;rw [hl];omega
  ·right;right;rw [Nat.add_sub_cancel,b3 e (jaa _)];exact he
end Norm
theorem Al6 (t:Value) (x:Int) (w:World) (hT:Table w t):Calls prog 332 #[t,.int .i32 x] w λe w'=>e=.returned (.bool (decide (0<Ad x)))/\Below w.heap.size w w':=by
 have hr:=λW (h:Below w.heap.size w W)=>Kh t x W (hT.below h);obtain ⟨b0,b1,b2,b3,rfl,-,-,-,-⟩:=hT;generalize Ad x=c at hr ⊢;have HF:=jH hr;clear hr;go_enter func332,ntmps332;go_wp2_with fail;refine (HF.out _ ((jan _ w).alloc (jaa _) _)).mono ?_;rintro e w1 ⟨rfl,hb1⟩;have HB:=jH (((jan _ w).alloc (jaa _) _).trans (hb1.mono jS));clear hb1;go_wp2;go_ret;exact ⟨rfl,HB.out⟩
theorem Ayc {base g n c:Nat} {M:List Int} {w0 w:World} (h:Aw base (.slice (some ⟨g,0,none⟩) n c) M w) (hb:Below base w0 w) (hg:base<=g) {k e:Nat} (h1:k<=e) (h2:e<=M.length) :
  Seg ⟨base,w0,g,k,M.take k,M.drop e,n,c⟩ ((M.take e).drop k) w:=by
 refine ⟨?_,hb,by simp only [jak];omega,hg⟩;simp only;rw [<- Norm.Abi M h1 h2];exact h
theorem Aw.cap {base n c:Nat} {A:Option Addr} {l:List Int} {w:World} (h:Aw base (.slice A n c) l w):l.length<=c:=by
 obtain ⟨A',c',e,hc,-⟩:=h.Mo.form;injection e with _ _ e2
 omega
theorem Aqi {b0 b1 b2 b3:Nat} {w:World} (hT:Table w (.agg #[.slice (some ⟨b0,0,none⟩) 74 74,.slice (some ⟨b1,0,none⟩) 10 10,.slice (some ⟨b2,0,none⟩) 11 11,.slice (some ⟨b3,0,none⟩) 42 42])) :
  Boxed w.heap.size (w.alloc (.cells #[.slice (some ⟨b0,0,none⟩) 74 74,.slice (some ⟨b1,0,none⟩) 10 10,.slice (some ⟨b2,0,none⟩) 11 11,.slice (some ⟨b3,0,none⟩) 42 42] 36)) :=
 ⟨b0,b1,b2,b3,hT.below (Ac _ _),by simp,by go_simp,by go_simp,by go_simp,by go_simp⟩
theorem Asn (t:Value) (v:Value) (l:List Int) (w:World) (hT:Table w t) (hl:Runes v l w) (hn:l.length<=10000):Calls prog 292 #[t,v] w (Jd (Norm.order l) w):=by
 have hT':=hT;obtain ⟨b0,b1,b2,b3,rfl,-,-,-,-⟩:=hT';have HL:=jH hl;obtain ⟨w0,hw0⟩:∃ w0,w0=w.alloc (.cells #[.slice (some ⟨b0,0,none⟩) 74 74,.slice (some ⟨b1,0,none⟩) 10 10,.slice (some ⟨b2,0,none⟩) 11 11,.slice (some ⟨b3,0,none⟩) 42 42] 36):=⟨_,rfl⟩
 have hB0:Below w.heap.size w w0:=by rw [hw0];exact Ac _ _
 have hX0:Boxed w.heap.size w0:=by rw [hw0];exact Aqi hT
 have hz0:w0.heap.size=w.heap.size+1:=by rw [hw0];simp
 have HB0:=jH hB0;have HX0:=jH hX0;have HZ0:=jH hz0;have HT:=jH (hT.below hB0);clear hT hl hB0 hX0 hz0;go_enter func292,ntmps292;go_wp2_with (at_builtin;(rw [<- hw0]);refine Ako w0 60 21 (.int .i32 0) 4 underlying60 Bn rfl jO w0.heap.size _ _ _ (World.ownsRow_nil w0 w0.heap.size _ _) (jaa _) jO _ _ (HL.out.Ae HB0.out) (Aco _) (by rw [jai];omega) rfl _ _ rfl rfl rfl ?_;intro v2 w2 ho2 hb2;have hO2:Aw w0.heap.size v2 l w2:=(Aw.more (l:=[]) ho2 rfl (by rw [jai]));obtain ⟨A,c,rfl,hA⟩:=hO2.shape;have O2:=jH hO2;have HA:=jH hA;have B2:=jH hb2;clear ho2 hb2 hO2 hA hw0);go_loopg [7,8] (l.length+2) (λgk sf _ wr=>∃ (k:Nat) (M:List Int),sf=.int .i64 k/\k<=l.length+1/\l.length+1 - k<gk/\Hid (Norm.Ord l M k/\Aw w0.heap.size (.slice A l.length c) M wr/\Below w0.heap.size w0 wr))
 case atStart=>exact ⟨0,l,rfl,by omega,by omega,⟨Norm.Ord.start l,O2.out,B2.out⟩⟩
 case round =>
  obtain ⟨k,M,rfl,hkl,hg,I⟩:=hrel;by_cases hlt:k<l.length
  ·obtain ⟨g,rfl,hgb,-⟩:=HA.out jO;have HG:=jH hgb;clear hgb;have hML:=I.out.1.len;have HML:=jH hML;go_wp2;go_loopg [8] (l.length+1) (λgk se wr=>∃ (e:Nat),se=.int .i64 e/\k<=e/\e<=l.length/\l.length - e<gk/\Hid ((∀ i,k<=i->i<e->0<Ad M[i]!)/\Aw w0.heap.size (.slice (some ⟨g,0,none⟩) l.length c) M wr/\Below w0.heap.size w0 wr))
   case atStart=>exact ⟨k,rfl,jaa _,by omega,by omega,⟨λi h1 h2=>by omega,I.out.2.1,I.out.2.2⟩⟩
   case round =>
    obtain ⟨e,rfl,hke,hel,hge,J⟩:=hrel;by_cases helt:e<l.length
    ·have hez:(e:Int)<(l.length:Int):=jO
     have g1:(0:Int)<=(e:Int):=jO
     obtain ⟨x,hx⟩:∃ x,x=M[e]!:=⟨_,rfl⟩
     have c1:=J.out.2.1.cell e (by rw [HML.out];exact helt);rw [<- hx] at c1;have hBX:=HX0.out.Ae J.out.2.2;obtain ⟨a0,a1,a2,a3,hTT,hlt0,d0,d1,d2,d3⟩:=hBX;have K:=jH (Al6 _ x wr.drew (hTT.below (jan _ wr).drew));have HX:=jH hx;clear hx hTT;by_cases hm:0<Ad x
     ·rw [decide_eq_true hm] at K;have HM:=jH hm;clear hm;go_wp2;go_region_held3 (λw'=>w'.cell? ⟨g,e,none⟩=some (.int .i32 x)/\w'.cell? ⟨w.heap.size,0,none⟩=some (.slice (some ⟨a0,0,none⟩) 74 74)/\w'.cell? ⟨w.heap.size,1,none⟩=some (.slice (some ⟨a1,0,none⟩) 10 10)/\w'.cell? ⟨w.heap.size,2,none⟩=some (.slice (some ⟨a2,0,none⟩) 11 11)/\w'.cell? ⟨w.heap.size,3,none⟩=some (.slice (some ⟨a3,0,none⟩) 42 42)) (go_keep) ((go_at_call 332;(with_reducible refine K.out.mono ?_);rintro e1 w3 ⟨rfl,hb3⟩;have HB3:=jH (Ag hb3);have q1:=(HB3.out.cell (p:=⟨g,e,none⟩) (by exact jam _ _ c1)).trans c1;have q2:=(HB3.out.cell (p:=⟨w.heap.size,0,none⟩) hlt0).trans d0;have q3:=(HB3.out.cell (p:=⟨w.heap.size,1,none⟩) hlt0).trans d1;have q4:=(HB3.out.cell (p:=⟨w.heap.size,2,none⟩) hlt0).trans d2;have q5:=(HB3.out.cell (p:=⟨w.heap.size,3,none⟩) hlt0).trans d3;clear hb3))
      all_goals
       have J2:Hid ((∀ i,k<=i->i<e+1->0<Ad M[i]!)/\Aw w0.heap.size (.slice (some ⟨g,0,none⟩) l.length c) M w3/\Below w0.heap.size w0 w3):=by
        refine ⟨λi h1 h2=>?_,J.out.2.1.Ae HB3.out,J.out.2.2.trans (HB3.out.mono J.out.2.2.size)⟩;by_cases hi:i=e
        · rw [hi,<- HX.out];exact HM.out
        · exact J.out.1 i h1 jO
       clear J c1 d0 d1 d2 d3;go_wp2;go_roundg (l.length - e)
       case measure=>omega
       case rel=>exact ⟨e+1,by go_num,by omega,by omega,by omega,J2⟩
     ·rw [decide_eq_false hm] at K;have HM:=jH hm;clear hm;have hcap:=J.out.2.1.cap;have hcz:(e:Int)<=(c:Int):=by have:=HML.out;omega
      have hkz:(k:Int)<=(e:Int):=jO
      go_wp2;go_region_held3 (λw'=>w'.cell? ⟨g,e,none⟩=some (.int .i32 x)/\w'.cell? ⟨w.heap.size,0,none⟩=some (.slice (some ⟨a0,0,none⟩) 74 74)/\w'.cell? ⟨w.heap.size,1,none⟩=some (.slice (some ⟨a1,0,none⟩) 10 10)/\w'.cell? ⟨w.heap.size,2,none⟩=some (.slice (some ⟨a2,0,none⟩) 11 11)/\w'.cell? ⟨w.heap.size,3,none⟩=some (.slice (some ⟨a3,0,none⟩) 42 42)) (go_keep) ((go_at_call 332;(with_reducible refine K.out.mono ?_);rintro e1 w3 ⟨rfl,hb3⟩;have HB3:=jH (Ag hb3);have q1:=(HB3.out.cell (p:=⟨g,e,none⟩) (by exact jam _ _ c1)).trans c1;have q2:=(HB3.out.cell (p:=⟨w.heap.size,0,none⟩) hlt0).trans d0;have q3:=(HB3.out.cell (p:=⟨w.heap.size,1,none⟩) hlt0).trans d1;have q4:=(HB3.out.cell (p:=⟨w.heap.size,2,none⟩) hlt0).trans d2;have q5:=(HB3.out.cell (p:=⟨w.heap.size,3,none⟩) hlt0).trans d3;clear hb3))
      all_goals
       go_wp2_with fail;have hl2:((M.take e).drop k).length=e - k:=by rw [jaj,jak];have:=HML.out;omega
       have hc:=Nq (p:=⟨w0.heap.size,w0,g,k,M.take k,M.drop e,l.length,c⟩) (bt:=w.heap.size) ⟨rfl,HX0.out⟩ ((M.take e).drop k) w3 (Ayc (J.out.2.1.Ae HB3.out) (J.out.2.2.trans (HB3.out.mono J.out.2.2.size)) HG.out hke (by have:=HML.out;omega)) (e - k) (c - k) hl2 jO;refine hc.mono ?_;rintro e2 w4 ⟨N,rfl,⟨k4,v4⟩,s4⟩;have J2:Hid (Norm.Ord l (M.take k ++ (N ++ M.drop e)) (e+1)/\Aw w0.heap.size (.slice (some ⟨g,0,none⟩) l.length c) (M.take k ++ (N ++ M.drop e)) w4/\Below w0.heap.size w0 w4) :=
        ⟨I.out.1.next hke (by have:=HML.out;omega) J.out.1 (.inr (by rw [<- HX.out];have:=HM.out;omega)) k4 v4,s4.1,s4.2.1⟩
       clear hc k4 v4 s4 hl2;go_wp2;go_roundg (l.length+1 - k)
       case measure=>omega
       case rel=>exact ⟨e+1,_,by go_num,by omega,by omega,J2⟩
    ·obtain rfl:e=l.length:=jO
     have hez:¬ (l.length:Int)<(l.length:Int):=jO
     have hcap:=J.out.2.1.cap;have hcz:(l.length:Int)<=(c:Int):=by have:=HML.out;omega
     have hkz:(k:Int)<=(l.length:Int):=jO
     go_wp2;go_quiet (fail);go_wp2_with fail;have hl2:((M.take l.length).drop k).length=l.length - k:=by rw [jaj,jak];have:=HML.out;omega
     have hc:=Nq (p:=⟨w0.heap.size,w0,g,k,M.take k,M.drop l.length,l.length,c⟩) (bt:=w.heap.size) ⟨rfl,HX0.out⟩ ((M.take l.length).drop k) (wr.drewN nq) (Ayc (J.out.2.1.drewN nq) (below_drewN J.out.2.2 nq) HG.out hke (by have:=HML.out;omega)) (l.length - k) (c - k) hl2 jO;refine hc.mono ?_;rintro e2 w4 ⟨N,rfl,⟨k4,v4⟩,s4⟩;have J2:Hid (Norm.Ord l (M.take k ++ (N ++ M.drop l.length)) (l.length+1)/\Aw w0.heap.size (.slice (some ⟨g,0,none⟩) l.length c) (M.take k ++ (N ++ M.drop l.length)) w4/\Below w0.heap.size w0 w4) :=
      ⟨I.out.1.next hke (by have:=HML.out;omega) J.out.1 (.inl HML.out.symm) k4 v4,s4.1,s4.2.1⟩
     clear hc k4 v4 s4 hl2;go_wp2;go_roundg (l.length+1 - k)
     case measure=>omega
     case rel=>exact ⟨l.length+1,_,by go_num,by omega,by omega,J2⟩
  ·have hz:¬ (k:Int)<(l.length:Int):=jO
   have hO:=I.out.1.done (by have:=I.out.1.len;omega);have R:Hid (Aw w.heap.size (.slice A l.length c) (Norm.order l) wr/\Below w.heap.size w wr):=by
    refine ⟨?_,HB0.out.trans (I.out.2.2.mono HB0.out.size)⟩;rw [<- hO];exact I.out.2.1.lower HB0.out.size
   clear hO;go_wp2;go_ret;exact ⟨_,rfl,R.out.1,R.out.2⟩
end
section
open Go.RowKit Utf
def Lays (base:Nat) (v:Value) (x:List Int) (w:World) (e:Ending) (w':World):Prop:=∃ v',e=.returned v'/\Aw base v' x w'/\Cf v v' w w'
theorem Of (r:Int) (w:World):Calls prog 350 #[.int .i32 r] w λe w'=>e=.returned (.bool (Norm.syl r))/\w=w':=by
 rcases (show r<44032\/(44032<=r/\r<=55203)\/55203<r by omega) with h | ⟨h1,h2⟩ | h
 ·rw [show Norm.syl r=false by unfold Norm.syl;rw [decide_eq_false jO];rfl];have e1:decide (44032<=r)=false:=by simp;omega
  go_enter func350,ntmps350;go_wp2;go_ret;exact ⟨rfl,rfl⟩
 ·rw [(Norm.Ce r).2 ⟨h1,h2⟩];go_enter func350,ntmps350;go_wp2;go_ret;exact ⟨rfl,rfl⟩
 ·have h1:44032<=r:=jO
  rw [show Norm.syl r=false by unfold Norm.syl;rw [decide_eq_true h1,decide_eq_false jO];rfl];have e1:decide (r<=55203)=false:=by simp;omega
  go_enter func350,ntmps350;go_wp2;go_ret;exact ⟨rfl,rfl⟩
theorem Afm (base:Nat) (v:Value) (o:List Int) (r:Int) (w:World) (hO:Aw base v o w) (hb:base<=w.heap.size) (hl:o.length<=900000) (h:Norm.syl r=true) :
  Calls prog 351 #[v,.int .i32 r] w (Lays base v (o ++ Norm.Cu r) w):=by
 obtain ⟨h1,h2⟩:=(Norm.Ce r).1 h;clear h;have H:=jH (show Norm.Cu r=[4352+(r - 44032) / 588,4449+(r - 44032) % 588 / 28] ++ (if (r - 44032) % 28=0 then [] else [4519+(r - 44032) % 28]) from rfl);have HO:=jH hO;clear hO;by_cases h0:(r - 44032) % 28=0
 ·have h0':((r - 44032) % 28 == 0)=true:=by simpa using h0
  have H0:=jH h0;clear h0;go_enter func351,ntmps351;go_wp2_with (at_builtin;refine Bq w 60 21 (.int .i32 0) 4 underlying60 Bn rfl jO base _ _ _ HO.out hb jO 2 jO _ rfl rfl _ rfl rfl _ _ rfl rfl rfl ?_;intro v2 w2 ho2 hg2;have O2:=jH ho2;have G2:=jH hg2;clear ho2 hg2);go_ret;refine ⟨_,rfl,?_,G2.out⟩;rw [H.out,if_pos H0.out,List.append_nil];exact Aw.more O2.out rfl rfl
 ·have h0':((r - 44032) % 28 == 0)=false:=by simpa using h0
  have H0:=jH h0;clear h0;have tok1:True:=trivial;go_enter func351,ntmps351;go_wp2_with (first
   | (at_builtin;have _t:=tok1;refine Bq w 60 21 (.int .i32 0) 4 underlying60 Bn rfl jO base _ _ _ HO.out hb jO 2 jO _ rfl rfl _ rfl rfl _ _ rfl rfl rfl ?_;intro v2 w2 ho2 hg2;have O2:Hid (Aw base v2 (o ++ [4352+(r - 44032) / 588,4449+(r - 44032) % 588 / 28]) w2):=jH (Aw.more ho2 rfl rfl);have G2:=jH hg2;clear ho2 hg2 tok1)
   | (at_builtin;refine Bq w2 60 21 (.int .i32 0) 4 underlying60 Bn rfl jO base _ _ _ O2.out (Nat.le_trans hb G2.out.size) (by simp;omega) 1 jO _ rfl rfl _ rfl rfl _ _ rfl rfl rfl ?_;intro v3 w3 ho3 hg3;have O3:=jH ho3;have G3:=jH hg3;clear ho3 hg3))
  go_ret;refine ⟨_,rfl,?_,G2.out.trans G3.out⟩;rw [H.out,if_neg H0.out,<- jaq];exact Aw.more O3.out rfl rfl
def Mv (base:Nat) (t:Value) (w:World):Prop:=∀ W,Below base w W->Table W t
theorem Mv.next {base:Nat} {t:Value} {w w':World} (h:Mv base t w) (hb:Below base w w'):Mv base t w':=λW hW=>h W (hb.trans hW)
theorem Mv.now {base:Nat} {t:Value} {w:World} (h:Mv base t w):Table w t:=h w (jan _ _)
def Er (n:Nat) (soft:Bool) (r:Int):Prop:=∀ (base:Nat) (t v:Value) (o:List Int) (w:World),Mv base t w->Aw base v o w->base<=w.heap.size->o.length<=n ->
 Calls prog 334 #[t,v,.int .i32 r,.bool soft] w (Lays base v (o ++ Norm.pieces soft r) w)
theorem At0 (soft:Bool) (r:Int) (h:Norm.syl r=true):Er 800000 soft r:=by
 intro base t v o w hT hO hb hl;have hS:=λW=>Of r W;rw [h] at hS;have HS:=jH hS;have e:Norm.pieces soft r=Norm.Cu r:=by rw [Norm.A9,h];rfl
 rw [e];have HC:=jH (λW (hW:Below w.heap.size w W)=>Afm base v o r W (hO.Ae hW) (Nat.le_trans hb hW.size) jO h);obtain ⟨b0,b1,b2,b3,rfl,-,-,-,-⟩:=hT.now;clear hS e h hT hO;go_enter func334,ntmps334;go_wp2_with fail;refine (HS.out _).mono ?_;rintro e w1 ⟨rfl,rfl⟩;go_wp2_with fail;refine (HC.out _ (Ac _ _)).mono ?_;rintro e w2 ⟨v2,rfl,ho2,hg2⟩;have R:=jH (And.intro ho2 ((Cf.Ch (Ac w _) v).trans hg2));clear ho2 hg2;go_wp2;go_ret;exact ⟨v2,rfl,R.out.1,R.out.2⟩
theorem Zp (soft:Bool) (r:Int) (h:Norm.syl r=false) (hs:∀ y,Ak r=some y->y.soft=true/\soft=false):Er 800000 soft r:=by
 intro base t v o w hT hO hb hl;have hS:=λW=>Of r W;rw [h] at hS;have HS:=jH hS;rw [Ai3 h hs];have hR:=λW (hW:Below w.heap.size w W)=>Oo t r W (hT W (hW.mono hb));have HO:=jH hO;obtain ⟨b0,b1,b2,b3,rfl,-,-,-,-⟩:=hT.now;clear hT hO;cases ho:Ak r with
 | none =>
  rw [ho] at hR;have HR:=jH hR;clear hS h hs hR ho;go_enter func334,ntmps334;go_wp2_with fail;refine (HS.out _).mono ?_;rintro e w1 ⟨rfl,rfl⟩;go_wp2_with fail;refine (HR.out _ (Ac _ _)).mono ?_;rintro e w2 ⟨rfl,hb2⟩;have B2:=jH (Aa (Ac w _) hb2);clear hb2;simp only [Option.getD_none,Option.isSome_none,F7];go_wp2_with (at_builtin;refine Bq (w2.alloc _) 60 21 (.int .i32 0) 4 underlying60 Bn rfl jO base _ _ _ (HO.out.Ae (Am B2.out (jaa _) _)) (Nat.le_trans hb (Am B2.out (jaa _) _).size) jO 1 jO _ rfl rfl _ jS rfl _ _ rfl rfl rfl ?_;intro v3 w3 ho3 hg3;have O3:Hid (Aw base v3 (o ++ [r]) w3):=jH (Aw.more ho3 rfl rfl);have G3:=jH ((Cf.Ch (Am B2.out (jaa _) _) v).trans hg3);clear ho3 hg3);go_ret;exact ⟨_,rfl,O3.out,G3.out⟩
 | some y =>
  obtain ⟨h1,rfl⟩:=hs y ho;rw [ho] at hR;obtain ⟨v0,v1,v2,v3,v4⟩:=y;simp only at h1;subst h1;have HR:=jH hR;clear hS h hs hR ho;go_enter func334,ntmps334;go_wp2_with fail;refine (HS.out _).mono ?_;rintro e w1 ⟨rfl,rfl⟩;go_wp2_with fail;refine (HR.out _ (Ac _ _)).mono ?_;rintro e w2 ⟨rfl,hb2⟩;have B2:=jH (Aa (Ac w _) hb2);clear hb2;simp only [Option.getD_some,Option.isSome_some,F7];go_wp2_with (at_builtin;refine Bq (w2.alloc _) 60 21 (.int .i32 0) 4 underlying60 Bn rfl jO base _ _ _ (HO.out.Ae (Am B2.out (jaa _) _)) (Nat.le_trans hb (Am B2.out (jaa _) _).size) jO 1 jO _ rfl rfl _ jS rfl _ _ rfl rfl rfl ?_;intro v3 w3 ho3 hg3;have O3:Hid (Aw base v3 (o ++ [r]) w3):=jH (Aw.more ho3 rfl rfl);have G3:=jH ((Cf.Ch (Am B2.out (jaa _) _) v).trans hg3);clear ho3 hg3);go_ret;exact ⟨_,rfl,O3.out,G3.out⟩
theorem Je {c0 c1 c2 c3:Value} {w w1:World} (hb:Below (w.alloc (.cells #[c0,c1,c2,c3] 36)).heap.size (w.alloc (.cells #[c0,c1,c2,c3] 36)) w1) :
  w.heap.size<w1.heap.size/\w1.cell? ⟨w.heap.size,0,none⟩=some c0/\w1.cell? ⟨w.heap.size,1,none⟩=some c1/\w1.cell? ⟨w.heap.size,2,none⟩=some c2/\w1.cell? ⟨w.heap.size,3,none⟩=some c3:=by
 have hc:∀ i,w1.cell? ⟨w.heap.size,i,none⟩=_:=λi=>hb.cell (p:=⟨w.heap.size,i,none⟩) (show w.heap.size<_ by simp);exact ⟨by have:=hb.size;simp at this;omega,(hc 0).trans (by go_simp),(hc 1).trans (by go_simp),(hc 2).trans (by go_simp),(hc 3).trans (by go_simp)⟩
theorem Hi {base:Nat} {v v':Value} {o:List Int} {w W W':World} (h:Cf v v' W W') (hO:Aw base v o w) {p:Addr} (hp:w.heap.size<=p.block) {x:Value} (hx:W.cell? p=some x):W'.cell? p=some x :=
 (h.cell (jam _ _ hx) (hO.under hp)).trans hx
theorem Ayo (n n1:Nat) (soft:Bool) (r:Int) (y:Sp) (h:Norm.syl r=false) (hs:Ak r=some y) (hn:(y.soft && !soft)=false) (hp:(Norm.pieces soft y.one).length<=48) (hnn:n+48<=n1)
  (H1:Er n1 soft y.one) (H2:Er n1 soft y.two):Er n soft r:=by
 intro base t v o w hT hO hb hl;have hS:=λW=>Of r W;rw [h] at hS;have HS:=jH hS;rw [Ast h hs hn];have hR:=λW (hW:Below w.heap.size w W)=>Oo t r W (hT W (hW.mono hb));rw [hs] at hR;obtain ⟨v0,v1,v2,v3,v4⟩:=y;simp only at H1 H2 hn hp ⊢;have K1:=jH H1;have K2:=jH H2;have HT:=jH hT;have HO:=jH hO;have HR:=jH hR;obtain ⟨b0,b1,b2,b3,rfl,-,-,-,-⟩:=hT.now;unfold Er at K1 K2;generalize Norm.pieces soft v1=a at K1 hp ⊢;generalize Norm.pieces soft v2=b at K2 ⊢;have HP:=jH hp;clear hS h hs hR H1 H2 hp hT hO;by_cases h0:v2=0
 ·rw [if_pos h0];subst h0;cases v3<;>cases soft<;>simp only [Bool.not_true,Bool.not_false,Bool.and_true,Bool.and_false,reduceCtorEq] at hn
  all_goals
   clear hn K2;go_enter func334,ntmps334;go_wp2_with fail;refine (HS.out _).mono ?_;rintro e w1 ⟨rfl,rfl⟩;go_wp2_with fail;refine (HR.out _ (Ac _ _)).mono ?_;rintro e w2 ⟨rfl,hb2⟩;have B2:=jH (Aa (Ac w _) hb2);obtain ⟨hz,e0,e1,e2,e3⟩:=Je hb2;clear hb2;simp only [Option.getD_some,Option.isSome_some,F7];have W3:=jH (λob=>Am B2.out (jaa _) ob);go_wp2_with fail;refine (K1.out base _ v o _ (HT.out.next ((W3.out _).mono hb)) (HO.out.Ae (W3.out _)) (Nat.le_trans hb (W3.out _).size) jO).mono ?_;rintro e w3 ⟨v5,rfl,ho3,hg3⟩;have G3:=jH hg3;have O3:=jH ho3;have hz3:w.heap.size<w3.heap.size:=jas (jas hz jS) hg3.size;have hy3:w2.heap.size<w3.heap.size:=jas jS hg3.size;have f0:=Hi hg3 HO.out (p:=⟨w.heap.size,0,none⟩) (jaa _) (F5 _ e0);have f1:=Hi hg3 HO.out (p:=⟨w.heap.size,1,none⟩) (jaa _) (F5 _ e1);have f2:=Hi hg3 HO.out (p:=⟨w.heap.size,2,none⟩) (jaa _) (F5 _ e2);have f3:=Hi hg3 HO.out (p:=⟨w.heap.size,3,none⟩) (jaa _) (F5 _ e3);have f4:w3.cell? ⟨w2.heap.size,2,none⟩=some (.int .i32 0):=Hi hg3 HO.out (p:=⟨w2.heap.size,2,none⟩) (Nat.le_of_lt hz) jS;have G4:=jH ((Cf.Ch (W3.out _) v).trans hg3);clear ho3 hg3 e0 e1 e2 e3;go_wp2;go_ret;exact ⟨_,rfl,by rw [List.append_nil];exact O3.out,G4.out⟩
 ·rw [if_neg h0];have hne:(v2 == 0)=false:=by simpa using h0
  clear h0;cases v3<;>cases soft<;>simp only [Bool.not_true,Bool.not_false,Bool.and_true,Bool.and_false,reduceCtorEq] at hn
  all_goals
   clear hn;go_enter func334,ntmps334;go_wp2_with fail;refine (HS.out _).mono ?_;rintro e w1 ⟨rfl,rfl⟩;go_wp2_with fail;refine (HR.out _ (Ac _ _)).mono ?_;rintro e w2 ⟨rfl,hb2⟩;have B2:=jH (Aa (Ac w _) hb2);obtain ⟨hz,e0,e1,e2,e3⟩:=Je hb2;clear hb2;simp only [Option.getD_some,Option.isSome_some,F7];have W3:=jH (λob=>Am B2.out (jaa _) ob);go_wp2_with fail;refine (K1.out base _ v o _ (HT.out.next ((W3.out _).mono hb)) (HO.out.Ae (W3.out _)) (Nat.le_trans hb (W3.out _).size) jO).mono ?_;rintro e w3 ⟨v5,rfl,ho3,hg3⟩;have G3:=jH hg3;have O3:=jH ho3;have hz3:w.heap.size<w3.heap.size:=jas (jas hz jS) hg3.size;have hy3:w2.heap.size<w3.heap.size:=jas jS hg3.size;have f0:=Hi hg3 HO.out (p:=⟨w.heap.size,0,none⟩) (jaa _) (F5 _ e0);have f1:=Hi hg3 HO.out (p:=⟨w.heap.size,1,none⟩) (jaa _) (F5 _ e1);have f2:=Hi hg3 HO.out (p:=⟨w.heap.size,2,none⟩) (jaa _) (F5 _ e2);have f3:=Hi hg3 HO.out (p:=⟨w.heap.size,3,none⟩) (jaa _) (F5 _ e3);have f4:w3.cell? ⟨w2.heap.size,2,none⟩=some (.int .i32 v2):=Hi hg3 HO.out (p:=⟨w2.heap.size,2,none⟩) (Nat.le_of_lt hz) jS;have G4:=jH ((Cf.Ch (W3.out _) v).trans hg3);clear ho3 hg3 e0 e1 e2 e3;go_wp2_with fail;refine (K2.out base _ v5 (o ++ a) _ (HT.out.next (G4.out.below hb HO.out.off)) O3.out (Nat.le_trans hb (Nat.le_of_lt hz3)) (by rw [jab];have:=HP.out;omega)).mono ?_;rintro e w6 ⟨v6,rfl,ho6,hg6⟩;have R:=jH (And.intro ho6 (G4.out.trans hg6))
   clear ho6 hg6;go_wp2;go_ret;refine ⟨_,rfl,?_,R.out.2⟩;rw [<- jaq];exact R.out.1
theorem Zm (n n1:Nat) (h8:n<=800000) (hnn:n+48<=n1) (soft:Bool) (r:Int) (H:∀ y,Ak r=some y->Er n1 soft y.one/\Er n1 soft y.two):Er n soft r:=by
 have weak:Er 800000 soft r->Er n soft r:=λh base t v o w h1 h2 h3 h4=>h base t v o w h1 h2 h3 jO;cases hS:Norm.syl r with
 | true=>exact weak (At0 soft r hS)
 | false =>
  cases hs:Ak r with
  | none=>exact weak (Zp soft r hS λy hy=>by rw [hs] at hy;cases hy)
  | some y =>
   cases hn:(y.soft && !soft) with
   | true =>
    refine weak (Zp soft r hS λz hz=>?_);rw [hs] at hz;obtain rfl:=Option.some.inj hz;simpa using hn
   | false =>
    obtain ⟨h1,h2⟩:=H y hs;exact Ayo n n1 soft r y hS hs hn (Am2 _ _) hnn h1 h2
theorem Vb (soft:Bool) (r:Int) (h:flat r=true):Er 700000 soft r :=
 Zm 700000 800000 jO jO soft r λy hy=>by unfold flat at h;rw [hy] at h;cases h
theorem Vc (soft:Bool) (r:Int) (h:Uv r=true):Er 600000 soft r :=
 Zm 600000 700000 jO jO soft r λy hy=>by
  unfold Uv at h;rw [hy] at h;simp only [jag] at h;exact ⟨Vb soft _ h.1,Vb soft _ h.2⟩
theorem Afl (soft:Bool) (r:Int):Er 500000 soft r :=
 Zm 500000 600000 jO jO soft r λ_ hy=>⟨Vc soft _ (Zn hy).1,Vc soft _ (Zn hy).2⟩
end
section
open Go.RowKit Utf
theorem Acg {w w1:World} (h:w.grownBy w1 none):Below w.heap.size w w1:=⟨h.os,h.tape,h.output,h.size,λk hk=>h.block k hk jS⟩
theorem Afk (t v:Value) (l:List Int) (soft:Bool) (w:World) (hT:Table w t) (hl:Runes v l w) (hn:l.length<=10000):Calls prog 293 #[t,v,.bool soft] w (Jd (Norm.split soft l) w):=by
 have hT':=hT;obtain ⟨b0,b1,b2,b3,rfl,-,-,-,-⟩:=hT';obtain ⟨A,c,rfl,hc,hcell⟩:=hl.form;have HC:=jH hcell;have HT:=jH (show Mv w.heap.size _ w from λW hW=>hT.below hW);obtain ⟨i0,hi0,hz0,hs0,hb0⟩:=info_parts Bn;have hby:i0.bytes*l.length<=281474976710656:=by rw [hb0];omega
 clear hT hl hcell;go_enter func293,ntmps293;go_wp2_with (at_make;refine wpList_make_own _ rfl _ _ 60 rfl w.heap.size 21 i0 (.int .i32 0) 1 underlying60 hi0 hz0 hs0 _ _ _ l.length rfl rfl rfl hby (by simp only [maxLen];omega) jS ?_;intro w1 ho1 hg1);have hb1:=Acg hg1;obtain ⟨hz1,e0,e1,e2,e3⟩:=Je hb1;have hsz1:w.heap.size+1<w1.heap.size:=by have:=(World.ownsRow.lt ho1 (w.heap.size+1) (by simp [Value.ownBlock])).2;omega
 have E:=jH (And.intro e0 (And.intro e1 (And.intro e2 e3)));have B1:=jH (Aa (Ac w _) hb1);have O1:Hid (Aw w.heap.size (.slice (some ⟨w.heap.size+1,0,none⟩) 0 l.length) [] w1):=jH (by simpa [Aw] using ho1);clear hb1 hg1 ho1 e0 e1 e2 e3 hby hb0 hs0 hz0 hi0;go_loopg [7,9,15] (l.length+1) (λgk v _ i wr=>∃ k:Nat,k<=l.length/\i=.int .i64 k/\l.length - k<gk/\Hid (Aw w.heap.size v (Norm.split soft (l.take k)) wr/\Cf (.slice (some ⟨w.heap.size+1,0,none⟩) 0 l.length) v w1 wr))
 case atStart=>exact ⟨0,Nat.zero_le _,rfl,by omega,⟨O1.out,Cf.refl _ _⟩⟩
 case round =>
  obtain ⟨k,hk,rfl,hg,I⟩:=hrel;have hBW:=B1.out.trans (I.out.2.below (base:=w.heap.size) jO (λj hj=>by simp [Value.ownBlock] at hj;omega));have BW:=jH hBW;by_cases hlt:k<l.length
  ·obtain ⟨ad,rfl,hb,hx⟩:=HC.out k hlt;have hx':=(hBW.cell (by rw [Bf];exact hb)).trans hx;obtain ⟨x,hxe⟩:∃ x,x=l[k]!:=⟨_,rfl⟩
   rw [<- hxe] at hx';have HX:=jH hxe;have hkz:(k:Int)<(l.length:Int):=jO
   have hwz:w.heap.size<wr.heap.size:=by have:=I.out.2.size;omega
   have f0:=(I.out.2.cell (p:=⟨w.heap.size,0,none⟩) hz1 (by simp [Value.ownBlock])).trans E.out.1;have f1:=(I.out.2.cell (p:=⟨w.heap.size,1,none⟩) hz1 (by simp [Value.ownBlock])).trans E.out.2.1;have f2:=(I.out.2.cell (p:=⟨w.heap.size,2,none⟩) hz1 (by simp [Value.ownBlock])).trans E.out.2.2.1;have f3:=(I.out.2.cell (p:=⟨w.heap.size,3,none⟩) hz1 (by simp [Value.ownBlock])).trans E.out.2.2.2;have K:=jH (Afl soft x w.heap.size _ u7 _ wr (HT.out.next hBW) I.out.1 (Nat.le_of_lt hwz) (by have:=Aty soft (l.take k);rw [jak] at this;omega));clear hx hb hxe hBW;go_wp2_with fail;refine K.out.mono ?_;rintro e w3 ⟨v3,rfl,ho3,hg3⟩;have I2:Hid (Aw w.heap.size v3 (Norm.split soft (l.take (k+1))) w3/\Cf (.slice (some ⟨w.heap.size+1,0,none⟩) 0 l.length) v3 w1 w3):=by
    refine ⟨?_,I.out.2.trans hg3⟩;rw [I9 l k hlt,Ans,<- HX.out];exact ho3
   clear ho3 hg3 K f0 f1 f2 f3;go_wp2;go_roundg (l.length - k)
   case measure=>omega
   case rel=>exact ⟨k+1,by omega,by go_num,by omega,I2⟩
  ·obtain rfl:k=l.length:=jO
   clear hBW;go_wp2;go_ret;have h:=I.out.1;rw [List.take_length] at h;exact ⟨_,rfl,h,BW.out⟩
end
section
open Go.RowKit Utf
namespace Norm
def Aaj (a b:Int):Option Int :=
 if 4352<=a/\a<=4370/\4449<=b/\b<=4469 then some (44032+(a - 4352)*588+(b - 4449)*28)
 else if 44032<=a/\a<=55203/\(a - 44032) % 28=0/\4520<=b/\b<=4546 then some (a+b - 4519)
 else none
theorem Atn:∀ y ∈ splits,¬ (4352<=y.one/\y.one<=4370)/\¬ (44032<=y.one/\y.one<=55203):=by decide +kernel
theorem Anq {x:Int} {y:Sp} (h:Ak x=some y):¬ (4352<=y.one/\y.one<=4370)/\¬ (44032<=y.one/\y.one<=55203):=by
 rcases Bi h with ⟨hy,rfl⟩ | ⟨hw,rfl⟩
 ·exact Atn y hy
 ·simp only [Bj,jag,decide_eq_true_eq] at hw;simp only;omega
theorem Amm {a b x:Int} (h:Gk a b=some x):Dy a b=some x:=by
 obtain ⟨y,hy,rfl,rfl,-⟩:=Fx h;have:=Anq hy;rw [Api jO jO,h]
theorem Aml {a b:Int} (h:Gk a b=none):Dy a b=Aaj a b:=by
 unfold Aaj;by_cases h1:4352<=a/\a<=4370/\4449<=b/\b<=4469
 ·rw [if_pos h1,A2m h1]
 ·rw [if_neg h1];by_cases h2:44032<=a/\a<=55203/\(a - 44032) % 28=0/\4520<=b/\b<=4546
  · rw [if_pos h2,A14 h2]
  · rw [if_neg h2,Api h1 h2,h]
theorem Azy {a b:Int} (h:4352<=a/\a<=4370/\4449<=b/\b<=4469):Aaj a b=some (44032+(a - 4352)*588+(b - 4449)*28):=by unfold Aaj;rw [if_pos h]
theorem Awd {a b:Int} (h:44032<=a/\a<=55203/\(a - 44032) % 28=0/\4520<=b/\b<=4546):Aaj a b=some (a+b - 4519):=by unfold Aaj;rw [if_neg jO,if_pos h]
theorem Ao7 {a b:Int} (h1:¬ (4352<=a/\a<=4370/\4449<=b/\b<=4469)) (h2:¬ (44032<=a/\a<=55203/\(a - 44032) % 28=0/\4520<=b/\b<=4546)):Aaj a b=none:=by unfold Aaj;rw [if_neg h1,if_neg h2]
end Norm
def Ap7 (o:Option Int) (w:World) (e:Ending) (w':World):Prop:=e=.returned (.tuple #[.int .i32 (o.getD 0),.bool o.isSome])/\w=w'
theorem Ahs (a b:Int) (w:World):Calls prog 338 #[.int .i32 a,.int .i32 b] w (Ap7 (Norm.Aaj a b) w):=by
 have hS:=λW=>Of a W;cases hsy:Norm.syl a with
 | true =>
  obtain ⟨h1,h2⟩:=(Norm.Ce a).1 hsy;rw [hsy] at hS;have HS:=jH hS;clear hS hsy;go_enter func338,ntmps338;go_wp2_with (go_at_call 350;refine (HS.out _).mono ?_;rintro e w1 ⟨rfl,rfl⟩)
  all_goals go_ret2
  all_goals first
   | exact ⟨by rw [Norm.Awd jO];rfl,rfl⟩
   | exact ⟨by rw [Norm.Ao7 jO jO];rfl,rfl⟩
 | false =>
  have hno:¬ (44032<=a/\a<=55203):=λh=>by rw [(Norm.Ce a).2 h] at hsy;cases hsy
  have HNO:=jH hno;rw [hsy] at hS;have HS:=jH hS;clear hS hsy hno;go_enter func338,ntmps338;go_wp2_with (go_at_call 350;refine (HS.out _).mono ?_;rintro e w1 ⟨rfl,rfl⟩)
  all_goals go_ret2
  all_goals first
   | exact ⟨by rw [Norm.Azy jO];rfl,rfl⟩
   | exact ⟨by rw [Norm.Ao7 jO (by have:=HNO.out;omega)];rfl,rfl⟩
theorem Nd (t:Value) (a b:Int) (w:World) (hT:Table w t):Calls prog 295 #[t,.int .i32 a,.int .i32 b] w (Aa3 (Norm.Dy a b) w):=by
 have hP:=λW (h:Below w.heap.size w W)=>Axj t a b W (hT.below h);obtain ⟨b0,b1,b2,b3,rfl,-,-,-,-⟩:=hT;cases ho:Gk a b with
 | some x =>
  rw [Norm.Amm ho];rw [ho] at hP;have HP:=jH hP;clear hP ho;go_enter func295,ntmps295;go_wp2_with fail;refine (HP.out _ (Ac _ _)).mono ?_;rintro e w1 ⟨rfl,hb1⟩;have B:=jH (Aa (Ac w _) hb1);clear hb1;simp only [Option.getD_some,Option.isSome_some];go_wp2;go_ret2;exact ⟨rfl,B.out⟩
 | none =>
  rw [Norm.Aml ho];rw [ho] at hP;have HP:=jH hP;have HJ:=jH (λW=>Ahs a b W);generalize Norm.Aaj a b=o at HJ ⊢;clear hP ho;go_enter func295,ntmps295;go_wp2_with fail;refine (HP.out _ (Ac _ _)).mono ?_;rintro e w1 ⟨rfl,hb1⟩;have B:=jH (Aa (Ac w _) hb1);clear hb1;simp only [Option.getD_none,Option.isSome_none];go_wp2_with fail;refine (HJ.out _).mono ?_;rintro e w2 ⟨rfl,rfl⟩;go_wp2;go_ret2;exact ⟨rfl,B.out⟩
end
section
open Go.RowKit Utf
namespace Norm
def big (M:List Int):Int:=M.foldl (λb y=>max b (Ad y)) 0
theorem Au7 (M:List Int) (x:Int):big (M ++ [x])=max (big M) (Ad x):=by unfold big;rw [List.foldl_append];rfl
theorem Aep:∀ (M:List Int) (b c:Int),M.foldl (λb y=>max b (Ad y)) b<c ↔ b<c/\∀ y ∈ M,Ad y<c
 | [],b,c=>by simp
 | y::M,b,c=>by
  rw [List.foldl_cons,Aep M];simp only [jal,forall_eq_or_imp];constructor
  · rintro ⟨h1,h2⟩;exact ⟨by omega,by omega,h2⟩
  · rintro ⟨h1,h2,h3⟩;exact ⟨by omega,h3⟩
theorem A1o {M:List Int} {c:Int} (hM:∀ y ∈ M,0<Ad y) (hne:M ≠ []):big M<c ↔ M.all (λy=>decide (Ad y<c))=true:=by
 unfold big;rw [Aep,jar];constructor
 ·rintro ⟨_,h⟩ y hy;exact decide_eq_true (h y hy)
 ·intro h;refine ⟨?_,λy hy=>of_decide_eq_true (h y hy)⟩;cases M with
  | nil=>exact absurd rfl hne
  | cons y t=>have:=hM y jS;have:=of_decide_eq_true (h y jS);omega
theorem Ak3 (M:List Int):0<=big M:=by
 rcases Int.lt_or_le (big M) 0 with h | h
 · exact absurd ((Aep M 0 0).1 h).1 jO
 · exact h
theorem Asb {a b z:Int} (h:Dy a b=some z):¬ 0<Ad z:=by
 intro hc;have:=Lx false hc;cases hs:syl z with
 | true=>rw [Apy hs] at hc;omega
 | false =>
  unfold Dy at h;by_cases h1:4352<=a/\a<=4370/\4449<=b/\b<=4469
  ·rw [if_pos h1] at h;have hx:=(Option.some.inj h).symm;rw [(Ce z).2 jO] at hs;cases hs
  ·rw [if_neg h1] at h;by_cases h2:syl a=true/\(a - 44032) % 28=0/\4520<=b/\b<=4546
   ·rw [if_pos h2] at h;have hx:=(Option.some.inj h).symm;have ha:=(Ce a).1 h2.1;rw [(Ce z).2 jO] at hs;cases hs
   ·rw [if_neg h2] at h;obtain ⟨y,hy,-⟩:=Fx h;have:=Vd hy;simp only [Rv,decide_eq_true_eq] at this;omega
inductive At:List Int->Int->Int->Prop
 | none (o:List Int) (bw:Int):(∀ y ∈ o,0<Ad y)->At o (-1) bw
 | some (o Q:List Int) (s:Int) (M:List Int):o=Q ++ s::M->¬ 0<Ad s->(∀ y ∈ M,0<Ad y)->At o Q.length (big M)
theorem At.plain {o:List Int} (x:Int) (hx:¬ 0<Ad x):At (o ++ [x]) o.length 0:=At.some _ o x [] rfl hx (λy hy=>by cases hy)
theorem At.mark {Q M:List Int} {s:Int} (x:Int) (hs:¬ 0<Ad s) (hM:∀ y ∈ M,0<Ad y) (hx:0<Ad x):At ((Q ++ s::M) ++ [x]) Q.length (max (big M) (Ad x)):=by
 rw [<- Au7,jaq];refine At.some _ Q s (M ++ [x]) rfl hs λy hy=>?_;rcases jap.1 hy with h | h
 · exact hM y h
 · rw [List.mem_singleton] at h;rw [h];exact hx
theorem At.marks {o:List Int} (x:Int) (bw:Int) (ho:∀ y ∈ o,0<Ad y) (hx:0<Ad x):At (o ++ [x]) (-1) bw:=by
 refine At.none _ bw λy hy=>?_;rcases jap.1 hy with h | h
 · exact ho y h
 · rw [List.mem_singleton] at h;rw [h];exact hx
theorem At.made {Q M:List Int} {s x z:Int} (hM:∀ y ∈ M,0<Ad y) (h:Dy s x=Option.some z):At (Q ++ z::M) Q.length (big M):=At.some _ Q z M rfl (Asb h) hM
end Norm
theorem Ahq (t v:Value) (l:List Int) (w:World) (hT:Table w t) (hl:Runes v l w) (hn:l.length<=10000):Calls prog 246 #[t,v] w (Jd (Norm.join l) w):=by
 have hT':=hT;obtain ⟨b0,b1,b2,b3,rfl,-,-,-,-⟩:=hT';obtain ⟨A,c,rfl,hc,hcell⟩:=hl.form;have HC:=jH hcell;have HT:=jH (show Mv w.heap.size _ w from λW hW=>hT.below hW);obtain ⟨i0,hi0,hz0,hs0,hb0⟩:=info_parts Bn;have hby:i0.bytes*l.length<=281474976710656:=by rw [hb0];omega
 clear hT hl hcell;go_enter func246,ntmps246;go_wp2_with (at_make;refine wpList_make_own _ rfl _ _ 60 rfl w.heap.size 21 i0 (.int .i32 0) 1 underlying60 hi0 hz0 hs0 _ _ _ l.length rfl rfl rfl hby (by simp only [maxLen];omega) jS ?_;intro w1 ho1 hg1);have hb1:=Acg hg1;obtain ⟨hz1,e0,e1,e2,e3⟩:=Je hb1;have hsz1:w.heap.size+1<w1.heap.size:=by have:=(World.ownsRow.lt ho1 (w.heap.size+1) (by simp [Value.ownBlock])).2;omega
 have E:=jH (And.intro e0 (And.intro e1 (And.intro e2 e3)));have B1:=jH (Aa (Ac w _) hb1);have O1:Hid (Aw w.heap.size (.slice (some ⟨w.heap.size+1,0,none⟩) 0 l.length) [] w1):=jH (by simpa [Aw] using ho1);clear hb1 hg1 ho1 e0 e1 e2 e3 hby hb0 hs0 hz0 hi0;go_loopg [5,6,7,9,10,11,12,18] (l.length+1) (λgk v sb sw _ _ _ _ i wr=>∃ (k:Nat) (bs bw:Int),k<=l.length/\i=.int .i64 k/\sb=.int .i64 bs/\sw=.int .i64 bw/\l.length - k<gk/\Hid (Aw w.heap.size v (Norm.join (l.take k)) wr/\Cf (.slice (some ⟨w.heap.size+1,0,none⟩) 0 l.length) v w1 wr/\Norm.At (Norm.join (l.take k)) bs bw))
 case atStart=>exact ⟨0,-1,0,Nat.zero_le _,rfl,rfl,rfl,by omega,⟨O1.out,Cf.refl _ _,Norm.At.none _ _ (λy hy=>by cases hy)⟩⟩
 case round =>
  obtain ⟨k,bs,bw,hk,rfl,rfl,rfl,hg,I⟩:=hrel;have hBW:=B1.out.trans (I.out.2.1.below (base:=w.heap.size) jO (λj hj=>by simp [Value.ownBlock] at hj;omega));have BW:=jH hBW;by_cases hlt:k<l.length
  ·obtain ⟨ad,rfl,hb,hx⟩:=HC.out k hlt;have hx':=(hBW.cell (by rw [Bf];exact hb)).trans hx;obtain ⟨x,hxe⟩:∃ x,x=l[k]!:=⟨_,rfl⟩
   rw [<- hxe] at hx';have hol:=Norm.X0 l k hk;have hjt:=Norm.Ab8 l k hlt;rw [<- hxe] at hjt;generalize Norm.join (l.take k)=o at I hol hjt;have HJ:=jH hjt;have hkz:(k:Int)<(l.length:Int):=jO
   have hwz:w.heap.size<wr.heap.size:=by have:=I.out.2.1.size;omega
   have f0:=(I.out.2.1.cell (p:=⟨w.heap.size,0,none⟩) hz1 (by simp [Value.ownBlock])).trans E.out.1;have f1:=(I.out.2.1.cell (p:=⟨w.heap.size,1,none⟩) hz1 (by simp [Value.ownBlock])).trans E.out.2.1;have f2:=(I.out.2.1.cell (p:=⟨w.heap.size,2,none⟩) hz1 (by simp [Value.ownBlock])).trans E.out.2.2.1;have f3:=(I.out.2.1.cell (p:=⟨w.heap.size,3,none⟩) hz1 (by simp [Value.ownBlock])).trans E.out.2.2.2;have KC:=jH (Kh _ x wr (HT.out.next hBW).now);obtain ⟨cx,hcx⟩:∃ cx,cx=Ad x:=⟨_,rfl⟩
   rw [<- hcx] at KC;have HCX:=jH hcx;have HI:=jH (And.intro I.out.1 I.out.2.1);have hAt:=I.out.2.2;obtain ⟨A2,c2,hsl,hA2⟩:=HI.out.1.shape;have HA2:=jH hA2;subst hsl;have hol2:o.length<=900000:=jO
   clear hx hb hxe hBW hjt hcx I hA2;cases hAt with
   | none _ hm =>
    have NX:=jH (Norm.Asi x hm);have HMM:=jH hm;clear hm;go_wp2_with fail;refine KC.out.mono ?_;rintro e w3 ⟨rfl,hb3⟩;have B3:=jH hb3;have O3:=jH (HI.out.1.Ae hb3);have G3:=jH (HI.out.2.trans (Cf.Ch hb3 _));clear hb3 KC;by_cases hp:0<cx
    ·have HPX:=jH (show 0<Ad x by rw [<- HCX.out];exact hp);go_wp2_with (at_builtin;refine Bq w3 60 21 (.int .i32 0) 4 underlying60 Bn rfl jO w.heap.size _ _ _ O3.out (Nat.le_trans (Nat.le_of_lt hwz) B3.out.size) jO 1 jO _ rfl rfl _ rfl rfl _ _ rfl rfl rfl ?_;intro v5 w5 ho5 hg5;have O5:=jH ho5;have G5:=jH (G3.out.trans hg5);clear ho5 hg5)
     all_goals
      have I2:Hid (Aw w.heap.size v5 (Norm.join (l.take (k+1))) w5/\Cf (.slice (some ⟨w.heap.size+1,0,none⟩) 0 l.length) v5 w1 w5/\Norm.At (Norm.join (l.take (k+1))) (-1) (max bw cx)):=by
       refine ⟨?_,G5.out,?_⟩
       ·rw [HJ.out,NX.out];exact Aw.more O5.out rfl rfl
       ·rw [HJ.out,NX.out];exact Norm.At.marks x _ HMM.out HPX.out
      go_roundg (l.length - k)
      case measure=>omega
      case rel=>exact ⟨k+1,(-1),(max bw cx),by omega,by go_num,rfl,by first | rfl | (congr 1;omega),by omega,I2⟩
    ·have hp0:cx<=0:=jO
     have HPX:=jH (show ¬ 0<Ad x by rw [<- HCX.out];exact hp);go_wp2_with (at_builtin;refine Bq w3 60 21 (.int .i32 0) 4 underlying60 Bn rfl jO w.heap.size _ _ _ O3.out (Nat.le_trans (Nat.le_of_lt hwz) B3.out.size) jO 1 jO _ rfl rfl _ rfl rfl _ _ rfl rfl rfl ?_;intro v5 w5 ho5 hg5;have O5:=jH ho5;have G5:=jH (G3.out.trans hg5);clear ho5 hg5)
     all_goals
      have I2:Hid (Aw w.heap.size v5 (Norm.join (l.take (k+1))) w5/\Cf (.slice (some ⟨w.heap.size+1,0,none⟩) 0 l.length) v5 w1 w5/\Norm.At (Norm.join (l.take (k+1))) o.length 0):=by
       refine ⟨?_,G5.out,?_⟩
       ·rw [HJ.out,NX.out];exact Aw.more O5.out rfl rfl
       ·rw [HJ.out,NX.out];exact Norm.At.plain x (by have:=HPX.out;omega)
      go_roundg (l.length - k)
      case measure=>omega
      case rel=>exact ⟨k+1,o.length,0,by omega,by go_num,rfl,rfl,by omega,I2⟩
   | some Q s M hoe hs hm =>
    have hlen:o.length=Q.length+1+M.length:=by rw [hoe,jab,jac];omega
    obtain ⟨g,rfl,-,-⟩:=HA2.out jO;clear HA2;have hql:Q.length<o.length:=jO
    have NA:=jH (Norm.A0j (Q:=Q) s x hm hs);rw [<- hoe] at NA;have HMM:=jH hm;have HSS:=jH hs;have hbb:=Norm.Ak3 M;have HOE:=jH hoe;have hq0:(0:Int)<=(Q.length:Int):=jO
    have hqz:(Q.length:Int)<(o.length:Int):=jO
    have BL:=jH (λ(c:Int) (h:M ≠ [])=>Norm.A1o (c:=c) hm h);have HAM:=jH (λ(h:0<Ad x)=>Norm.At.mark (Q:=Q) x hs hm h);obtain ⟨bg,hbg⟩:∃ bg,bg=Norm.big M:=⟨_,rfl⟩
    rw [<- hbg] at hbb ⊢;have HBG:=jH hbg;by_cases hM0:M=[]
    ·have hbe:((Q.length:Int) == (o.length:Int) - 1)=true:=by rw [beq_iff_eq,hlen,hM0];simp
     have FR:=jH (show M.all (λy=>decide (Ad y<Ad x))=true by rw [hM0];rfl);have HM0:=jH hM0;clear hs hm hoe hlen hbg hM0;by_cases hp:0<cx
     ·go_wp2_with fail;refine KC.out.mono ?_;rintro e w3 ⟨rfl,hb3⟩;have B3:=jH hb3;have O3:=jH (HI.out.1.Ae hb3);have G3:=jH (HI.out.2.trans (Cf.Ch hb3 _));clear hb3 KC;have hz3:w.heap.size<w3.heap.size:=jas hwz B3.out.size;have k0:=(B3.out.cell (p:=⟨w.heap.size,0,none⟩) hwz).trans f0;have k1:=(B3.out.cell (p:=⟨w.heap.size,1,none⟩) hwz).trans f1;have k2:=(B3.out.cell (p:=⟨w.heap.size,2,none⟩) hwz).trans f2;have k3:=(B3.out.cell (p:=⟨w.heap.size,3,none⟩) hwz).trans f3;have cs:=O3.out.cell Q.length hql;rw [show o[Q.length]! = s by rw [HOE.out,Norm.Ld]] at cs;have KM:=jH (Nd _ s x w3.drew ((HT.out.next (BW.out.trans (B3.out.mono BW.out.size))).now.below (jan _ w3).drew));clear f0 f1 f2 f3;cases hmk:Norm.Dy s x with
      | none =>
       have NX:=jH (show Norm.next o x=o ++ [x] by rw [NA.out,if_pos FR.out,hmk,HOE.out]);rw [hmk] at KM;clear hmk;go_wp2;go_region_held3 (λw'=>w'.cell? ⟨g,Q.length,none⟩=some (.int .i32 s)/\w'.cell? ⟨w.heap.size,0,none⟩=some (.slice (some ⟨b0,0,none⟩) 74 74)/\w'.cell? ⟨w.heap.size,1,none⟩=some (.slice (some ⟨b1,0,none⟩) 10 10)/\w'.cell? ⟨w.heap.size,2,none⟩=some (.slice (some ⟨b2,0,none⟩) 11 11)/\w'.cell? ⟨w.heap.size,3,none⟩=some (.slice (some ⟨b3,0,none⟩) 42 42)) (go_keep) ((go_at_call 295;(with_reducible refine KM.out.mono ?_);rintro e1 w4 ⟨rfl,hb4⟩;have HB4:=jH (Ag hb4);have B4:=jH (B3.out.trans (HB4.out.mono B3.out.size));have O4:=jH (O3.out.Ae HB4.out);have G4:=jH (G3.out.trans (Cf.Ch HB4.out _));have q1:=O4.out.cell Q.length hql;(rw [show o[Q.length]! = s by rw [HOE.out,Norm.Ld]] at q1);have fr4:=O4.out.free Q.length;have q2:=(HB4.out.cell (p:=⟨w.heap.size,0,none⟩) hz3).trans k0;have q3:=(HB4.out.cell (p:=⟨w.heap.size,1,none⟩) hz3).trans k1;have q4:=(HB4.out.cell (p:=⟨w.heap.size,2,none⟩) hz3).trans k2;have q5:=(HB4.out.cell (p:=⟨w.heap.size,3,none⟩) hz3).trans k3;clear hb4 cs k0 k1 k2 k3))
       all_goals
        have HPX:=jH (show 0<Ad x by rw [<- HCX.out];exact hp);go_wp2_with (at_builtin;refine Bq w4 60 21 (.int .i32 0) 4 underlying60 Bn rfl jO w.heap.size _ _ _ O4.out (Nat.le_trans (Nat.le_of_lt hwz) B4.out.size) jO 1 jO _ rfl rfl _ rfl rfl _ _ rfl rfl rfl ?_;intro v5 w5 ho5 hg5;have O5:=jH ho5;have G5:=jH (G4.out.trans hg5);clear ho5 hg5)
        all_goals
         have I2:Hid (Aw w.heap.size v5 (Norm.join (l.take (k+1))) w5/\Cf (.slice (some ⟨w.heap.size+1,0,none⟩) 0 l.length) v5 w1 w5/\Norm.At (Norm.join (l.take (k+1))) Q.length (max bg cx)):=by
          refine ⟨?_,G5.out,?_⟩
          · rw [HJ.out,NX.out];exact Aw.more O5.out rfl rfl
          · rw [HJ.out,NX.out];rw [HOE.out,HBG.out,HCX.out];exact HAM.out HPX.out
         go_roundg (l.length - k)
         case measure=>omega
         case rel=>exact ⟨k+1,Q.length,(max bg cx),by omega,by go_num,rfl,by first | rfl | (congr 1;omega),by omega,I2⟩
      | some z =>
       have NX:=jH (show Norm.next o x=Q ++ z::M by rw [NA.out,if_pos FR.out,hmk]);have HMK:=jH (Norm.At.made (Q:=Q) HMM.out hmk);rw [hmk] at KM;clear hmk;go_wp2;go_region_held3 (λw'=>w'.cell? ⟨g,Q.length,none⟩=some (.int .i32 s)/\w'.cell? ⟨w.heap.size,0,none⟩=some (.slice (some ⟨b0,0,none⟩) 74 74)/\w'.cell? ⟨w.heap.size,1,none⟩=some (.slice (some ⟨b1,0,none⟩) 10 10)/\w'.cell? ⟨w.heap.size,2,none⟩=some (.slice (some ⟨b2,0,none⟩) 11 11)/\w'.cell? ⟨w.heap.size,3,none⟩=some (.slice (some ⟨b3,0,none⟩) 42 42)) (go_keep) ((go_at_call 295;(with_reducible refine KM.out.mono ?_);rintro e1 w4 ⟨rfl,hb4⟩;have HB4:=jH (Ag hb4);have B4:=jH (B3.out.trans (HB4.out.mono B3.out.size));have O4:=jH (O3.out.Ae HB4.out);have G4:=jH (G3.out.trans (Cf.Ch HB4.out _));have q1:=O4.out.cell Q.length hql;(rw [show o[Q.length]! = s by rw [HOE.out,Norm.Ld]] at q1);have fr4:=O4.out.free Q.length;have q2:=(HB4.out.cell (p:=⟨w.heap.size,0,none⟩) hz3).trans k0;have q3:=(HB4.out.cell (p:=⟨w.heap.size,1,none⟩) hz3).trans k1;have q4:=(HB4.out.cell (p:=⟨w.heap.size,2,none⟩) hz3).trans k2;have q5:=(HB4.out.cell (p:=⟨w.heap.size,3,none⟩) hz3).trans k3;clear hb4 cs k0 k1 k2 k3))
       all_goals
        have I2:Hid (Aw w.heap.size (.slice (some ⟨g,0,none⟩) o.length c2) (Norm.join (l.take (k+1))) (w4.setCell ⟨g,Q.length,none⟩ (.int .i32 z))/\Cf (.slice (some ⟨w.heap.size+1,0,none⟩) 0 l.length) (.slice (some ⟨g,0,none⟩) o.length c2) w1 (w4.setCell ⟨g,Q.length,none⟩ (.int .i32 z))/\Norm.At (Norm.join (l.take (k+1))) Q.length bg):=by
         refine ⟨?_,G4.out.trans (Cf.put _ _ _ _ _ _),?_⟩
         ·rw [HJ.out,NX.out];have h:=O4.out.put Q.length z;rwa [show o.set Q.length z=Q ++ z::M by rw [HOE.out,Norm.Afg]] at h
         ·rw [HJ.out,NX.out,HBG.out];exact HMK.out
        go_wp2;go_roundg (l.length - k)
        case measure=>omega
        case rel=>exact ⟨k+1,Q.length,bg,by omega,by go_num,rfl,rfl,by omega,I2⟩
     ·have hp0:cx<=0:=jO
      go_wp2_with fail;refine KC.out.mono ?_;rintro e w3 ⟨rfl,hb3⟩;have B3:=jH hb3;have O3:=jH (HI.out.1.Ae hb3);have G3:=jH (HI.out.2.trans (Cf.Ch hb3 _));clear hb3 KC;have hz3:w.heap.size<w3.heap.size:=jas hwz B3.out.size;have k0:=(B3.out.cell (p:=⟨w.heap.size,0,none⟩) hwz).trans f0;have k1:=(B3.out.cell (p:=⟨w.heap.size,1,none⟩) hwz).trans f1;have k2:=(B3.out.cell (p:=⟨w.heap.size,2,none⟩) hwz).trans f2;have k3:=(B3.out.cell (p:=⟨w.heap.size,3,none⟩) hwz).trans f3;have cs:=O3.out.cell Q.length hql;rw [show o[Q.length]! = s by rw [HOE.out,Norm.Ld]] at cs;have KM:=jH (Nd _ s x w3.drew ((HT.out.next (BW.out.trans (B3.out.mono BW.out.size))).now.below (jan _ w3).drew));clear f0 f1 f2 f3;cases hmk:Norm.Dy s x with
      | none =>
       have NX:=jH (show Norm.next o x=o ++ [x] by rw [NA.out,if_pos FR.out,hmk,HOE.out]);rw [hmk] at KM;clear hmk;go_wp2;go_region_held3 (λw'=>w'.cell? ⟨g,Q.length,none⟩=some (.int .i32 s)/\w'.cell? ⟨w.heap.size,0,none⟩=some (.slice (some ⟨b0,0,none⟩) 74 74)/\w'.cell? ⟨w.heap.size,1,none⟩=some (.slice (some ⟨b1,0,none⟩) 10 10)/\w'.cell? ⟨w.heap.size,2,none⟩=some (.slice (some ⟨b2,0,none⟩) 11 11)/\w'.cell? ⟨w.heap.size,3,none⟩=some (.slice (some ⟨b3,0,none⟩) 42 42)) (go_keep) ((go_at_call 295;(with_reducible refine KM.out.mono ?_);rintro e1 w4 ⟨rfl,hb4⟩;have HB4:=jH (Ag hb4);have B4:=jH (B3.out.trans (HB4.out.mono B3.out.size));have O4:=jH (O3.out.Ae HB4.out);have G4:=jH (G3.out.trans (Cf.Ch HB4.out _));have q1:=O4.out.cell Q.length hql;(rw [show o[Q.length]! = s by rw [HOE.out,Norm.Ld]] at q1);have fr4:=O4.out.free Q.length;have q2:=(HB4.out.cell (p:=⟨w.heap.size,0,none⟩) hz3).trans k0;have q3:=(HB4.out.cell (p:=⟨w.heap.size,1,none⟩) hz3).trans k1;have q4:=(HB4.out.cell (p:=⟨w.heap.size,2,none⟩) hz3).trans k2;have q5:=(HB4.out.cell (p:=⟨w.heap.size,3,none⟩) hz3).trans k3;clear hb4 cs k0 k1 k2 k3))
       all_goals
        have HPX:=jH (show ¬ 0<Ad x by rw [<- HCX.out];omega);go_wp2_with (at_builtin;refine Bq w4 60 21 (.int .i32 0) 4 underlying60 Bn rfl jO w.heap.size _ _ _ O4.out (Nat.le_trans (Nat.le_of_lt hwz) B4.out.size) jO 1 jO _ rfl rfl _ rfl rfl _ _ rfl rfl rfl ?_;intro v5 w5 ho5 hg5;have O5:=jH ho5;have G5:=jH (G4.out.trans hg5);clear ho5 hg5)
        all_goals
         have I2:Hid (Aw w.heap.size v5 (Norm.join (l.take (k+1))) w5/\Cf (.slice (some ⟨w.heap.size+1,0,none⟩) 0 l.length) v5 w1 w5/\Norm.At (Norm.join (l.take (k+1))) o.length 0):=by
          refine ⟨?_,G5.out,?_⟩
          · rw [HJ.out,NX.out];exact Aw.more O5.out rfl rfl
          · rw [HJ.out,NX.out];exact Norm.At.plain x (by have:=HPX.out;omega)
         go_roundg (l.length - k)
         case measure=>omega
         case rel=>exact ⟨k+1,o.length,0,by omega,by go_num,rfl,by first | rfl | (congr 1;omega),by omega,I2⟩
      | some z =>
       have NX:=jH (show Norm.next o x=Q ++ z::M by rw [NA.out,if_pos FR.out,hmk]);have HMK:=jH (Norm.At.made (Q:=Q) HMM.out hmk);rw [hmk] at KM;clear hmk;go_wp2;go_region_held3 (λw'=>w'.cell? ⟨g,Q.length,none⟩=some (.int .i32 s)/\w'.cell? ⟨w.heap.size,0,none⟩=some (.slice (some ⟨b0,0,none⟩) 74 74)/\w'.cell? ⟨w.heap.size,1,none⟩=some (.slice (some ⟨b1,0,none⟩) 10 10)/\w'.cell? ⟨w.heap.size,2,none⟩=some (.slice (some ⟨b2,0,none⟩) 11 11)/\w'.cell? ⟨w.heap.size,3,none⟩=some (.slice (some ⟨b3,0,none⟩) 42 42)) (go_keep) ((go_at_call 295;(with_reducible refine KM.out.mono ?_);rintro e1 w4 ⟨rfl,hb4⟩;have HB4:=jH (Ag hb4);have B4:=jH (B3.out.trans (HB4.out.mono B3.out.size));have O4:=jH (O3.out.Ae HB4.out);have G4:=jH (G3.out.trans (Cf.Ch HB4.out _));have q1:=O4.out.cell Q.length hql;(rw [show o[Q.length]! = s by rw [HOE.out,Norm.Ld]] at q1);have fr4:=O4.out.free Q.length;have q2:=(HB4.out.cell (p:=⟨w.heap.size,0,none⟩) hz3).trans k0;have q3:=(HB4.out.cell (p:=⟨w.heap.size,1,none⟩) hz3).trans k1;have q4:=(HB4.out.cell (p:=⟨w.heap.size,2,none⟩) hz3).trans k2;have q5:=(HB4.out.cell (p:=⟨w.heap.size,3,none⟩) hz3).trans k3;clear hb4 cs k0 k1 k2 k3))
       all_goals
        have I2:Hid (Aw w.heap.size (.slice (some ⟨g,0,none⟩) o.length c2) (Norm.join (l.take (k+1))) (w4.setCell ⟨g,Q.length,none⟩ (.int .i32 z))/\Cf (.slice (some ⟨w.heap.size+1,0,none⟩) 0 l.length) (.slice (some ⟨g,0,none⟩) o.length c2) w1 (w4.setCell ⟨g,Q.length,none⟩ (.int .i32 z))/\Norm.At (Norm.join (l.take (k+1))) Q.length bg):=by
         refine ⟨?_,G4.out.trans (Cf.put _ _ _ _ _ _),?_⟩
         ·rw [HJ.out,NX.out];have h:=O4.out.put Q.length z;rwa [show o.set Q.length z=Q ++ z::M by rw [HOE.out,Norm.Afg]] at h
         ·rw [HJ.out,NX.out,HBG.out];exact HMK.out
        go_wp2;go_roundg (l.length - k)
        case measure=>omega
        case rel=>exact ⟨k+1,Q.length,bg,by omega,by go_num,rfl,rfl,by omega,I2⟩
    ·have hMl:0<M.length:=by rcases Nat.eq_zero_or_pos M.length with h | h;exact absurd (List.eq_nil_of_length_eq_zero h) hM0;exact h
     have hbe:((Q.length:Int) == (o.length:Int) - 1)=false:=by rw [beq_eq_false_iff_ne,hlen];omega
     have HM0:=jH hM0;by_cases hbw:bg<cx
     ·have FR:=jH (show M.all (λy=>decide (Ad y<Ad x))=true by rw [<- HCX.out];exact (BL.out cx hM0).1 (by rw [<- hbg];exact hbw));have hp:0<cx:=jO
      clear hs hm hoe hlen hbg hM0;go_wp2_with fail;refine KC.out.mono ?_;rintro e w3 ⟨rfl,hb3⟩;have B3:=jH hb3;have O3:=jH (HI.out.1.Ae hb3);have G3:=jH (HI.out.2.trans (Cf.Ch hb3 _));clear hb3 KC;have hz3:w.heap.size<w3.heap.size:=jas hwz B3.out.size;have k0:=(B3.out.cell (p:=⟨w.heap.size,0,none⟩) hwz).trans f0;have k1:=(B3.out.cell (p:=⟨w.heap.size,1,none⟩) hwz).trans f1;have k2:=(B3.out.cell (p:=⟨w.heap.size,2,none⟩) hwz).trans f2;have k3:=(B3.out.cell (p:=⟨w.heap.size,3,none⟩) hwz).trans f3;have cs:=O3.out.cell Q.length hql;rw [show o[Q.length]! = s by rw [HOE.out,Norm.Ld]] at cs;have KM:=jH (Nd _ s x w3.drew ((HT.out.next (BW.out.trans (B3.out.mono BW.out.size))).now.below (jan _ w3).drew));clear f0 f1 f2 f3;cases hmk:Norm.Dy s x with
      | none =>
       have NX:=jH (show Norm.next o x=o ++ [x] by rw [NA.out,if_pos FR.out,hmk,HOE.out]);rw [hmk] at KM;clear hmk;go_wp2;go_region_held3 (λw'=>w'.cell? ⟨g,Q.length,none⟩=some (.int .i32 s)/\w'.cell? ⟨w.heap.size,0,none⟩=some (.slice (some ⟨b0,0,none⟩) 74 74)/\w'.cell? ⟨w.heap.size,1,none⟩=some (.slice (some ⟨b1,0,none⟩) 10 10)/\w'.cell? ⟨w.heap.size,2,none⟩=some (.slice (some ⟨b2,0,none⟩) 11 11)/\w'.cell? ⟨w.heap.size,3,none⟩=some (.slice (some ⟨b3,0,none⟩) 42 42)) (go_keep) ((go_at_call 295;(with_reducible refine KM.out.mono ?_);rintro e1 w4 ⟨rfl,hb4⟩;have HB4:=jH (Ag hb4);have B4:=jH (B3.out.trans (HB4.out.mono B3.out.size));have O4:=jH (O3.out.Ae HB4.out);have G4:=jH (G3.out.trans (Cf.Ch HB4.out _));have q1:=O4.out.cell Q.length hql;(rw [show o[Q.length]! = s by rw [HOE.out,Norm.Ld]] at q1);have fr4:=O4.out.free Q.length;have q2:=(HB4.out.cell (p:=⟨w.heap.size,0,none⟩) hz3).trans k0;have q3:=(HB4.out.cell (p:=⟨w.heap.size,1,none⟩) hz3).trans k1;have q4:=(HB4.out.cell (p:=⟨w.heap.size,2,none⟩) hz3).trans k2;have q5:=(HB4.out.cell (p:=⟨w.heap.size,3,none⟩) hz3).trans k3;clear hb4 cs k0 k1 k2 k3))
       all_goals
        have HPX:=jH (show 0<Ad x by rw [<- HCX.out];exact hp);go_wp2_with (at_builtin;refine Bq w4 60 21 (.int .i32 0) 4 underlying60 Bn rfl jO w.heap.size _ _ _ O4.out (Nat.le_trans (Nat.le_of_lt hwz) B4.out.size) jO 1 jO _ rfl rfl _ rfl rfl _ _ rfl rfl rfl ?_;intro v5 w5 ho5 hg5;have O5:=jH ho5;have G5:=jH (G4.out.trans hg5);clear ho5 hg5)
        all_goals
         have I2:Hid (Aw w.heap.size v5 (Norm.join (l.take (k+1))) w5/\Cf (.slice (some ⟨w.heap.size+1,0,none⟩) 0 l.length) v5 w1 w5/\Norm.At (Norm.join (l.take (k+1))) Q.length (max bg cx)):=by
          refine ⟨?_,G5.out,?_⟩
          · rw [HJ.out,NX.out];exact Aw.more O5.out rfl rfl
          · rw [HJ.out,NX.out];rw [HOE.out,HBG.out,HCX.out];exact HAM.out HPX.out
         go_roundg (l.length - k)
         case measure=>omega
         case rel=>exact ⟨k+1,Q.length,(max bg cx),by omega,by go_num,rfl,by first | rfl | (congr 1;omega),by omega,I2⟩
      | some z =>
       have NX:=jH (show Norm.next o x=Q ++ z::M by rw [NA.out,if_pos FR.out,hmk]);have HMK:=jH (Norm.At.made (Q:=Q) HMM.out hmk);rw [hmk] at KM;clear hmk;go_wp2;go_region_held3 (λw'=>w'.cell? ⟨g,Q.length,none⟩=some (.int .i32 s)/\w'.cell? ⟨w.heap.size,0,none⟩=some (.slice (some ⟨b0,0,none⟩) 74 74)/\w'.cell? ⟨w.heap.size,1,none⟩=some (.slice (some ⟨b1,0,none⟩) 10 10)/\w'.cell? ⟨w.heap.size,2,none⟩=some (.slice (some ⟨b2,0,none⟩) 11 11)/\w'.cell? ⟨w.heap.size,3,none⟩=some (.slice (some ⟨b3,0,none⟩) 42 42)) (go_keep) ((go_at_call 295;(with_reducible refine KM.out.mono ?_);rintro e1 w4 ⟨rfl,hb4⟩;have HB4:=jH (Ag hb4);have B4:=jH (B3.out.trans (HB4.out.mono B3.out.size));have O4:=jH (O3.out.Ae HB4.out);have G4:=jH (G3.out.trans (Cf.Ch HB4.out _));have q1:=O4.out.cell Q.length hql;(rw [show o[Q.length]! = s by rw [HOE.out,Norm.Ld]] at q1);have fr4:=O4.out.free Q.length;have q2:=(HB4.out.cell (p:=⟨w.heap.size,0,none⟩) hz3).trans k0;have q3:=(HB4.out.cell (p:=⟨w.heap.size,1,none⟩) hz3).trans k1;have q4:=(HB4.out.cell (p:=⟨w.heap.size,2,none⟩) hz3).trans k2;have q5:=(HB4.out.cell (p:=⟨w.heap.size,3,none⟩) hz3).trans k3;clear hb4 cs k0 k1 k2 k3))
       all_goals
        have I2:Hid (Aw w.heap.size (.slice (some ⟨g,0,none⟩) o.length c2) (Norm.join (l.take (k+1))) (w4.setCell ⟨g,Q.length,none⟩ (.int .i32 z))/\Cf (.slice (some ⟨w.heap.size+1,0,none⟩) 0 l.length) (.slice (some ⟨g,0,none⟩) o.length c2) w1 (w4.setCell ⟨g,Q.length,none⟩ (.int .i32 z))/\Norm.At (Norm.join (l.take (k+1))) Q.length bg):=by
         refine ⟨?_,G4.out.trans (Cf.put _ _ _ _ _ _),?_⟩
         ·rw [HJ.out,NX.out];have h:=O4.out.put Q.length z;rwa [show o.set Q.length z=Q ++ z::M by rw [HOE.out,Norm.Afg]] at h
         ·rw [HJ.out,NX.out,HBG.out];exact HMK.out
        go_wp2;go_roundg (l.length - k)
        case measure=>omega
        case rel=>exact ⟨k+1,Q.length,bg,by omega,by go_num,rfl,rfl,by omega,I2⟩
     ·have FR:=jH (show ¬ M.all (λy=>decide (Ad y<Ad x))=true by rw [<- HCX.out];exact λh=>hbw (by rw [hbg];exact (BL.out cx hM0).2 h));have NX:=jH (show Norm.next o x=o ++ [x] by rw [NA.out,if_neg FR.out,HOE.out]);clear hs hm hoe hlen hbg hM0;go_wp2_with fail;refine KC.out.mono ?_;rintro e w3 ⟨rfl,hb3⟩;have B3:=jH hb3;have O3:=jH (HI.out.1.Ae hb3);have G3:=jH (HI.out.2.trans (Cf.Ch hb3 _));clear hb3 KC;by_cases hp:0<cx
      ·have HPX:=jH (show 0<Ad x by rw [<- HCX.out];exact hp);go_wp2_with (at_builtin;refine Bq w3 60 21 (.int .i32 0) 4 underlying60 Bn rfl jO w.heap.size _ _ _ O3.out (Nat.le_trans (Nat.le_of_lt hwz) B3.out.size) jO 1 jO _ rfl rfl _ rfl rfl _ _ rfl rfl rfl ?_;intro v5 w5 ho5 hg5;have O5:=jH ho5;have G5:=jH (G3.out.trans hg5);clear ho5 hg5)
       all_goals
        have I2:Hid (Aw w.heap.size v5 (Norm.join (l.take (k+1))) w5/\Cf (.slice (some ⟨w.heap.size+1,0,none⟩) 0 l.length) v5 w1 w5/\Norm.At (Norm.join (l.take (k+1))) Q.length (max bg cx)):=by
         refine ⟨?_,G5.out,?_⟩
         ·rw [HJ.out,NX.out];exact Aw.more O5.out rfl rfl
         ·rw [HJ.out,NX.out];rw [HOE.out,HBG.out,HCX.out];exact HAM.out HPX.out
        go_roundg (l.length - k)
        case measure=>omega
        case rel=>exact ⟨k+1,Q.length,(max bg cx),by omega,by go_num,rfl,by first | rfl | (congr 1;omega),by omega,I2⟩
      ·have hp0:cx<=0:=jO
       have HPX:=jH (show ¬ 0<Ad x by rw [<- HCX.out];exact hp);go_wp2_with (at_builtin;refine Bq w3 60 21 (.int .i32 0) 4 underlying60 Bn rfl jO w.heap.size _ _ _ O3.out (Nat.le_trans (Nat.le_of_lt hwz) B3.out.size) jO 1 jO _ rfl rfl _ rfl rfl _ _ rfl rfl rfl ?_;intro v5 w5 ho5 hg5;have O5:=jH ho5;have G5:=jH (G3.out.trans hg5);clear ho5 hg5)
       all_goals
        have I2:Hid (Aw w.heap.size v5 (Norm.join (l.take (k+1))) w5/\Cf (.slice (some ⟨w.heap.size+1,0,none⟩) 0 l.length) v5 w1 w5/\Norm.At (Norm.join (l.take (k+1))) o.length 0):=by
         refine ⟨?_,G5.out,?_⟩
         ·rw [HJ.out,NX.out];exact Aw.more O5.out rfl rfl
         ·rw [HJ.out,NX.out];exact Norm.At.plain x (by have:=HPX.out;omega)
        go_roundg (l.length - k)
        case measure=>omega
        case rel=>exact ⟨k+1,o.length,0,by omega,by go_num,rfl,rfl,by omega,I2⟩
  ·obtain rfl:k=l.length:=jO
   clear hBW;go_wp2;go_ret;have h:=I.out.1;rw [List.take_length] at h;exact ⟨_,rfl,h,BW.out⟩
end
section
open Go.RowKit Utf
structure Fits (soft:Bool) (s:ByteArray) (m:List Nat):Prop where
 size:s.size<=100000
 read:Aq s.data.toList=(m,-1)
 len:m.length<=10000
 down:(Norm.down soft (ints m)).length<=10000
theorem Fits.right {soft:Bool} {s:ByteArray} {m:List Nat} (h:Fits soft s m):Af (ints m)=true:=(Lp m (D6 h.read).1).1
theorem Fits.split {soft:Bool} {s:ByteArray} {m:List Nat} (h:Fits soft s m):(Norm.split soft (ints m)).length<=10000:=by
 have:=Afi (Norm.Hd (Norm.split soft (ints m)));have:=h.down;unfold Norm.down at this;omega
def Afx (l:List Int) (w:World) (e:Ending) (w':World):Prop:=∃ v,e=.returned (.tuple #[v,.bool true])/\Aw w.heap.size v l w'/\Below w.heap.size w w'
theorem Aiw (t:Value) (s:ByteArray) (soft:Bool) (w:World) (hT:Table w t) {m:List Nat} (hf:Fits soft s m) :
  Calls prog 245 #[t,.string s,.bool soft] w (Afx (Norm.down soft (ints m)) w):=by
 have h1:=λW=>R7 s W hf.size hf.read;have hml:(ints m).length<=10000:=by simp only [ints,jai];exact hf.len
 have h2:=λv W (hW:Below w.heap.size w W) (h:Runes v (ints m) W)=>Afk t v (ints m) soft W (hT.below hW) h hml;have h3:=λv W (hW:Below w.heap.size w W) (h:Runes v (Norm.split soft (ints m)) W)=>Asn t v _ W (hT.below hW) h hf.split
 obtain ⟨b0,b1,b2,b3,rfl,-,-,-,-⟩:=hT;have H1:=jH h1;have H2:=jH h2;have H3:=jH h3;clear h1 h2 h3 hml hf;go_enter func245,ntmps245;go_wp2_with fail;refine (H1.out _).mono ?_;rintro e w1 ⟨A1,c1,rfl,hr1,hb1⟩;obtain ⟨hz,k0,k1,k2,k3⟩:=Je hb1;have R1:=jH hr1;have B1:=jH (Aa (Ac w _) hb1);clear hr1 hb1;go_wp2;go_region_held3 (λw'=>w'.cell? ⟨w.heap.size,0,none⟩=some (.slice (some ⟨b0,0,none⟩) 74 74)/\w'.cell? ⟨w.heap.size,1,none⟩=some (.slice (some ⟨b1,0,none⟩) 10 10)/\w'.cell? ⟨w.heap.size,2,none⟩=some (.slice (some ⟨b2,0,none⟩) 11 11)/\w'.cell? ⟨w.heap.size,3,none⟩=some (.slice (some ⟨b3,0,none⟩) 42 42)) (go_keep) (first
  | (go_at_call 293;(with_reducible refine (H2.out _ _ B1.out.drew (R1.out.Ae (jan _ w1).drew)).mono ?_);rintro e w2 ⟨v2,rfl,ho2,hb2⟩;have hB2:=Ag hb2;have R2:=jH ho2.Mo;have B2:=jH (Aa B1.out hB2);have q0:=(hB2.cell (p:=⟨w.heap.size,0,none⟩) hz).trans k0;have q1:=(hB2.cell (p:=⟨w.heap.size,1,none⟩) hz).trans k1;have q2:=(hB2.cell (p:=⟨w.heap.size,2,none⟩) hz).trans k2;have q3:=(hB2.cell (p:=⟨w.heap.size,3,none⟩) hz).trans k3;have hz2:=jas hz hB2.size;clear hb2 ho2 hB2 k0 k1 k2 k3)
  | (go_at_call 292;(with_reducible refine (H3.out _ _ B2.out R2.out).mono ?_);rintro e w3 ⟨v3,rfl,ho3,hb3⟩;have O3:=jH (ho3.lower B2.out.size);have B3:=jH (Aa B2.out hb3);have p0:=(hb3.cell (p:=⟨w.heap.size,0,none⟩) hz2).trans q0;have p1:=(hb3.cell (p:=⟨w.heap.size,1,none⟩) hz2).trans q1;have p2:=(hb3.cell (p:=⟨w.heap.size,2,none⟩) hz2).trans q2;have p3:=(hb3.cell (p:=⟨w.heap.size,3,none⟩) hz2).trans q3;clear hb3 ho3))
 all_goals
  go_wp2;go_ret2;exact ⟨v3,rfl,O3.out,B3.out⟩
theorem Afp (t:Value) (s:ByteArray) (soft:Bool) (w:World) (hT:Table w t) {m:List Nat} (hf:Fits soft s m) :
  Calls prog 200 #[t,.string s,.bool soft] w (Wo (Ah (E5 soft true (ints m))) true w):=by
 have h1:=λW (hW:Below w.heap.size w W)=>Aiw t s soft W (hT.below hW) hf;have hfr:=Xp soft true hf.right;have hd:=hf.down;have h4:=λv W (hW:Below w.heap.size w W) (h:Runes v (Norm.down soft (ints m)) W)=>Ahq t v _ W (hT.below hW) h hd;have hfl:(E5 soft true (ints m)).length<=20000:=by
  unfold E5;split
  · have:=Ab7 (Norm.down soft (ints m));omega
  · omega
 have h5:=λv W (h:Runes v (E5 soft true (ints m)) W)=>Uh v _ W h hfl hfr (Zt hfr);obtain ⟨b0,b1,b2,b3,rfl,-,-,-,-⟩:=hT;have H1:=jH h1;have H4:=jH h4;have H5:=jH h5;clear h1 h4 h5 hfr hd hfl hf;go_enter func200,ntmps200;go_wp2_with fail;refine (H1.out _ (Ac _ _)).mono ?_;rintro e w1 ⟨v1,rfl,ho1,hb1⟩;obtain ⟨hz,k0,k1,k2,k3⟩:=Je hb1;have R1:=jH ho1.Mo;have B1:=jH (Aa (Ac w _) hb1);clear ho1 hb1;go_wp2_with fail;refine (H4.out _ _ B1.out R1.out).mono ?_;rintro e w2 ⟨v2,rfl,ho2,hb2⟩;have R2:=jH ho2.Mo;have B2:=jH (Aa B1.out hb2);clear ho2 hb2;go_wp2_with fail;refine (H5.out _ _ R2.out).mono ?_;rintro e w3 ⟨rfl,hb3⟩;have B3:=jH (Aa B2.out hb3);clear hb3;go_wp2;go_ret2;exact ⟨rfl,B3.out⟩
theorem Apl (t:Value) (s:ByteArray) (w:World) (hT:Table w t) {m:List Nat} (hf:Fits false s m) :
  Calls prog 159 #[t,.string s] w (Wo (Ah (E5 false true (ints m))) true w):=by
 have h1:=λW (hW:Below w.heap.size w W)=>Afp t s false W (hT.below hW) hf;obtain ⟨b0,b1,b2,b3,rfl,-,-,-,-⟩:=hT;have H1:=jH h1;clear h1 hf;go_enter func159,ntmps159;go_wp2_with fail;refine (H1.out _ (Ac _ _)).mono ?_;rintro e w1 ⟨rfl,hb1⟩;have B1:=jH (Aa (Ac w _) hb1);clear hb1;go_wp2;go_ret2;exact ⟨rfl,B1.out⟩
theorem A10 (t:Value) (s:ByteArray) (w:World) (hT:Table w t) {m:List Nat} (hf:Fits false s m) {b:Bool} (hb:(Ah (E5 false true (ints m)) == s.toList)=b) :
  Calls prog 249 #[t,.string s] w λe w'=>e=.returned (.bool b)/\Below w.heap.size w w':=by
 have h1:=λW (hW:Below w.heap.size w W)=>Apl t s W (hT.below hW) hf;obtain ⟨b0,b1,b2,b3,rfl,-,-,-,-⟩:=hT;generalize Ah (E5 false true (ints m))=bs at h1 hb;have H1:=jH h1;have HB:=jH hb;clear h1 hf hb;go_enter func249,ntmps249;go_wp2_with fail;refine (H1.out _ (Ac _ _)).mono ?_;rintro e w1 ⟨rfl,hb1⟩;have B1:=jH (Aa (Ac w _) hb1);clear hb1;go_wp2;go_ret;refine ⟨?_,B1.out⟩;rw [<- HB.out];rfl
end
section
open Go.RowKit Utf
end
section
open Go.RowKit Utf
namespace Norm
end Norm
end
section
open Go.RowKit Utf
end
section
open Go.RowKit Utf
end
section
open Go.RowKit Utf
theorem Av5 {soft:Bool} {X:List Int} {s:ByteArray} (hs:s.data.toList=Ah X) (hX:Af X=true) (hl:X.length<=9600) (hd:(Norm.down soft X).length<=9600):Fits soft s (X.map Int.toNat)/\ints (X.map Int.toNat)=X:=by
 obtain ⟨i1,-,-⟩:=D5 hX;have h1:=Gh X;have h2:s.size=(Ah X).length:=by rw [<- hs];simp
 exact ⟨⟨by omega,by rw [hs];exact Gp hX,by rw [jai];omega,by rw [i1];omega⟩,i1⟩
theorem again {soft join:Bool} {X Y:List Int} (hX:Af X=true) (hl:X.length<=9600) (hd:(Norm.down soft X).length<=9600) (hf:E5 soft join X=Y) :
  ∃ m,Fits soft ⟨(Ah X).toArray⟩ m/\Ah (E5 soft join (ints m))=Ah Y:=by
 obtain ⟨h1,h2⟩:=Av5 (soft:=soft) (s:=⟨(Ah X).toArray⟩) jS hX hl hd;exact ⟨_,h1,by rw [h2,hf]⟩
end
