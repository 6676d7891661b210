import Derived.Test.YtickpkccpafjaaaGreatDoorLstGrp
import Derived.Test.YtickpkccpafjaaaGreatDoorLstR
import Derived.Test.YtickpkccpafjaaaGreatDoorMbxEnd
namespace Go.Proofs.YtickpkccpafjaaaGreatDoor
open Tryz
section
open Go.RowKit Utf Go.Shelf
namespace Lst
open Mbx (S)
theorem Abw (P:List UInt8->Prop) (h0:P []):∀ (f:Nat) (l:List S) (r:List Ent),(∀ n,P (name (l.drop n)))->Dg f l=some r->∀ e ∈ r,P e.name
 | 0,_,_,_,e=>by rw [Dg] at e;cases e
 | f+1,l,r,h,e=>by
  rw [Dg] at e;split at e
  ·cases e
  ·rename_i x n hx
   have hw:P x.name:=by
    unfold ent at hx;split at hx
    ·rename_i s m q hb
     injection hx with hx
     injection hx with hx _
     rw [<- hx];unfold box at hb;split at hb
     ·injection hb with hb;injection hb with hb _;rw [<- hb];exact h0
     ·split at hb
      ·split at hb
       ·cases hb
       ·split at hb
        · injection hb with hb;injection hb with hb _;rw [<- hb];exact h 0
        · cases hb
      ·cases hb
    ·unfold group at hx;split at hx
     ·split at hx
      ·cases hx
      ·injection hx with hx
       injection hx with hx _
       rw [<- hx];exact h 0
     ·cases hx
   split at e
   ·injection e with e
    rw [<- e];intro y hy;rw [List.mem_singleton] at hy;rw [hy];exact hw
   ·split at e
    ·cases hr:Dg f (l.drop (n+1)) with
     | none=>rw [hr] at e;cases e
     | some q =>
      rw [hr,Option.map_some] at e;injection e with e
      have:=Abw P h0 f _ q (λk=>by rw [List.drop_drop];exact h _) hr;rw [<- e];intro y hy;rcases jal.1 hy with rfl | hy
      ·exact hw
      ·exact this y hy
    ·cases e
theorem Arc {f:Nat} {l:List S} {e:Ent} {n:Nat} (h:ent l=some (e,n)):Dg (f+1) l=if (l.drop n).isEmpty then some [e] else if (l.drop n).head? = some (2,[44]) then (Dg f (l.drop (n+1))).map (e::·) else none:=by rw [Dg,h]
theorem Aoy {l:List S} {n:Nat} (h:n<l.length):¬ (l.drop n).isEmpty=true:=by rw [Mbx.Cm h];exact λh=>(by cases h)
theorem Apc {s:List UInt8} {ts:List Lex.Tok} (h:Lex.Fm s=(0,0,ts)):Sml (ts.map Lex.Cy):=by
 rcases Lex.I7 s with ⟨-,e⟩ | ⟨-,E,p,e,h1,-⟩ | ⟨hl,us,e,hc,-⟩
 ·rw [e] at h;injection h with h _;cases h
 ·rw [e] at h;injection h with h _;omega
 ·rw [e] at h;injection h with _ h
  injection h with _ h
  subst h;have h2:=Lex.Ru hc;rw [<- Mbx.Kv] at h2;exact ⟨by rw [jai];omega,by omega⟩
theorem Ary {s:List UInt8} {p:Nat} {ts:List Lex.Tok} (h:Lex.Fm s=(0,p,ts)):p=0:=by
 rcases Lex.I7 s with ⟨-,e⟩ | ⟨-,E,q,e,h1,-⟩ | ⟨-,us,e,-,-⟩
 · rw [e] at h;injection h with h _;cases h
 · rw [e] at h;injection h with h _;omega
 · rw [e] at h;injection h with _ h;injection h with h _;exact h.symm
end Lst
theorem Ax2 (N base:Nat) (vT vE vB:Value) (l:List Mbx.S) (s x y:ByteArray) (w:World) (H:Au N vT vE vB l 0 s x y w) (F:Sml l) (hE:Dz base vE [] w) (hNb:N<base) (hbw:base<=w.heap.size) :
  Calls prog 39 #[.pointer (some ⟨N,0,none⟩),.func (.func 40) #[.pointer (some ⟨N,0,none⟩)] #[]] w λe w' =>
   (e=.returned (.bool true)/\Below N w w'/\∃ n' vE' vB' s' x' y' es',n'<=l.length/\Au N vT vE' vB' l n' s' x' y' w'/\Dz base vE' es' w'/\base<=w'.heap.size/\((n'=l.length/\Lst.Dg (l.length+1) l=some es')\/(n'<l.length/\Lst.Dg (l.length+1) l=none))) \/
   (e=.returned (.bool false)/\Lst.Dg (l.length+1) l=none/\Below N w w'):=by
 have hl:=F.len;have hNw:=H.lt;obtain ⟨R,hR⟩:∃ R,R=Lst.Dg (l.length+1) l:=⟨_,rfl⟩
 rw [<- hR];refine Qx N 40
  (λg W=>∃ n' vE' vB' s' x' y' es',n'<=l.length/\g=l.length - n'/\Au N vT vE' vB' l n' s' x' y' W/\Dz base vE' es' W/\Below N w W/\base<=W.heap.size/\es'.length<=n'/\∃ f',l.length - n'<f'/\(Lst.Dg f' (l.drop n')).map (es' ++ ·)=R)
  (λg W=>∃ n' vE' vB' s' x' y' es',n'<=l.length/\l.length - n'<=g/\Au N vT vE' vB' l n' s' x' y' W/\Dz base vE' es' W/\Below N w W/\base<=W.heap.size/\es'.length<=n'+1/\∃ f',l.length - n'<=f'/\(if (l.drop n').isEmpty then some es' else if Mbx.isS l n' [44]=true then (Lst.Dg f' (l.drop (n'+1))).map (es' ++ ·) else none)=R)
  (λW=>R=none/\Below N w W)
  (λW=>Below N w W/\∃ n' vE' vB' s' x' y' es',n'<=l.length/\Au N vT vE' vB' l n' s' x' y' W/\Dz base vE' es' W/\base<=W.heap.size/\((n'=l.length/\R=some es')\/(n'<l.length/\R=none)))
  (l.length - 0) w ⟨0,vE,vB,s,x,y,[],Nat.zero_le _,rfl,H,hE,jan _ _,hbw,Nat.zero_le _,l.length+1,by omega,by rw [hR,List.drop_zero];cases Lst.Dg (l.length+1) l<;>rfl⟩ (enters_of func40 jK rfl) ?_ ?_
 ·rintro g W ⟨n',vE',vB',s',x',y',es',h1,rfl,h2,h3,h4,h5,h6,f',h7,h8⟩;refine (Alv N base vT vE' vB' l n' s' x' y' es' W h2 h1 F h3 hNb h5 jO).mono ?_;obtain ⟨f'',rfl⟩:∃ q,f'=q+1:=⟨f' - 1,by omega⟩
  rintro e V (⟨rfl,en,k,vE2,vB2,s2,x2,y2,k1,k2,k3,k4,k5⟩ | ⟨rfl,k1,k3,-⟩)
  ·refine .inl ⟨rfl,n'+k,vE2,vB2,s2,x2,y2,_,k2,by omega,k3,k4,h4.trans k5,Nat.le_trans h5 k5.size,by simp;omega,f'',by omega,?_⟩;rw [<- h8,Lst.Arc k1,List.drop_drop,List.drop_drop];by_cases e1:(l.drop (n'+k)).isEmpty=true
   ·rw [if_pos e1,if_pos e1];rfl
   ·rw [if_neg e1,if_neg e1];by_cases e2:Mbx.isS l (n'+k) [44]=true
    ·rw [if_pos e2,if_pos (Lst.Dn.2 e2),show n'+(k+1)=n'+k+1 by omega];cases Lst.Dg f'' (l.drop (n'+k+1)) with
     | none=>rfl
     | some p=>simp only [Option.map_some,jaq,List.singleton_append]
    ·rw [if_neg e2,if_neg (λh=>e2 (Lst.Dn.1 h))];rfl
  ·refine .inr ⟨rfl,?_,h4.trans (k3.low (Nat.le_of_lt h2.lt))⟩;rw [<- h8,Lst.Dg,k1];rfl
 ·rintro g W ⟨n',vE',vB',s',x',y',es',h1,hg,h2,h3,h4,h5,h6,f',h7,h8⟩;refine (Hc N vT vE' vB' l n' s' x' y' W h2 h1 F [44] ⟨#[44]⟩ rfl).mono ?_;rintro e V ⟨rfl,k1,k2⟩;have k3:=h3.only k2 hNb;have k4:=h4.trans (k2.low (Nat.le_of_lt h2.lt));cases e2:Mbx.isS l n' [44]
  ·rw [e2,if_neg jD] at k1;refine .inr ⟨rfl,k4,n',vE',vB',s',x',y',es',h1,k1,k3,Nat.le_trans h5 k2.size,?_⟩;rw [e2] at h8;by_cases e1:n'=l.length
   ·rw [if_pos (by rw [List.drop_of_length_le jO];rfl)] at h8;exact .inl ⟨e1,h8.symm⟩
   ·rw [if_neg (Lst.Aoy jO),if_neg jD] at h8;exact .inr ⟨by omega,h8.symm⟩
  ·obtain ⟨hlt,-⟩:=Mbx.Fc e2;rw [e2,if_neg (Lst.Aoy hlt),if_pos rfl] at h8;rw [e2,if_pos rfl] at k1;exact .inl ⟨rfl,l.length - (n'+1),by omega,n'+1,vE',vB',s',x',y',es',by omega,rfl,k1,k3,k4,Nat.le_trans h5 k2.size,by omega,f',by omega,h8⟩
theorem Dz.lower {b1 b2:Nat} {v:Value} {l:List Lst.Ent} {w:World} (h:Dz b1 v l w) (hb:b2<=b1):Dz b2 v l w:=by
 obtain ⟨ps,h1,h2,h3⟩:=h;refine ⟨ps,h1,⟨h2.1,?_⟩,λp hp=>(h3 p hp).lower hb⟩;rcases h2.2 with h0 | ⟨g,cap,cur,rfl,h4,h5⟩
 · exact .inl h0
 · exact .inr ⟨g,cap,cur,rfl,by omega,h5⟩
theorem Qk.under {B b0 b1 b2 b3 N:Nat} {W W':World} (h:Qk B b0 b1 b2 b3 W) (hb:Below N W W') (hN:B<N):Qk B b0 b1 b2 b3 W':=by
 have e:∀ k,W'.cell? ⟨B,k,none⟩=W.cell? ⟨B,k,none⟩:=λk=>hb.cell (p:=⟨B,k,none⟩) hN;exact ⟨(e 0).trans h.t0,(e 1).trans h.t1,(e 2).trans h.t2,(e 3).trans h.t3,jas h.lt hb.size⟩
set_option maxHeartbeats 8000000 in
set_option maxRecDepth 100000 in
theorem Yu (t:Value) (s:ByteArray) (w:World) (hT:Table w t) (hs:s.size<=100000)
  (hf:∀ ts es,Lex.Fm s.data.toList=(0,0,ts)->Lst.Dg (ts.length+1) (ts.map Lex.Cy)=some es->es.length<=100000/\∀ e ∈ es,e.boxes.length<=100000/\∀ m ∈ e.boxes,m.1.length<=100000/\De ⟨m.2.toArray⟩)
  {E:Int} {es:List Lst.Ent} (hp:Lst.Cx s.data.toList=(E,es)) :
  Calls prog 16 #[t,.string s] w λe w'=>∃ v,e=.returned (.tuple #[v,.int .i64 E])/\Dz w.heap.size v es w'/\Below w.heap.size w w':=by
 have hT0:=hT;obtain ⟨b0,b1,b2,b3,rfl,-,-,-,-⟩:=hT0;obtain ⟨W0,hW0⟩:∃ W0,W0=w.alloc (.cells #[.slice (some ⟨b0,0,none⟩) 74 74,.slice (some ⟨b1,0,none⟩) 10 10,.slice (some ⟨b2,0,none⟩) 11 11,.slice (some ⟨b3,0,none⟩) 42 42] 36):=⟨_,rfl⟩
 have B0:=jH (show Below w.heap.size w W0 by rw [hW0];exact Ac _ _);have T0:=jH (show Qk w.heap.size b0 b1 b2 b3 W0 by rw [hW0];exact Qk.new _ _ _ _ _);have HW0:=jH hW0.symm;have HT:=jH hT;obtain ⟨⟨F,pl,ts⟩,hl⟩:∃ q,Lex.Fm s.data.toList=q:=⟨_,rfl⟩
 have KL:=jH (Yc.lex s W0 hs);rw [hl] at KL;simp only at KL;unfold Lst.Cx at hp;rw [hl] at hp;unfold Lst.Jm at hp;simp only at hp;clear hW0 hT;by_cases hF:F=0
 case neg =>
  rw [if_pos hF] at hp;injection hp with q1 q2
  subst q1 q2;have e0:(F != 0)=true:=by simpa using hF
  clear hF hf hl;go_enter func16,ntmps16;go_wp2_with fail;rw [HW0.out];refine KL.out.mono ?_;rintro e w1 ⟨A,c,rfl,-,hb⟩;have B1:=jH (Aa B0.out hb);clear hb;go_wp2;go_ret2;exact ⟨_,rfl,Dz.nil _ _,B1.out⟩
 subst hF;have hpl:=Lst.Ary hl;subst hpl;rw [if_neg (show ¬ ((0:Int) ≠ 0) by decide)] at hp;have hsml:=Lst.Apc hl;have HS:=jH hsml;have hnm:∀ es',Lst.Dg (ts.length+1) (ts.map Lex.Cy)=some es'->∀ e ∈ es',e.name.length<=100000:=λes' he=>Lst.Abw (λz=>z.length<=100000) (Nat.zero_le _) _ _ _ (λn=>by
  have h1:=Lst.Aij ((ts.map Lex.Cy).drop n);have h2:=Mbx.Iz (ts.map Lex.Cy) n;have h3:=hsml.len;have h4:=hsml.outs;rw [jaj] at h1;omega) he
 have HR:=jH (λes' (he:Lst.Dg (ts.length+1) (ts.map Lex.Cy)=some es')=>(⟨(hf ts es' hl he).1,hnm es' he,λe h=>((hf ts es' hl he).2 e h).1,λe h=>((hf ts es' hl he).2 e h).2⟩:Lst.Fits es'));have hlen:(ts.map Lex.Cy).length=ts.length:=jai _;have KR:=jH (λN v W (h:Au N v (.slice none 0 0) (.slice none 0 0) (ts.map Lex.Cy) 0 ⟨#[]⟩ ⟨#[]⟩ ⟨#[]⟩ W) (hN:N+1<=W.heap.size)=>Ax2 N (N+1) v (.slice none 0 0) (.slice none 0 0) (ts.map Lex.Cy) ⟨#[]⟩ ⟨#[]⟩ ⟨#[]⟩ W h hsml (Dz.nil _ _) jO hN);rw [hlen] at KR;clear hf hl hsml hnm;have HP:=jH hp;clear hp;generalize hents:Lst.Dg (ts.length+1) (ts.map Lex.Cy)=RR at HP HR KR;generalize hm:ts.map Lex.Cy=lst at KR HS hlen hents;have HM:=jH hm;clear hents hm;have hn2:ts.length<=2000:=by have:=HS.out.len;omega
 go_enter func16,ntmps16;go_wp2_with fail;rw [HW0.out];refine KL.out.mono ?_;rintro e w1 ⟨A,c,rfl,hv,hb⟩;have B1:=jH (Aa B0.out hb);have T1:=jH (T0.out.Ae hb);obtain ⟨N,hNN⟩:∃ N,w1.heap.size=N:=⟨_,rfl⟩
 obtain ⟨W2,hW2⟩:∃ W2,W2=w1.alloc (.cells #[.slice A ts.length c,.int .i64 0,.slice none 0 0,.string ⟨#[]⟩,.string ⟨#[]⟩,.string ⟨#[]⟩,.slice none 0 0] 74):=⟨_,rfl⟩
 have b2:Below w1.heap.size w1 W2:=by rw [hW2];exact Ac _ _
 have P2:Au N (.slice A ts.length c) (.slice none 0 0) (.slice none 0 0) lst 0 ⟨#[]⟩ ⟨#[]⟩ ⟨#[]⟩ W2:=by
  refine ⟨?_,?_⟩
  ·rw [hW2,<- hNN];exact heap_alloc_new w1 _
  ·have:=(F0.of hv).Ae (w':=W2) λk hk=>b2.block k hk;rw [HM.out,hNN] at this;exact this
 have hN2:N+1<=W2.heap.size:=by rw [hW2,World.size_alloc,hNN];exact jaa _
 have hBN:=B1.out.size;have B2:=jH (Aa B1.out b2);have T2:=jH (T1.out.Ae b2);have HW2:=jH hW2.symm;have K:=jH (KR.out N _ W2 P2 hN2);have hwN:w.heap.size<N:=by have:=T1.out.lt;omega
 clear hb hv hW2 b2 P2;go_wp2_with fail;rw [HW2.out];refine K.out.mono ?_;rintro e w3 (⟨rfl,hb,n',vE',vB',s',x',y',es',h1,h2,h3,h4,h5⟩ | ⟨rfl,h1,hb⟩)
 ·have B3:=jH (B2.out.trans (hb.mono (Nat.le_of_lt hwN)));have T3:=jH (T2.out.under hb hwN);obtain ⟨-,d1,d2,-⟩:=h2.all;have O3:=jH h3
  try rw [hlen] at h5
  rcases h5 with ⟨h5,h6⟩ | ⟨h5,h6⟩
  ·have hz:decide (n'<ts.length)=false:=decide_eq_false jO;have hp:=HP.out;rw [h6] at hp;simp only at hp;have KF:=jH (P9 _ vE' es' w3 (HT.out.below B3.out) O3.out.Dg (HR.out es' h6) rfl);generalize Lst.Fk es'=Q at hp KF;obtain ⟨s0,s1,s2,s3,-⟩:=T3.out;clear hb h2 h3 h5 h6 HP HR KR K;by_cases hQ:Q=0
   ·rw [if_pos hQ] at hp;injection hp with q1 q2
    subst q1 q2 hQ;go_wp2_with fail;refine KF.out.mono ?_;rintro e w4 ⟨rfl,hb⟩;have B4:=jH (Aa B3.out hb);have e2:=Kc hb d2;have O4:=jH (O3.out.Ae hb);clear hb;go_wp2;go_ret2;exact ⟨_,rfl,O4.out.lower jO,B4.out⟩
   ·rw [if_neg hQ] at hp;injection hp with q1 q2
    subst q1 q2;have hq:(Q != 0)=true:=by simpa using hQ
    go_wp2_with fail;refine KF.out.mono ?_;rintro e w4 ⟨rfl,hb⟩;have B4:=jH (Aa B3.out hb);clear hb;go_wp2;go_ret2;exact ⟨_,rfl,Dz.nil _ _,B4.out⟩
  ·have hz:decide (n'<ts.length)=true:=decide_eq_true jO;have hp:=HP.out;rw [h6] at hp;injection hp with q1 q2
   subst q1 q2;clear hb h2 h3 h5 h6 HP HR KR K;go_wp2;go_ret2;exact ⟨_,rfl,Dz.nil _ _,B3.out⟩
 ·have B3:=jH (B2.out.trans (hb.mono (Nat.le_of_lt hwN)));have hp:=HP.out;rw [h1] at hp;injection hp with q1 q2
  subst q1 q2;clear hb h1 HP HR KR K;go_wp2;go_ret2;exact ⟨_,rfl,Dz.nil _ _,B3.out⟩
end
section
open Go.RowKit Utf
namespace Lst
open Mbx (S take)
section
variable {Q:Box->Prop}
theorem Agf {l:List S} (h:∀ n a b q,take (l.drop n)=some (a,b,q)->Q (a,b)) {s:List UInt8} {m:Box} {n:Nat} (e:box l=some (s,m,n)):Q m:=by
 unfold box at e;split at e
 ·rename_i a b q ht
  injection e with e;injection e with _ e;injection e with e _
  rw [<- e];exact h 0 a b q ht
 ·split at e
  ·split at e
   ·cases e
   ·rename_i a b q ht
    split at e
    ·injection e with e;injection e with _ e;injection e with e _
     rw [<- e];exact h _ a b q ht
    ·cases e
  ·cases e
theorem Sg {l:List S} (h:∀ n a b q,take (l.drop n)=some (a,b,q)->Q (a,b)) (k:Nat):∀ n a b q,take ((l.drop k).drop n)=some (a,b,q)->Q (a,b):=λn a b q e=>h (k+n) a b q (by rwa [List.drop_drop] at e)
theorem W8:∀ (f:Nat) (l:List S) (r:List Box) (n:Nat),(∀ n a b q,take (l.drop n)=some (a,b,q)->Q (a,b))->boxes f l=some (r,n)->r.length<=f/\∀ m ∈ r,Q m
 | 0,_,_,_,_,e=>by rw [boxes] at e;cases e
 | f+1,l,r,n,h,e=>by
  rw [boxes] at e;split at e
  ·cases e
  ·rename_i s m k hb
   have hm:=Agf h hb;split at e
   ·injection e with e;injection e with e _
    rw [<- e];exact ⟨by simp,λx hx=>by rw [List.mem_singleton] at hx;rw [hx];exact hm⟩
   ·split at e
    ·split at e
     ·cases e
     ·rename_i r' j hr
      injection e with e;injection e with e _
      have:=W8 f _ r' j (Sg h (k+1)) hr;rw [<- e];refine ⟨by simp;exact this.1,λx hx=>?_⟩;rcases jal.1 hx with rfl | hx
      · exact hm
      · exact this.2 x hx
    ·cases e
theorem Av2 {l:List S} (h:∀ n a b q,take (l.drop n)=some (a,b,q)->Q (a,b)) {x:Ent} {n:Nat} (e:ent l=some (x,n)):x.boxes.length<=l.length+1/\∀ m ∈ x.boxes,Q m:=by
 unfold ent at e;split at e
 ·rename_i s m q hb
  injection e with e;injection e with e _
  rw [<- e];exact ⟨by simp,λy hy=>by rw [List.mem_singleton] at hy;rw [hy];exact Agf h hb⟩
 ·unfold group at e;split at e
  ·split at e
   ·cases e
   ·rename_i r k hi
    injection e with e;injection e with e _
    rw [<- e];unfold inner at hi;split at hi
    ·injection hi with hi;injection hi with hi _
     rw [<- hi];exact ⟨Nat.zero_le _,λm hm=>by cases hm⟩
    ·cases hb:boxes (l.length+1) ((l.drop (len l+1)).drop (Mbx.skip (l.drop (len l+1)))) with
     | none=>rw [hb] at hi;cases hi
     | some p =>
      rw [hb] at hi;injection hi with hi;injection hi with hi _
      rw [<- hi];exact W8 _ _ p.1 p.2 (Sg (Sg h _) _) hb
  ·cases e
theorem Aha:∀ (f:Nat) (l:List S) (r:List Ent),(∀ n a b q,take (l.drop n)=some (a,b,q)->Q (a,b))->Dg f l=some r->r.length<=f/\∀ e ∈ r,e.boxes.length<=l.length+1/\∀ m ∈ e.boxes,Q m
 | 0,_,_,_,e=>by rw [Dg] at e;cases e
 | f+1,l,r,h,e=>by
  rw [Dg] at e;split at e
  ·cases e
  ·rename_i x n hx
   have hw:=Av2 h hx;split at e
   ·injection e with e
    rw [<- e];exact ⟨by simp,λy hy=>by rw [List.mem_singleton] at hy;rw [hy];exact hw⟩
   ·split at e
    ·cases hr:Dg f (l.drop (n+1)) with
     | none=>rw [hr] at e;cases e
     | some q =>
      rw [hr,Option.map_some] at e;injection e with e
      have:=Aha f _ q (Sg h (n+1)) hr;rw [<- e];refine ⟨by simp;exact this.1,λy hy=>?_⟩;rcases jal.1 hy with rfl | hy
      ·exact hw
      ·have h2:=this.2 y hy;rw [jaj] at h2;exact ⟨by omega,h2.2⟩
    ·cases e
end
theorem Ana {s:List UInt8} {ts:List Lex.Tok} {es:List Ent} (hl:Lex.Fm s=(0,0,ts)) (he:Dg (ts.length+1) (ts.map Lex.Cy)=some es):es.length<=2001/\∀ e ∈ es,e.boxes.length<=2001/\∀ m ∈ e.boxes,m.1.length<=s.length/\m.2.length<=s.length:=by
 have hsml:=Apc hl;have ho:(Mbx.Dq (ts.map Lex.Cy)).length<=s.length:=by
  rcases Lex.I7 s with ⟨-,e⟩ | ⟨-,E,p,e,h1,-⟩ | ⟨-,us,e,hc,-⟩
  ·rw [e] at hl;injection hl with h _;cases h
  ·rw [e] at hl;injection hl with h _;omega
  ·rw [e] at hl;injection hl with _ h
   injection h with _ h
   subst h;rw [Mbx.Kv];exact (Lex.Ru hc).1
 have hlen:=hsml.len;rw [jai] at hlen;have:=Aha (Q:=λm=>m.1.length<=s.length/\m.2.length<=s.length) _ _ es (λn a b q h=>by
  have h1:=Mbx.Adk h;have h2:=(Mbx.take_len h).1;have h3:=Mbx.Iz (ts.map Lex.Cy) n;exact ⟨by show a.length<=_;omega,by show b.length<=_;omega⟩) he
 rw [jai] at this;exact ⟨by omega,λe h=>⟨by have:=(this.2 e h).1;omega,(this.2 e h).2⟩⟩
end Lst
theorem Ga (t:Value) (s:ByteArray) (w:World) (hT:Table w t) (hs:s.size<=400) {E:Int} {es:List Lst.Ent} (hp:Lst.Cx s.data.toList=(E,es)) :
  Calls prog 16 #[t,.string s] w λe w'=>∃ v,e=.returned (.tuple #[v,.int .i64 E])/\Dz w.heap.size v es w'/\Below w.heap.size w w' :=
 Yu t s w hT jO (λts es hl he=>by
  have h:=Lst.Ana hl he;have hsl:s.data.toList.length=s.size:=by simp
  exact ⟨by omega,λe h1=>⟨by have:=(h.2 e h1).1;omega,λm hm=>⟨by have:=((h.2 e h1).2 m hm).1;omega,Yh (by have:=((h.2 e h1).2 m hm).2;omega)⟩⟩⟩) hp
theorem Dl.cells {base:Nat} {v:Value} {l:List Lst.Box} {w:World} (h:Dl base v l w) (hl:0<l.length):∃ g c,v=.slice (some ⟨g,0,none⟩) l.length c/\l.length<=c/\base<=g/\g<w.heap.size/\∀ i,i<l.length->w.cell? ⟨g,i*2,none⟩=some (.string ⟨(Lst.Ks l i).1.toArray⟩)/\w.cell? ⟨g,i*2+1,none⟩=some (.string ⟨(Lst.Ks l i).2.toArray⟩):=by
 have hlt:=World.ownsRow.lt h;rcases h.2 with ⟨rfl,h0⟩ | ⟨g,cap,cur,rfl,hb,hg,hnc,hcm,hcs,hcur⟩
 ·omega
 ·refine ⟨g,cap,rfl,hnc,hb,(hlt g rfl).2,λi hi=>?_⟩;obtain ⟨h1,h2⟩:=Lst.Sq l i hi;exact ⟨(World.ownsRow.cellAt h (i*2) jO).trans h1,(World.ownsRow.cellAt h (i*2+1) jO).trans h2⟩
theorem Dz.cells {base:Nat} {v:Value} {l:List Lst.Ent} {w:World} (h:Dz base v l w) (hl:0<l.length):∃ g c,v=.slice (some ⟨g,0,none⟩) l.length c/\l.length<=c/\base<=g/\g<w.heap.size/\∀ i,i<l.length->w.cell? ⟨g,i*3,none⟩=some (.string ⟨(Lst.Eu l i).name.toArray⟩)/\w.cell? ⟨g,i*3+1,none⟩=some (.bool (Lst.Eu l i).grp)/\∃ u,w.cell? ⟨g,i*3+2,none⟩=some u/\Dl base u (Lst.Eu l i).boxes w:=by
 obtain ⟨ps,h1,h2,h3⟩:=h;have hlen:ps.length=l.length:=by rw [<- h1,jai]
 have hlt:=World.ownsRow.lt h2;rcases h2.2 with ⟨rfl,h0⟩ | ⟨g,cap,cur,rfl,hb,hg,hnc,hcm,hcs,hcur⟩
 ·omega
 ·refine ⟨g,cap,by rw [hlen],by omega,hb,(hlt g rfl).2,λi hi=>?_⟩;have hi':i<ps.length:=jO
  obtain ⟨e1,e2,e3⟩:=Lst.Te ps i hi';have hf:=Lst.Aiq h1 hi';have hb:=h3 _ (Lst.Air hi');rw [hf] at e1 e2 hb;exact ⟨(World.ownsRow.cellAt h2 (i*3) jO).trans e1,(World.ownsRow.cellAt h2 (i*3+1) jO).trans e2,_,(World.ownsRow.cellAt h2 (i*3+2) jO).trans e3,hb⟩
theorem Dl.slice {base:Nat} {v:Value} {l:List Lst.Box} {w:World} (h:Dl base v l w):∃ A c,v=.slice A l.length c:=by obtain ⟨A,c,h,-⟩:=h.Azg;exact ⟨A,c,h⟩
theorem Dz.slice {base:Nat} {v:Value} {l:List Lst.Ent} {w:World} (h:Dz base v l w):∃ A c,v=.slice A l.length c:=by obtain ⟨A,c,h,-⟩:=h.Dg;exact ⟨A,c,h⟩
end
