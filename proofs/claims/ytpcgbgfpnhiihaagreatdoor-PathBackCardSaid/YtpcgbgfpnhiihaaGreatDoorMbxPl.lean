import Derived.Test.YtpcgbgfpnhiihaaGreatDoorLexPl
import Derived.Test.YtpcgbgfpnhiihaaGreatDoorPrecPl
namespace Go.Proofs.YtpcgbgfpnhiihaaGreatDoor
section
open Utf
namespace Mbx
abbrev S:=Int × List UInt8
def Mh (c:UInt8):Bool:=Lex.Gu c.toNat && c.toNat != 91 && c.toNat != 92 && c.toNat != 93
def Bg (k:S):Bool:=k.1 == 4 || k.1 == 3
def skip:List S->Nat
 | []=>0
 | k::t=>if Bg k then skip t+1 else 0
def more:List S->List UInt8 × Nat
 | d::a::t=>if d=(2,[46])/\a.1=0 then (46::(a.2 ++ (more t).1),(more t).2+2) else ([],0)
 | _=>([],0)
def words:List S->Option (List UInt8 × Nat)
 | []=>none
 | k::t=>if k.1=0 then some (k.2 ++ (more t).1,(more t).2+1) else none
def Eh:List S->Option (List UInt8 × Nat)
 | []=>none
 | k::t=>if k.1=1 then some (k.2,1) else words (k::t)
def Oc:List S->Option (List UInt8 × Nat)
 | []=>none
 | k::t=>if k.1=5 then some (Lex.C9 5 k.2,1) else words (k::t)
def Yh (l:List S) (x:List UInt8) (b:Nat):Option (List UInt8 × List UInt8 × Nat) :=
 if (l.drop b).head? = some (2,[64]) then
  match Oc (l.drop (b+1+skip (l.drop (b+1)))) with
  | none=>none
  | some (y,q)=>some (x,y,b+1+skip (l.drop (b+1))+q+skip (l.drop (b+1+skip (l.drop (b+1))+q)))
 else none
def take (l:List S):Option (List UInt8 × List UInt8 × Nat) :=
 match Eh (l.drop (skip l)) with
 | none=>none
 | some (x,n)=>Yh l x (skip l+n+skip (l.drop (skip l+n)))
def F7:List (List UInt8)->List S
 | []=>[]
 | [p]=>[(0,p)]
 | p::q::r=>(0,p)::(2,[46])::F7 (q::r)
def Dd:List (List UInt8)->List UInt8
 | []=>[]
 | [p]=>p
 | p::q::r=>p ++ 46::Dd (q::r)
theorem Mu (l:List UInt8):∃ h t,Lex.Ds l=h::t:=by
 cases l with
 | nil=>exact ⟨_,_,rfl⟩
 | cons c t =>
  rw [Lex.Ds]
  split
  · exact ⟨_,_,rfl⟩
  · split<;>exact ⟨_,_,rfl⟩
theorem Sg (p:List UInt8) {q:List (List UInt8)} (hq:q ≠ []):Dd (p::q)=p ++ 46::Dd q:=by
 cases q with
 | nil=>exact absurd rfl hq
 | cons a b=>rfl
theorem Lm (p:List UInt8) {q:List (List UInt8)} (hq:q ≠ []):F7 (p::q)=(0,p)::(2,[46])::F7 q:=by
 cases q with
 | nil=>exact absurd rfl hq
 | cons a b=>rfl
theorem Gq:∀ l:List UInt8,Dd (Lex.Ds l)=l
 | []=>rfl
 | c::t=>by
  have ih:=Gq t
  obtain ⟨h,r,e⟩:=Mu t
  rw [Lex.Ds]
  by_cases hc:c.toNat=46
  ·rw [if_pos hc,Sg _ (by rw [e];simp),ih,Lex.Hv hc]
   rfl
  ·rw [if_neg hc]
   rw [e] at ih ⊢
   simp only
   cases r with
   | nil=>show c::h=c::t;rw [<- ih];rfl
   | cons a b=>show c::(h ++ 46::Dd (a::b))=c::t;rw [<- ih];rfl
theorem M7:∀ (n r:List S),(∀ k ∈ n,Bg k=true)->(∀ k t,r=k::t->Bg k=false)->skip (n ++ r)=n.length
 | [],r,_,hr=>by
  cases r with
  | nil=>rfl
  | cons k t=>show skip (k::t)=0;rw [skip,hr k t rfl];rfl
 | k::n,r,hn,hr=>by
  rw [List.cons_append,skip,hn k (by simp),if_pos rfl,M7 n r (λx hx=>hn x (by simp [hx])) hr]
  rfl
def Stop (r:List S):Prop:=∀ k t,r=k::t->k ≠ (2,[46])
theorem Aaz {r:List S} (h:Stop r):more r=([],0):=by
 match r,h with
 | [],_=>rfl
 | [_],_=>rfl
 | d::a::t,h=>rw [more,if_neg (λe=>h d _ rfl e.1)]
theorem Agg:∀ (q:List (List UInt8)) (r:List S),Stop r->q ≠ []->more ((2,[46])::(F7 q ++ r))=(46::Dd q,2*q.length)
 | [],r,_,h=>absurd rfl h
 | [p],r,hr,_=>by
  show more ((2,[46])::(0,p)::r)=_
  rw [more,if_pos ⟨rfl,rfl⟩,Aaz hr]
  simp [Dd]
 | p::a::b,r,hr,_=>by
  show more ((2,[46])::(0,p)::((2,[46])::(F7 (a::b) ++ r)))=_
  rw [more,if_pos ⟨rfl,rfl⟩,Agg (a::b) r hr (by simp)]
  simp only [List.length_cons]
  exact Prod.ext rfl (by show 2*(b.length+1)+2=_;omega)
theorem Ab5:∀ (q:List (List UInt8)),q ≠ []->(F7 q).length+1=2*q.length
 | [],h=>absurd rfl h
 | [p],_=>rfl
 | p::a::b,_=>by
  rw [Lm p (by simp)]
  have:=Ab5 (a::b) (by simp)
  simp only [List.length_cons] at this ⊢
  omega
theorem Ab2 {q:List (List UInt8)} (hq:q ≠ []) {r:List S} (hr:Stop r):words (F7 q ++ r)=some (Dd q,(F7 q).length):=by
 have hl:=Ab5 q hq
 match q,hq with
 | [p],_ =>
  show words ((0,p)::r)=_
  rw [words,if_pos rfl,Aaz hr]
  simp [Dd,F7]
 | p::a::b,_ =>
  show words ((0,p)::((2,[46])::(F7 (a::b) ++ r)))=_
  rw [words,if_pos rfl,Agg (a::b) r hr (by simp)]
  rw [Sg p (by simp)]
  simp only [List.length_cons] at hl ⊢
  congr 2
  omega
inductive Says:List UInt8->List S->Prop
 | quote (x:List UInt8):Says x [(1,x)]
 | words {q:List (List UInt8)} (hq:q ≠ []):Says (Dd q) (F7 q)
inductive SaysD:List UInt8->List S->Prop
 | lit (x:List UInt8):SaysD (Lex.C9 5 x) [(5,x)]
 | words {q:List (List UInt8)} (hq:q ≠ []):SaysD (Dd q) (F7 q)
theorem Ln {q:List (List UInt8)} (hq:q ≠ []):∃ p t,F7 q=(0,p)::t:=by
 match q,hq with
 | [p],_=>exact ⟨p,[],rfl⟩
 | p::a::b,_=>exact ⟨p,_,rfl⟩
theorem Tg {x:List UInt8} {P:List S} (h:Says x P):∃ k t,P=k::t/\Bg k=false/\(k.1=0\/k.1=1):=by
 cases h with
 | quote=>exact ⟨_,_,rfl,rfl,.inr rfl⟩
 | words hq=>obtain ⟨p,t,e⟩:=Ln hq;exact ⟨_,_,e,rfl,.inl rfl⟩
theorem Xx {x:List UInt8} {P:List S} (h:SaysD x P):∃ k t,P=k::t/\Bg k=false/\(k.1=0\/k.1=5):=by
 cases h with
 | lit=>exact ⟨_,_,rfl,rfl,.inr rfl⟩
 | words hq=>obtain ⟨p,t,e⟩:=Ln hq;exact ⟨_,_,e,rfl,.inl rfl⟩
theorem Abj {x:List UInt8} {P r:List S} (h:Says x P) (hr:Stop r):Eh (P ++ r)=some (x,P.length):=by
 cases h with
 | quote=>rfl
 | words hq =>
  have hw:=Ab2 hq hr
  obtain ⟨p,t,e⟩:=Ln hq
  rw [e,List.cons_append] at hw ⊢
  rw [Eh,if_neg (by show ¬ ((0:Int)=1);decide)]
  exact hw
theorem Aky {x:List UInt8} {P r:List S} (h:SaysD x P) (hr:Stop r):Oc (P ++ r)=some (x,P.length):=by
 cases h with
 | lit=>rfl
 | words hq =>
  have hw:=Ab2 hq hr
  obtain ⟨p,t,e⟩:=Ln hq
  rw [e,List.cons_append] at hw ⊢
  rw [Oc,if_neg (by show ¬ ((0:Int)=5);decide)]
  exact hw
theorem Uo {n r:List S} (hn:∀ k ∈ n,Bg k=true) (hr:Stop r):Stop (n ++ r):=by
 cases n with
 | nil=>exact hr
 | cons k n =>
  intro j t e
  rw [List.cons_append] at e
  injection e with e1 e2
  rw [<- e1]
  intro e3
  have:=hn k (by simp)
  rw [e3] at this
  cases this
theorem Aqy {n0 n1 n2 n3 P D r:List S} {x y:List UInt8} (h0:∀ k ∈ n0,Bg k=true) (h1:∀ k ∈ n1,Bg k=true) (h2:∀ k ∈ n2,Bg k=true) (h3:∀ k ∈ n3,Bg k=true) (hP:Says x P) (hD:SaysD y D)
  (hr:Stop r) (hr2:∀ k t,r=k::t->Bg k=false):take (n0 ++ (P ++ (n1 ++ ((2,[64])::(n2 ++ (D ++ (n3 ++ r)))))))=some (x,y,(n0 ++ (P ++ (n1 ++ ((2,[64])::(n2 ++ (D ++ n3)))))).length):=by
 obtain ⟨kp,tp,eP,np,-⟩:=Tg hP
 obtain ⟨kd,td,eD,nd,-⟩:=Xx hD
 have hat:Stop ((2,[64])::(n2 ++ (D ++ (n3 ++ r)))):=λk t e=>by injection e with e1 _;rw [<- e1];decide
 have hatn:∀ k t,((2,[64])::(n2 ++ (D ++ (n3 ++ r))):List S)=k::t->Bg k=false:=λk t e=>by injection e with e1 _;rw [<- e1];rfl
 have s0:skip (n0 ++ (P ++ (n1 ++ ((2,[64])::(n2 ++ (D ++ (n3 ++ r)))))))=n0.length:=M7 _ _ h0 (λk t e=>by rw [eP,List.cons_append] at e;injection e with e1 _;rw [<- e1];exact np)
 have l0:=Abj hP (r:=n1 ++ ((2,[64])::(n2 ++ (D ++ (n3 ++ r))))) (Uo h1 hat)
 have s1:skip (n1 ++ ((2,[64])::(n2 ++ (D ++ (n3 ++ r)))))=n1.length:=M7 _ _ h1 hatn
 have s2:skip (n2 ++ (D ++ (n3 ++ r)))=n2.length:=M7 _ _ h2 (λk t e=>by rw [eD,List.cons_append] at e;injection e with e1 _;rw [<- e1];exact nd)
 have l1:=Aky hD (r:=n3 ++ r) (Uo h3 hr)
 have s3:skip (n3 ++ r)=n3.length:=M7 _ _ h3 hr2
 generalize hR3:n3 ++ r=R3 at *
 generalize hR2:D ++ R3=R2 at *
 generalize hR1:n2 ++ R2=R1 at *
 generalize hRa:n1 ++ (2,[64])::R1=Ra at *
 generalize hRp:P ++ Ra=Rp at *
 have d0:(n0 ++ Rp).drop n0.length=Rp:=List.drop_left
 have d1:(n0 ++ Rp).drop (n0.length+P.length)=Ra:=by rw [<- List.drop_drop,d0,<- hRp,List.drop_left]
 have d2:(n0 ++ Rp).drop (n0.length+P.length+n1.length)=(2,[64])::R1:=by rw [<- List.drop_drop,d1,<- hRa,List.drop_left]
 have d3:(n0 ++ Rp).drop (n0.length+P.length+n1.length+1)=R1:=by rw [<- List.drop_drop,d2];rfl
 have d4:(n0 ++ Rp).drop (n0.length+P.length+n1.length+1+n2.length)=R2:=by rw [<- List.drop_drop,d3,<- hR1,List.drop_left]
 have d5:(n0 ++ Rp).drop (n0.length+P.length+n1.length+1+n2.length+D.length)=R3:=by rw [<- List.drop_drop,d4,<- hR2,List.drop_left]
 unfold take
 rw [s0,d0,l0]
 simp only
 rw [d1,s1]
 unfold Yh
 rw [d2,List.head?_cons,if_pos rfl,d3,s2,d4,l1]
 simp only
 rw [d5,s3]
 simp only [List.length_append,List.length_cons]
 congr 3
 omega
end Mbx
end
section
open Utf
namespace Mbx
open Lex
def Jh (r:List UInt8):Prop:=∀ c t,r=c::t->Ao c=false
theorem Rx {a:Nat} {p r:List UInt8} {ts:List Tok} (hp:Eb p=true) (hr:Jh r) (h:Cuts (a+p.length) r ts):Cuts a (p ++ r) (⟨0,p,a⟩::ts):=by
 unfold Eb at hp
 rw [Bool.and_eq_true,List.all_eq_true] at hp
 have hw:=Kk Ao p r hp.2 hr
 have h1:one (p ++ r)=(0,.fine p p.length):=by
  cases p with
  | nil=>cases hp.1
  | cons c p =>
   rw [List.cons_append] at hw ⊢
   rw [Mr _ (hp.2 c (by simp)),hw]
 exact .cons h1 (by rw [List.drop_left];exact h)
theorem Ki {a:Nat} {c:UInt8} {r:List UInt8} {ts:List Tok} (hc:Ey c.toNat=true) (h:Cuts (a+1) r ts):Cuts a (c::r) (⟨2,[c],a⟩::ts):=.cons (Ms r hc) h
theorem F5 {c:UInt8} {r:List UInt8} (h:Ao c=false):Jh (c::r):=λd t e=>by injection e with e1 _;rw [<- e1];exact h
theorem Ae9 {r:List UInt8} {ts:List Tok} (hr:Jh r):∀ (q:List (List UInt8)) (a:Nat),q ≠ []->(∀ p ∈ q,Eb p=true)->Cuts (a+(Dd q).length) r ts->∃ ws:List Tok,Cuts a (Dd q ++ r) (ws ++ ts)/\ws.map Dx=F7 q
 | [],_,h,_,_=>absurd rfl h
 | [p],a,_,hp,h=>⟨[⟨0,p,a⟩],Rx (hp p (by simp)) hr h,rfl⟩
 | p::x::y,a,_,hp,h=>by
  have hd:Dd (p::x::y)=p ++ 46::Dd (x::y):=rfl
  rw [hd] at h ⊢
  obtain ⟨ws,hw,hm⟩:=Ae9 hr (x::y) (a+p.length+1) (by simp) (λz hz=>hp z (by simp [hz])) (by rw [List.length_append,List.length_cons] at h;rw [show a+p.length+1+(Dd (x::y)).length=a+(p.length+((Dd (x::y)).length+1)) by omega];exact h)
  refine ⟨⟨0,p,a⟩::⟨2,[46],a+p.length⟩::ws,?_,?_⟩
  ·rw [List.append_assoc]
   exact Rx (hp p (by simp)) (F5 (by decide)) (Ki (by decide) hw)
  ·rw [List.map_cons,List.map_cons,hm,Lm p (by simp)]
   rfl
theorem Ab3 {r:List UInt8} {ts:List Tok} (hr:Jh r) {l:List UInt8} {a:Nat} (hl:Dy l=true) (h:Cuts (a+l.length) r ts):∃ ws:List Tok,Cuts a (l ++ r) (ws ++ ts)/\ws.map Dx=F7 (Ds l):=by
 obtain ⟨x,y,e⟩:=Mu l
 have hd:=Gq l
 unfold Dy at hl
 rw [List.all_eq_true] at hl
 have:=Ae9 hr (Ds l) a (by rw [e];simp) hl (by rw [hd];exact h)
 rwa [hd] at this
theorem Aps {a:Nat} {x r:List UInt8} {ts:List Tok} (hx:∀ b ∈ x,Az b=true) (h:Cuts (a+(C9 1 x).length) r ts):Cuts a (C9 1 x ++ r) (⟨1,x,a⟩::ts):=by
 have hs:C9 1 x=34::(esc x ++ [34]):=rfl
 have h1:one (C9 1 x ++ r)=(1,.fine x (C9 1 x).length):=by
  rw [hs,List.cons_append,List.append_assoc,N6 34 _ rfl]
  show (1,(quo (esc x ++ 34::r)).top)=_
  rw [Rb x r hx]
  simp only [Cut.top,List.length_cons,List.length_append,List.length_nil]
 exact .cons h1 (by rw [List.drop_left];exact h)
def Ac7:List UInt8->Bool
 | []=>false
 | c::t=>decide (c.toNat=91) && match lit t with
  | .fine _ n=>decide (n=t.length)
  | _=>false
theorem Aye {y:List UInt8} (h:Ac7 y=true):∃ x,y=C9 5 x/\∀ r,lit (x ++ 93::r)=.fine x (x.length+1):=by
 cases y with
 | nil=>cases h
 | cons c t =>
  rw [Ac7,Bool.and_eq_true,decide_eq_true_eq] at h
  obtain ⟨hc,h⟩:=h
  cases hl:lit t with
  | fine x n =>
   rw [hl] at h
   obtain ⟨g1,g2,g3,g4⟩:=Mn t x n hl
   have hn:n=t.length:=by simpa using h
   rw [hn,List.take_length] at g3
   have hxl:n=x.length+1:=by rw [hn,<- g3];simp
   refine ⟨x,by rw [<- g3,Hv hc];rfl,λr=>?_⟩
   have:=g4 r
   rw [hn,List.take_length,<- g3,List.append_assoc] at this
   rw [show x.length+1=(x ++ [(93:UInt8)]).length by simp]
   exact this
  | bad i=>rw [hl] at h;cases h
  | gap=>rw [hl] at h;cases h
  | deep i=>rw [hl] at h;cases h
theorem Awi {a:Nat} {y r:List UInt8} {ts:List Tok} (hy:Ac7 y=true) (h:Cuts (a+y.length) r ts):∃ x,y=C9 5 x/\Cuts a (y ++ r) (⟨5,x,a⟩::ts):=by
 obtain ⟨x,rfl,hl⟩:=Aye hy
 refine ⟨x,rfl,?_⟩
 have hs:C9 5 x=91::(x ++ [93]):=rfl
 have h1:one (C9 5 x ++ r)=(5,.fine x (C9 5 x).length):=by
  rw [hs,List.cons_append,List.append_assoc,Vg 91 _ rfl]
  show (5,(lit (x ++ 93::r)).top)=_
  rw [hl r]
  simp only [Cut.top,List.length_cons,List.length_append,List.length_nil]
 exact .cons h1 (by rw [List.drop_left];exact h)
def D9 (x:List UInt8):List UInt8:=if Dy x then x else C9 1 x
theorem Aoq {a:Nat} {x r:List UInt8} {ts:List Tok} (hx:∀ b ∈ x,Az b=true) (hr:Jh r) (h:Cuts (a+(D9 x).length) r ts):∃ (ws:List Tok) (P:List S),Cuts a (D9 x ++ r) (ws ++ ts)/\ws.map Dx=P/\Says x P:=by
 unfold D9 at h ⊢
 cases hw:Dy x with
 | true =>
  rw [hw] at h
  obtain ⟨ws,h1,h2⟩:=Ab3 hr hw h
  obtain ⟨p,q,e⟩:=Mu x
  have hs:Says (Dd (Ds x)) (F7 (Ds x)):=.words (by rw [e];simp)
  rw [Gq] at hs
  exact ⟨ws,_,h1,h2,hs⟩
 | false =>
  rw [hw] at h
  exact ⟨[⟨1,x,a⟩],[(1,x)],Aps hx h,rfl,.quote x⟩
def Avx (y:List UInt8):Bool:=Dy y || Ac7 y
theorem Avy {a:Nat} {y r:List UInt8} {ts:List Tok} (hy:Avx y=true) (hr:Jh r) (h:Cuts (a+y.length) r ts):∃ (ws:List Tok) (D:List S),Cuts a (y ++ r) (ws ++ ts)/\ws.map Dx=D/\SaysD y D:=by
 unfold Avx at hy
 rw [Bool.or_eq_true] at hy
 rcases hy with hw | hl
 ·obtain ⟨ws,h1,h2⟩:=Ab3 hr hw h
  obtain ⟨p,q,e⟩:=Mu y
  have hs:SaysD (Dd (Ds y)) (F7 (Ds y)):=.words (by rw [e];simp)
  rw [Gq] at hs
  exact ⟨ws,_,h1,h2,hs⟩
 ·obtain ⟨x,hx,h1⟩:=Awi hl h
  subst hx
  exact ⟨[⟨5,x,a⟩],[(5,x)],h1,rfl,.lit x⟩
def Gap (n:List UInt8) (r:List UInt8):Prop:=∀ (a:Nat) (ts:List Tok),Cuts (a+n.length) r ts->∃ ws:List Tok,Cuts a (n ++ r) (ws ++ ts)/\∀ k ∈ ws.map Dx,Bg k=true
end Mbx
end
section
open Go.RowKit Utf
namespace Mbx
def O6 (x:Int):Bool:=!(decide (0<=x) && decide (x<128)) || Lex.Tu x.toNat
theorem Ap7:∀ n,n<128->(O6 ((n:Nat):Int) || (!Lab.Bo ((n:Nat):Int) && !Ctx.Br ((n:Nat):Int) && Wall.Bv ((n:Nat):Int) && !Bidi.Ca ((n:Nat):Int)))=true:=by decide +kernel
theorem Vt {x:Int} (h:O6 x=false):(Lab.Bo x=false/\Ctx.Br x=false/\Wall.Bv x=true/\Bidi.Ca x=false)/\0<=x/\x<128/\Lex.Tu x.toNat=false:=by
 have h0:=h
 unfold O6 at h
 simp only [Bool.or_eq_false_iff,Bool.not_eq_false',Bool.and_eq_true,decide_eq_true_eq] at h
 obtain ⟨⟨h1,h2⟩,h3⟩:=h
 have:=Ap7 x.toNat (by omega)
 rw [show ((x.toNat:Nat):Int)=x by omega,h0] at this
 simp only [Bool.false_or,Bool.and_eq_true,Bool.not_eq_true'] at this
 exact ⟨⟨this.1.1.1,this.1.1.2,this.1.2,this.2⟩,h1,h2,h3⟩
theorem J9 (c:UInt8):O6 (c.toNat:Int)=true ↔ Lex.Ao c=true:=by
 unfold O6 Lex.Ao
 by_cases h:c.toNat<128
 ·rw [decide_eq_true (show (0:Int)<=(c.toNat:Int) by omega),decide_eq_true (show (c.toNat:Int)<128 by omega)]
  simp
 ·rw [decide_eq_false (show ¬ (c.toNat:Int)<128 by omega)]
  unfold Lex.Tu
  rw [decide_eq_true (show 128<=c.toNat by omega)]
  simp
theorem Aob {c:UInt8} (h:128<=c.toNat):Lex.Ao c=true:=(J9 c).1 (by unfold O6;rw [decide_eq_false (show ¬ (c.toNat:Int)<128 by omega)];simp)
theorem Ab1 {l:List Int} (h:Lab.Ez l=0):∀ x ∈ l,O6 x=true:=by
 have hb:Lab.Hg l=false:=by
  unfold Lab.Ez at h
  split at h
  ·omega
  ·split at h
   ·omega
   ·split at h
    ·omega
    ·split at h
     ·omega
     ·rename_i h4
      simpa using h4
 intro x hx
 obtain ⟨k,hk,rfl⟩:=List.getElem_of_mem hx
 unfold Lab.Hg at hb
 rw [List.any_eq_false] at hb
 have h1:=hb k (List.mem_range.2 hk)
 rw [Bool.or_eq_true,not_or,getElem!_pos l k hk] at h1
 cases hd:O6 l[k] with
 | true=>rfl
 | false =>
  exfalso
  obtain ⟨hc,-⟩:=Vt hd
  refine h1.2 ?_
  rw [Ctx.Ha hk,getElem!_pos l k hk,hc.1,hc.2.1]
  rfl
theorem An6 {l:List Int} (h:Af l=true) (hd:∀ x ∈ l,O6 x=true):∀ c ∈ Puny.Bm l,Lex.Ao c=true:=by
 have hp:∀ x ∈ l,0<=x:=λx hx=>by
  have:=List.all_eq_true.1 (show l.all Ak=true from h) x hx
  have:=(Al x).1 this
  omega
 intro c hc
 unfold Puny.Bm at hc
 rcases List.mem_append.1 hc with hc | hc
 ·rcases List.mem_append.1 hc with hc | hc
  ·unfold Puny.Bc at hc
   obtain ⟨x,hx,rfl⟩:=List.mem_map.1 hc
   have hm:x ∈ l/\x<128:=by
    unfold Puny.lt at hx
    have:=List.mem_filter.1 hx
    exact ⟨this.1,by simpa using this.2⟩
   have hx0:=hp x hm.1
   refine (J9 _).1 ?_
   have e:(((u x.toNat).toNat:Nat):Int)=x:=by rw [A9 (by omega)];omega
   show O6 (((u x.toNat).toNat:Nat):Int)=true
   rw [e]
   exact hd x hm.1
  ·unfold Puny.Jy at hc
   split at hc
   ·cases hc
   ·rw [List.mem_singleton.1 hc];decide
 ·unfold Puny.Cs at hc
  obtain ⟨x,hx,rfl⟩:=List.mem_map.1 hc
  obtain ⟨h0,h1⟩:=Puny.Kv _ _ _ _ (Puny.Gp (Ef h)) x hx
  have:∀ i:Nat,i<36->Lex.Ao (Puny.Iw (i:Int))=true:=by decide +kernel
  have:=this x.toNat (by omega)
  rwa [show ((x.toNat:Nat):Int)=x by omega] at this
theorem Ajp {L:List Int} (hr:Af L=true) {a u:List UInt8} (h:Lab.Ej L=(0,a,u)):∀ x ∈ L,O6 x=true:=by
 unfold Lab.Ej at h
 by_cases h1:Lab.Du (Ah L)=false
 ·rw [if_pos h1] at h
  by_cases h2:Lab.Ez L=0
  ·exact Ab1 h2
  ·rw [if_neg h2] at h
   injection h with e1 e2
   exact absurd e1 h2
 ·rw [if_neg h1] at h
  have ha:∀ c ∈ Ah L,c.toNat<128:=Lab.Fx.1 (by simpa using h1)
  have hch:Lab.chars (Ah L)=L:=Lab.Io (Lab.Et ha) hr (Ee _ ha)
  suffices hb:∀ c ∈ Ah L,Lex.Ao c=true by
   intro x hx
   rw [<- hch] at hx
   obtain ⟨c,hc,rfl⟩:=List.mem_map.1 hx
   exact (J9 c).2 (hb c hc)
  by_cases h3:(Ah L).take 4=Lab.sign
  ·rw [if_pos h3] at h
   cases hd:Puny.Hi ((Ah L).drop 4) with
   | none =>
    rw [hd] at h
    simp only at h
    injection h with e1 e2
    exact absurd e1 (by decide)
   | some l =>
    rw [hd] at h
    simp only at h
    by_cases h4:63<(Ah L).length
    ·rw [if_pos h4] at h
     injection h with e1 e2
     exact absurd e1 (by decide)
    ·rw [if_neg h4] at h
     by_cases h5:Lab.Ez l ≠ 0
     ·rw [if_pos h5] at h
      injection h with e1 e2
      exact absurd e1 h5
     ·rw [if_neg h5] at h
      rw [Decidable.not_not] at h5
      by_cases h6:Puny.Bm l ≠ (Ah L).drop 4
      ·rw [if_pos h6] at h
       injection h with e1 e2
       exact absurd e1 (by decide)
      ·rw [Decidable.not_not] at h6
       obtain ⟨hrl,-,-⟩:=Puny.Acs hd
       have hcat:Lab.sign ++ Puny.Bm l=Ah L:=by rw [h6,<- h3,List.take_append_drop]
       intro c hc
       rw [<- hcat] at hc
       rcases List.mem_append.1 hc with hc | hc
       ·exact (by decide:∀ c ∈ Lab.sign,Lex.Ao c=true) c hc
       ·exact An6 hrl (Ab1 h5) c hc
  ·rw [if_neg h3] at h
   by_cases h4:Lab.Fu (Ah L)=0
   ·unfold Lab.Fu at h4
    split at h4
    ·omega
    ·split at h4
     ·omega
     ·split at h4
      ·omega
      ·rename_i h5
       intro c hc
       refine (J9 c).1 ?_
       cases hg:O6 (c.toNat:Int) with
       | true=>rfl
       | false =>
        exfalso
        obtain ⟨⟨-,-,-,h6⟩,-⟩:=Vt hg
        have h7:((Ah L).all λc=>Bidi.Ca (c.toNat:Int))=true:=by simpa using h5
        have:=List.all_eq_true.1 h7 c hc
        rw [h6] at this
        cases this
   ·rw [if_neg h4] at h
    injection h with e1 e2
    exact absurd e1 h4
theorem Adc:∀ {L:List Int} {x:Int},x ∈ L->Dom.Ck x=false->∃ P ∈ Dom.cut L,x ∈ P
 | y::L,x,h,hx=>by
  obtain ⟨a,t,e⟩:=Dom.Ff L
  rw [Dom.cut]
  by_cases hy:Dom.Ck y=true
  ·rw [if_pos hy]
   rcases List.mem_cons.1 h with rfl | h
   ·rw [hx] at hy;cases hy
   ·obtain ⟨P,hP,hm⟩:=Adc h hx
    exact ⟨P,List.mem_cons_of_mem _ hP,hm⟩
  ·rw [if_neg hy,e]
   rcases List.mem_cons.1 h with rfl | h
   ·exact ⟨x::a,by simp,by simp⟩
   ·obtain ⟨P,hP,hm⟩:=Adc h hx
    rw [e] at hP
    rcases List.mem_cons.1 hP with rfl | hP
    · exact ⟨y::P,by simp,by simp [hm]⟩
    · exact ⟨P,by simp [hP],hm⟩
theorem Auy:∀ l:List Int,(46 ∉ l)\/∃ q r,l=q ++ 46::r/\46 ∉ q
 | []=>.inl (by simp)
 | x::l=>by
  by_cases hx:x=46
  ·exact .inr ⟨[],l,by rw [hx];rfl,by simp⟩
  ·rcases Auy l with h | ⟨q,r,e,h⟩
   · exact .inl (by simp only [List.mem_cons,not_or];exact ⟨λe=>hx e.symm,h⟩)
   · exact .inr ⟨x::q,r,by rw [e];rfl,by simp only [List.mem_cons,not_or];exact ⟨λe=>hx e.symm,h⟩⟩
theorem Jz:∀ {l:List UInt8},(∀ c ∈ l,c.toNat ≠ 46)->Lex.Ds l=[l]
 | [],_=>rfl
 | c::t,h=>by rw [Lex.Ds,if_neg (h c (by simp)),Jz (λb hb=>h b (by simp [hb]))]
theorem Ae7:∀ {p:List UInt8} (t:List UInt8),(∀ c ∈ p,c.toNat ≠ 46)->Lex.Ds (p ++ 46::t)=p::Lex.Ds t
 | [],t,_=>by rw [List.nil_append,Lex.Ds,if_pos (by decide)]
 | c::p,t,h=>by rw [List.cons_append,Lex.Ds,if_neg (h c (by simp)),Ae7 t (λb hb=>h b (by simp [hb]))]
theorem Xl {q:List Int} (hr:Af q=true) (h46:46 ∉ q) (h:∀ P ∈ Dom.cut (Fold.fold q),P ≠ []/\∀ x ∈ P,O6 x=true):Lex.Eb (Ah q)=true/\∀ c ∈ Ah q,c.toNat ≠ 46:=by
 constructor
 ·unfold Lex.Eb
  rw [Bool.and_eq_true,List.all_eq_true]
  constructor
  ·cases q with
   | nil=>exact absurd rfl (h [] (by decide)).1
   | cons x t =>
    have:0<(Ah (x::t)).length:=by
     have:=Fh (x::t)
     unfold Ah
     rw [List.flatMap_cons,List.length_append]
     have:0<(enc x.toNat).length:=by unfold enc;split<;>(try split)<;>(try split)<;>simp
     omega
    cases he:Ah (x::t) with
    | nil=>rw [he] at this;cases this
    | cons a b=>rfl
  ·intro c hc
   by_cases h128:c.toNat<128
   ·have hm:=Prec.Acg hr hc h128
    rw [<- J9]
    cases hg:O6 (c.toNat:Int) with
    | true=>rfl
    | false =>
     exfalso
     obtain ⟨⟨-,-,hw,-⟩,-⟩:=Vt hg
     obtain ⟨s,t,rfl⟩:=List.append_of_mem hm
     have hfold:=Wall.U6 hw s t
     have hd:Dom.Ck (c.toNat:Int)=false:=by
      unfold Dom.Ck
      rw [Bool.or_eq_false_iff,beq_eq_false_iff_ne,beq_eq_false_iff_ne]
      exact ⟨λe=>h46 (by rw [e];simp),by omega⟩
     obtain ⟨P,hP,hx⟩:=Adc (L:=Fold.fold (s ++ (c.toNat:Int)::t)) (x:=(c.toNat:Int)) (by rw [hfold];simp) hd
     have:=(h P hP).2 _ hx
     rw [hg] at this
     cases this
   ·exact Aob (by omega)
 ·intro c hc e
  have:=Prec.Acg hr hc (by omega)
  rw [e] at this
  exact h46 this
theorem Alo (n:Nat):∀ l:List Int,l.length<=n->Af l=true->(∀ P ∈ Dom.cut (Fold.fold l),P ≠ []/\∀ x ∈ P,O6 x=true)->Lex.Dy (Ah l)=true:=by
 induction n with
 | zero =>
  intro l hl hr h
  obtain rfl:l=[]:=List.eq_nil_of_length_eq_zero (by omega)
  exact absurd rfl (h [] (by decide)).1
 | succ n ih =>
  intro l hl hr h
  unfold Lex.Dy
  rcases Auy l with h46 | ⟨q,r,rfl,h46⟩
  ·obtain ⟨h1,h2⟩:=Xl hr h46 h
   rw [Jz h2,List.all_cons,h1]
   rfl
  ·have hrq:Af q=true/\Af r=true:=by
    unfold Af at hr ⊢
    rw [List.all_append,List.all_cons,Bool.and_eq_true,Bool.and_eq_true] at hr
    exact ⟨hr.1,hr.2.2⟩
   rw [Dom.Asv,Dom.Al2] at h
   obtain ⟨h1,h2⟩:=Xl hrq.1 h46 (λP hP=>h P (List.mem_append.2 (.inl hP)))
   have h3:=ih r (by rw [List.length_append,List.length_cons] at hl;omega) hrq.2 (λP hP=>h P (List.mem_append.2 (.inr hP)))
   unfold Lex.Dy at h3
   rw [Dom.Al6,Ae7 _ h2,List.all_cons,h1,h3]
   rfl
theorem Anx {y a u:List UInt8} (h:Dom.Cj y=(0,a,u)):Lex.Dy y=true:=by
 obtain ⟨l,hr,rfl,h0,h1,h2,-⟩:=Dom.Acf h
 refine Alo _ l (Nat.le_refl _) hr λP hP=>?_
 have hrP:Af P=true:=Dom.Nt (D8 hr) P hP
 have hf:Fold.fold P=P:=Dom.Xm l P hP
 have h3:=h2 P hP
 constructor
 ·rintro rfl
  exact absurd h3 (by decide +kernel)
 ·unfold Dom.D5 at h3
  rw [Lab.Ia hrP,hf] at h3
  obtain ⟨⟨e,b,v⟩,hb⟩:∃ p,Lab.Ej P=p:=⟨_,rfl⟩
  rw [hb] at h3
  obtain rfl:e=0:=h3
  exact Ajp hrP hb
open Norm in
def Ll (r:Int):Bool:=decide ((Norm.pieces false (Fold.fo r)).length<=(enc r.toNat).length)
theorem Aow:∀ y ∈ lowers,∀ i ∈ List.range (y.hi - y.lo+1).toNat,Ll (y.lo+i)=true:=by decide +kernel
theorem Ahp:∀ y ∈ splits,Ll y.rune=true:=by decide +kernel
theorem Alk:∀ i ∈ List.range 94,Ll (65281+i)=true:=by decide +kernel
theorem Kx (n:Nat):0<(enc n).length:=by unfold enc;split<;>(try split)<;>(try split)<;>simp
theorem Au9 {r:Int}:Ll r=true:=by
 cases hs:Norm.syl r with
 | true =>
  unfold Ll
  rw [Fold.Vc hs,decide_eq_true_eq]
  have e:Norm.pieces false r=Norm.Cr r:=by rw [Norm.Ay,hs];rfl
  have h2:44032<=r/\r<=55203:=by simpa [Norm.syl] using hs
  have h3:(enc r.toNat).length=3:=by
   unfold enc
   rw [if_neg (by omega),if_neg (by omega),if_pos (by omega)]
   rfl
  rw [e,h3]
  unfold Norm.Cr
  split<;>simp
 | false =>
  cases hw:Bl r with
  | true =>
   simp only [Bl,Bool.and_eq_true,decide_eq_true_eq] at hw
   have:=Alk (r - 65281).toNat (by rw [List.mem_range];omega)
   rwa [show (65281:Int)+((r - 65281).toNat:Int)=r by omega] at this
  | false =>
   cases hp:Aj r with
   | some y =>
    rcases Bi hp with ⟨hy,rfl⟩ | ⟨hw',-⟩
    ·exact Ahp y hy
    ·rw [hw] at hw';cases hw'
   | none =>
    have hn:Fold.narrow r=r:=by unfold Fold.narrow;rw [hw];rfl
    cases hl:K9 r with
    | some y =>
     obtain ⟨h1,h2,h3⟩:=Cz hl
     have:=Aow y h1 (r - y.lo).toNat (by rw [List.mem_range];omega)
     rwa [show y.lo+((r - y.lo).toNat:Int)=r by omega] at this
    | none =>
     have e:Norm.pieces false r=[r]:=by rw [Norm.Ay,hs,hp];rfl
     have hf:Fold.fo r=r:=by unfold Fold.fo Fi;rw [hn,hl]
     unfold Ll
     rw [hf,e,decide_eq_true_eq]
     exact Kx _
theorem Abo:∀ l:List Int,(Norm.split false (l.map Fold.fo)).length<=(Ah l).length
 | []=>by simp [Norm.split]
 | x::l=>by
  have ih:=Abo l
  have hx:=Au9 (r:=x)
  unfold Ll at hx
  rw [decide_eq_true_eq] at hx
  unfold Norm.split at ih ⊢
  unfold Ah at ih ⊢
  rw [List.map_cons,List.flatMap_cons,List.flatMap_cons,List.length_append,List.length_append]
  omega
theorem We (l:List Int):(Norm.down false (l.map Fold.fo)).length<=(Ah l).length:=by
 have h1:=Abo l
 have h2:=Adv (Norm.Gw (Norm.split false (l.map Fold.fo)))
 unfold Norm.down
 omega
theorem Ajf (l:List Int):(Fold.fold l).length<=(Ah l).length:=by
 have h1:=We l
 have h3:=Aap (Norm.down false (l.map Fold.fo))
 unfold Fold.fold
 omega
end Mbx
theorem Fs {s:ByteArray} (hs:s.size<=400):Au s:=by
 refine ⟨by omega,λm hm=>?_⟩
 obtain ⟨-,h2⟩:=Lab.Mw (s:=s.data.toList) (by rw [hm])
 rw [hm] at h2
 simp only at h2
 have h3:=Mbx.Ajf (ints m)
 have h5:=Mbx.We (ints m)
 have h4:s.data.toList=Ah (ints m):=h2
 rw [<- h4] at h3 h5
 have e:s.data.toList.length=s.size:=by simp
 have hml:m.length<=400:=by have:=(Dw hm).2.1;simp at this;omega
 have hil:(ints m).length=m.length:=by simp [ints]
 exact ⟨⟨by omega,hm,by omega,by omega⟩,by omega⟩
end
section
open Go.RowKit Utf
namespace Mbx
open Lex (Cuts Tok Az Em C9 Dy Eb ok esc Ao Ap)
def Gc (y:List UInt8):Bool:=y.head? == some 91
def Mm (y:List UInt8):Bool:=decide ((As y).2=-1) && Ac7 y
def Jn (x y:List UInt8):Int :=
 if x=[] then 13 else if 64<x.length then 5 else if (As x).2 ≠ -1 then 7 else if x.all Az=false then 8
 else if Gc y=true then (if Mm y then 0 else 4) else (Dom.Cj y).1
def Ew (x y:List UInt8):List UInt8:=D9 x ++ 64::y
def Aa2 (x:List UInt8):List UInt8:=if (Prec.Q3 x).1=0 then (Prec.Q3 x).2 else x
def Anw (y:List UInt8):List UInt8:=if Gc y=true then y.map An else if (Dom.Cj y).1=0 then (Dom.Cj y).2.1 else y
def Wc (x y:List UInt8):Int × List UInt8 × List UInt8 :=
 if Bj x ≠ -1 then (8,[],[]) else if Gc y=true then (if Bj y ≠ -1 then (8,[],[]) else (0,x,y))
 else if (Dom.Cj y).1=0 then (0,x,Dom.Afa y) else ((Dom.Cj y).1,[],[])
theorem Ahb {x y:List UInt8} (h:Jn x y=0):x ≠ []/\x.length<=64/\ok x/\(∀ b ∈ x,Az b=true)/\((Gc y=true/\Mm y=true)\/(Gc y=false/\(Dom.Cj y).1=0)):=by
 unfold Jn at h
 by_cases h1:x=[]
 ·rw [if_pos h1] at h;exact absurd h (by decide)
 rw [if_neg h1] at h
 by_cases h2:64<x.length
 ·rw [if_pos h2] at h;exact absurd h (by decide)
 rw [if_neg h2] at h
 by_cases h3:(As x).2 ≠ -1
 ·rw [if_pos h3] at h;exact absurd h (by decide)
 rw [if_neg h3] at h
 by_cases h4:x.all Az=false
 ·rw [if_pos h4] at h;exact absurd h (by decide)
 rw [if_neg h4] at h
 refine ⟨h1,by omega,(show (As x).2=-1 from Decidable.not_not.1 h3),List.all_eq_true.1 (by simpa using h4),?_⟩
 by_cases h5:Gc y=true
 ·rw [if_pos h5] at h
  by_cases h6:Mm y=true
  · exact .inl ⟨h5,h6⟩
  · rw [if_neg h6] at h;exact absurd h (by decide)
 ·rw [if_neg h5] at h
  exact .inr ⟨by simpa using h5,h⟩
theorem Ax2 {y:List UInt8} (h:(Dom.Cj y).1=0):ok y/\Dy y=true:=by
 obtain ⟨⟨e,a,u⟩,hb⟩:∃ p,Dom.Cj y=p:=⟨_,rfl⟩
 rw [hb] at h
 obtain rfl:e=0:=h
 obtain ⟨l,hr,e,-⟩:=Dom.Acf hb
 exact ⟨(Lex.Pd y).2 ⟨l,hr,e⟩,Anx hb⟩
theorem Ap3 {x y:List UInt8} (h:Jn x y=0):ok y/\Avx y=true:=by
 obtain ⟨-,-,-,-,h⟩:=Ahb h
 unfold Avx
 rcases h with ⟨-,h⟩ | ⟨-,h⟩
 ·unfold Mm at h
  rw [Bool.and_eq_true,decide_eq_true_eq] at h
  exact ⟨h.1,by rw [h.2,Bool.or_true]⟩
 ·obtain ⟨h1,h2⟩:=Ax2 h
  exact ⟨h1,by rw [h2];rfl⟩
theorem Akc:∀ (x pre:List UInt8),ok (pre ++ x)->ok (pre ++ esc x)
 | [],pre,h=>h
 | c::t,pre,h=>by
  by_cases hs:c.toNat=34\/c.toNat=92
  ·have hc:c.toNat<128:=by omega
   obtain ⟨h1,h2⟩:=Lex.Mq hc h
   rw [Lex.Acx hs]
   have h3:=Akc t [] h2
   have h4:ok [92,c]:=Lex.Hl λb hb=>by
    simp only [List.mem_cons,List.not_mem_nil,or_false] at hb
    rcases hb with rfl | rfl
    · decide
    · exact hc
   exact Lex.It h1 (Lex.It h4 h3)
  ·rw [Lex.O0 hs]
   have:=Akc t (pre ++ [c]) (by rw [List.append_assoc];exact h)
   rw [List.append_assoc] at this
   exact this
theorem Atd {x:List UInt8} (h:ok x):ok (D9 x):=by
 unfold D9
 split
 ·exact h
 ·have h1:ok (esc x):=Akc x [] h
  have h2:ok [(34:UInt8)]:=Lex.Hl (by decide)
  exact Lex.It h2 (Lex.It h1 h2)
theorem Kd (x:List UInt8):(D9 x).length<=2*x.length+2:=by
 unfold D9
 split
 ·omega
 ·have:=Lex.Al7 x
  rw [C9,if_neg (by decide),if_neg (by decide),if_pos rfl]
  simp only [List.length_cons,List.length_append,List.length_nil]
  omega
theorem Aey {s:List UInt8} {ts:List Tok} (hl:s.length<=2000) (ho:ok s) (h:Cuts 0 s ts):Em s=(0,0,ts):=by
 have ho':(As s).2=-1:=ho
 unfold Em
 rw [if_neg (by omega),if_pos ho',Lex.Axv h _ (Nat.le_refl _)]
def C8 (l:List S):List UInt8:=l.flatMap λk=>C9 k.1 k.2
theorem Kf:∀ ts:List Tok,C8 (ts.map Lex.Dx)=Lex.outs ts
 | []=>rfl
 | k::ts=>by
  have ih:=Kf ts
  unfold C8 at ih ⊢
  rw [List.map_cons,List.flatMap_cons,ih]
  rfl
theorem Axs {k:Int} (h:k=0) (x:List UInt8):C9 k x=x:=by subst h;rfl
theorem Agh:∀ l:List S,(more l).1.length<=(C8 l).length/\(more l).2<=l.length
 | []=>⟨Nat.le_refl _,Nat.le_refl _⟩
 | [_]=>⟨Nat.zero_le _,Nat.zero_le _⟩
 | d::a::t=>by
  obtain ⟨h1,h2⟩:=Agh t
  rw [more]
  by_cases h:d=(2,[46])/\a.1=0
  ·rw [if_pos h]
   unfold C8 at h1 ⊢
   rw [List.flatMap_cons,List.flatMap_cons,Axs h.2,h.1]
   simp only [List.length_cons,List.length_append,show (C9 2 [46]).length=1 from rfl]
   omega
  ·rw [if_neg h]
   exact ⟨Nat.zero_le _,Nat.zero_le _⟩
theorem Tq {l:List S} {y:List UInt8} {n:Nat} (h:words l=some (y,n)):y.length<=(C8 l).length/\n<=l.length/\0<n:=by
 cases l with
 | nil=>cases h
 | cons k t =>
  rw [words] at h
  by_cases hk:k.1=0
  ·rw [if_pos hk] at h
   injection h with h
   injection h with h1 h2
   subst h1 h2
   obtain ⟨g1,g2⟩:=Agh t
   unfold C8 at g1 ⊢
   rw [List.flatMap_cons,Axs hk]
   simp only [List.length_cons,List.length_append]
   omega
  ·rw [if_neg hk] at h;cases h
theorem Acp {l:List S} {y:List UInt8} {n:Nat} (h:Oc l=some (y,n)):y.length<=(C8 l).length/\n<=l.length/\0<n:=by
 cases l with
 | nil=>cases h
 | cons k t =>
  rw [Oc] at h
  by_cases hk:k.1=5
  ·rw [if_pos hk] at h
   injection h with h
   injection h with h1 h2
   subst h1 h2
   unfold C8
   rw [List.flatMap_cons,hk]
   simp only [List.length_cons,List.length_append]
   omega
  ·rw [if_neg hk] at h
   exact Tq h
theorem Aju {l:List S} {y:List UInt8} {n:Nat} (h:Eh l=some (y,n)):n<=l.length/\0<n:=by
 cases l with
 | nil=>cases h
 | cons k t =>
  rw [Eh] at h
  by_cases hk:k.1=1
  ·rw [if_pos hk] at h
   injection h with h
   injection h with h1 h2
   subst h1 h2
   simp only [List.length_cons]
   omega
  ·rw [if_neg hk] at h
   exact (Tq h).2
theorem X5:∀ l:List S,skip l<=l.length
 | []=>Nat.le_refl _
 | k::t=>by
  have:=X5 t
  rw [skip,List.length_cons]
  split<;>omega
theorem J4:∀ (l:List S) (n:Nat),(C8 (l.drop n)).length<=(C8 l).length
 | l,0=>Nat.le_refl _
 | [],n+1=>Nat.le_refl _
 | k::t,n+1=>by
  have:=J4 t n
  rw [List.drop_succ_cons]
  unfold C8 at this ⊢
  rw [List.flatMap_cons,List.length_append]
  omega
theorem Abr {l:List S} {x x' y:List UInt8} {b n:Nat} (h:Yh l x b=some (x',y,n)):x'=x/\y.length<=(C8 l).length/\n<=l.length:=by
 unfold Yh at h
 by_cases hh:(l.drop b).head? = some (2,[64])
 ·rw [if_pos hh] at h
  cases hd:Oc (l.drop (b+1+skip (l.drop (b+1)))) with
  | none=>rw [hd] at h;cases h
  | some p =>
   obtain ⟨z,q⟩:=p
   rw [hd] at h
   simp only at h
   injection h with h
   injection h with h1 h2
   injection h2 with h2 h3
   subst h1 h2 h3
   obtain ⟨g1,g2,g3⟩:=Acp hd
   have g4:=J4 l (b+1+skip (l.drop (b+1)))
   rw [List.length_drop] at g2
   have g5:=X5 (l.drop (b+1+skip (l.drop (b+1))+q))
   rw [List.length_drop] at g5
   exact ⟨rfl,by omega,by omega⟩
 ·rw [if_neg hh] at h;cases h
theorem take_len {l:List S} {x y:List UInt8} {n:Nat} (h:take l=some (x,y,n)):y.length<=(C8 l).length/\n<=l.length:=by
 unfold take at h
 cases hx:Eh (l.drop (skip l)) with
 | none=>rw [hx] at h;cases h
 | some p =>
  obtain ⟨z,q⟩:=p
  rw [hx] at h
  exact (Abr h).2
end Mbx
end
section
open Utf
namespace Mbx
open Lex (Cuts Tok Em C9 ok)
theorem Af8:∀ x r:List UInt8,x.all Mh=true->Lex.lit (x ++ 93::r)=.fine x (x.length+1)
 | [],r,_=>by rw [List.nil_append,Lex.lit,if_pos (by decide)];rfl
 | c::x,r,h=>by
  rw [List.all_cons,Bool.and_eq_true] at h
  have ih:=Af8 x r h.2
  have h1:=h.1
  unfold Mh at h1
  simp only [Bool.and_eq_true,bne_iff_ne,ne_eq] at h1
  rw [List.cons_append,Lex.lit,if_neg h1.2,if_pos ⟨h1.1.1.1,h1.1.1.2,h1.1.2⟩,ih]
  rfl
theorem Amg:∀ (t x:List UInt8) (n:Nat),Lex.lit t=.fine x n->x.all Mh=true
 | [],x,n,h=>by cases h
 | c::t,x,n,h=>by
  rw [Lex.lit] at h
  by_cases h93:c.toNat=93
  ·rw [if_pos h93] at h
   injection h with h1 h2
   subst h1
   rfl
  ·rw [if_neg h93] at h
   by_cases hc:Lex.Gu c.toNat=true/\c.toNat ≠ 91/\c.toNat ≠ 92
   ·rw [if_pos hc] at h
    obtain ⟨x',n',h1,rfl,-⟩:=Lex.Jb h
    have:=Amg t x' n' h1
    rw [List.singleton_append,List.all_cons,this,Bool.and_true]
    unfold Mh
    simp only [Bool.and_eq_true,bne_iff_ne,ne_eq]
    exact ⟨⟨⟨hc.1,hc.2.1⟩,hc.2.2⟩,h93⟩
   ·rw [if_neg hc] at h;cases h
theorem Af9 {t x:List UInt8} (h:Lex.lit t=.fine x t.length):t=x ++ [93]:=by
 obtain ⟨-,-,g,-⟩:=Lex.Mn t x _ h
 rw [List.take_length] at g
 exact g.symm
theorem Amf (t:List UInt8):Ac7 (91::t)=true ↔ ∃ x,Lex.lit t=.fine x t.length:=by
 rw [Ac7,Bool.and_eq_true,decide_eq_true_eq]
 constructor
 ·rintro ⟨-,h⟩
  cases hl:Lex.lit t with
  | fine x n =>
   rw [hl] at h
   have:n=t.length:=by simpa using h
   subst this
   exact ⟨x,rfl⟩
  | bad i=>rw [hl] at h;cases h
  | gap=>rw [hl] at h;cases h
  | deep i=>rw [hl] at h;cases h
 ·rintro ⟨x,h⟩
  rw [h]
  exact ⟨by decide,by simp⟩
theorem Ata (x:List UInt8):Ac7 (91::(x ++ [93]))=x.all Mh:=by
 rw [Bool.eq_iff_iff,Amf]
 constructor
 ·rintro ⟨x',h⟩
  have h1:=Amg _ _ _ h
  have h2:=Af9 h
  have:=List.append_cancel_right h2
  rw [this]
  exact h1
 ·intro h
  exact ⟨x,by rw [Af8 x [] h];simp⟩
theorem Awg {t:List UInt8} (h:∀ x,t ≠ x ++ [93]):Ac7 (91::t)=false:=by
 rw [<- Bool.not_eq_true,Amf]
 rintro ⟨x,hx⟩
 exact h x (Af9 hx)
theorem Ayh (x:List UInt8):ok (91::(x ++ [93])) ↔ ok x:=by
 constructor
 ·intro h
  have h1:ok (x ++ [93]):=(Lex.Mq (A:=[]) (c:=91) (B:=x ++ [93]) (by decide) h).2
  exact (Lex.Mq (A:=x) (c:=93) (B:=[]) (by decide) h1).1
 ·intro h
  have a1:ok [(91:UInt8)]:=Lex.Hl (by decide)
  have a2:ok [(93:UInt8)]:=Lex.Hl (by decide)
  exact Lex.It a1 (Lex.It h a2)
theorem Aon (x:List UInt8):Mm (91::(x ++ [93]))=(decide ((As x).2=-1) && x.all Mh):=by
 unfold Mm
 rw [Ata]
 congr 1
 exact decide_eq_decide.2 (Ayh x)
theorem As9 {t:List UInt8} (h:∀ x,t ≠ x ++ [93]):Mm (91::t)=false:=by
 unfold Mm
 rw [Awg h,Bool.and_false]
theorem Anb {y:List UInt8} (h:Gc y=true):∃ t,y=91::t:=by
 cases y with
 | nil=>cases h
 | cons c t =>
  have:(some c == some (91:UInt8))=true:=h
  have:c=91:=by simpa using this
  subst this
  exact ⟨t,rfl⟩
end Mbx
end
end Go.Proofs.YtpcgbgfpnhiihaaGreatDoor
