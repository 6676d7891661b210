import Derived.Test.YtppmbilonaflfaaGreatDoorLexPl
import Derived.Test.YtppmbilonaflfaaGreatDoorPrecPl
namespace Go.Proofs.YtppmbilonaflfaaGreatDoor
section
open Utf
namespace Mbx
abbrev S:=Int × List UInt8
def M8 (c:UInt8):Bool:=Lex.Gu c.toNat && c.toNat != 91 && c.toNat != 92 && c.toNat != 93
def F2 (k:S):Bool:=k.1 == 4 || k.1 == 3
def skip:List S->Nat
 | []=>0
 | k::t=>if F2 k then skip t+1 else 0
def more:List S->List UInt8 × Nat
 | d::a::t=>if d=(2,[46])/\a.1=0 then (46::(a.2 ++ (more t).1),(more t).2+2) else ([],0)
 | _=>([],0)
def words:List S->Option (List UInt8 × Nat)
 | []=>none
 | k::t=>if k.1=0 then some (k.2 ++ (more t).1,(more t).2+1) else none
def Eo:List S->Option (List UInt8 × Nat)
 | []=>none
 | k::t=>if k.1=1 then some (k.2,1) else words (k::t)
def Oy:List S->Option (List UInt8 × Nat)
 | []=>none
 | k::t=>if k.1=5 then some (Lex.Dr 5 k.2,1) else words (k::t)
def Abu (l:List S) (x:List UInt8) (b:Nat):Option (List UInt8 × List UInt8 × Nat) :=
 if (l.drop b).head? = some (2,[64]) then
  match Oy (l.drop (b+1+skip (l.drop (b+1)))) with
  | none=>none
  | some (y,q)=>some (x,y,b+1+skip (l.drop (b+1))+q+skip (l.drop (b+1+skip (l.drop (b+1))+q)))
 else none
def take (l:List S):Option (List UInt8 × List UInt8 × Nat) :=
 match Eo (l.drop (skip l)) with
 | none=>none
 | some (x,n)=>Abu l x (skip l+n+skip (l.drop (skip l+n)))
def Hr:List (List UInt8)->List S
 | []=>[]
 | [p]=>[(0,p)]
 | p::q::r=>(0,p)::(2,[46])::Hr (q::r)
def Cy:List (List UInt8)->List UInt8
 | []=>[]
 | [p]=>p
 | p::q::r=>p ++ 46::Cy (q::r)
theorem Mv (l:List UInt8):∃ h t,Lex.Ec l=h::t:=by
 cases l with
 | nil=>exact ⟨_,_,rfl⟩
 | cons c t =>
  rw [Lex.Ec]
  split
  · exact ⟨_,_,rfl⟩
  · split<;>exact ⟨_,_,rfl⟩
theorem Aan (p:List UInt8) {q:List (List UInt8)} (hq:q ≠ []):Cy (p::q)=p ++ 46::Cy q:=by
 cases q with
 | nil=>exact absurd rfl hq
 | cons a b=>rfl
theorem Vl (p:List UInt8) {q:List (List UInt8)} (hq:q ≠ []):Hr (p::q)=(0,p)::(2,[46])::Hr q:=by
 cases q with
 | nil=>exact absurd rfl hq
 | cons a b=>rfl
theorem Kv:∀ l:List UInt8,Cy (Lex.Ec l)=l
 | []=>rfl
 | c::t=>by
  have ih:=Kv t
  obtain ⟨h,r,e⟩:=Mv t
  rw [Lex.Ec]
  by_cases hc:c.toNat=46
  ·rw [if_pos hc,Aan _ (by rw [e];simp),ih,Lex.Ii hc]
   rfl
  ·rw [if_neg hc]
   rw [e] at ih ⊢
   simp only
   cases r with
   | nil=>show c::h=c::t;rw [<- ih];rfl
   | cons a b=>show c::(h ++ 46::Cy (a::b))=c::t;rw [<- ih];rfl
theorem Mr:∀ (n r:List S),(∀ k ∈ n,F2 k=true)->(∀ k t,r=k::t->F2 k=false)->skip (n ++ r)=n.length
 | [],r,_,hr=>by
  cases r with
  | nil=>rfl
  | cons k t=>show skip (k::t)=0;rw [skip,hr k t rfl];rfl
 | k::n,r,hn,hr=>by
  rw [List.cons_append,skip,hn k (by simp),if_pos rfl,Mr n r (λx hx=>hn x (by simp [hx])) hr]
  rfl
def Stop (r:List S):Prop:=∀ k t,r=k::t->k ≠ (2,[46])
theorem Abo {r:List S} (h:Stop r):more r=([],0):=by
 match r,h with
 | [],_=>rfl
 | [_],_=>rfl
 | d::a::t,h=>rw [more,if_neg (λe=>h d _ rfl e.1)]
theorem Ag3:∀ (q:List (List UInt8)) (r:List S),Stop r->q ≠ []->more ((2,[46])::(Hr q ++ r))=(46::Cy q,2*q.length)
 | [],r,_,h=>absurd rfl h
 | [p],r,hr,_=>by
  show more ((2,[46])::(0,p)::r)=_
  rw [more,if_pos ⟨rfl,rfl⟩,Abo hr]
  simp [Cy]
 | p::a::b,r,hr,_=>by
  show more ((2,[46])::(0,p)::((2,[46])::(Hr (a::b) ++ r)))=_
  rw [more,if_pos ⟨rfl,rfl⟩,Ag3 (a::b) r hr (by simp)]
  simp only [List.length_cons]
  exact Prod.ext rfl (by show 2*(b.length+1)+2=_;omega)
theorem Ab3:∀ (q:List (List UInt8)),q ≠ []->(Hr q).length+1=2*q.length
 | [],h=>absurd rfl h
 | [p],_=>rfl
 | p::a::b,_=>by
  rw [Vl p (by simp)]
  have:=Ab3 (a::b) (by simp)
  simp only [List.length_cons] at this ⊢
  omega
theorem Aaq {q:List (List UInt8)} (hq:q ≠ []) {r:List S} (hr:Stop r):words (Hr q ++ r)=some (Cy q,(Hr q).length):=by
 have hl:=Ab3 q hq
 match q,hq with
 | [p],_ =>
  show words ((0,p)::r)=_
  rw [words,if_pos rfl,Abo hr]
  simp [Cy,Hr]
 | p::a::b,_ =>
  show words ((0,p)::((2,[46])::(Hr (a::b) ++ r)))=_
  rw [words,if_pos rfl,Ag3 (a::b) r hr (by simp)]
  rw [Aan p (by simp)]
  simp only [List.length_cons] at hl ⊢
  congr 2
  omega
inductive Says:List UInt8->List S->Prop
 | quote (x:List UInt8):Says x [(1,x)]
 | words {q:List (List UInt8)} (hq:q ≠ []):Says (Cy q) (Hr q)
inductive SaysD:List UInt8->List S->Prop
 | lit (x:List UInt8):SaysD (Lex.Dr 5 x) [(5,x)]
 | words {q:List (List UInt8)} (hq:q ≠ []):SaysD (Cy q) (Hr q)
theorem Kl {q:List (List UInt8)} (hq:q ≠ []):∃ p t,Hr q=(0,p)::t:=by
 match q,hq with
 | [p],_=>exact ⟨p,[],rfl⟩
 | p::a::b,_=>exact ⟨p,_,rfl⟩
theorem Amx {x:List UInt8} {P:List S} (h:Says x P):∃ k t,P=k::t/\F2 k=false/\(k.1=0\/k.1=1):=by
 cases h with
 | quote=>exact ⟨_,_,rfl,rfl,.inr rfl⟩
 | words hq=>obtain ⟨p,t,e⟩:=Kl hq;exact ⟨_,_,e,rfl,.inl rfl⟩
theorem Ak4 {x:List UInt8} {P:List S} (h:SaysD x P):∃ k t,P=k::t/\F2 k=false/\(k.1=0\/k.1=5):=by
 cases h with
 | lit=>exact ⟨_,_,rfl,rfl,.inr rfl⟩
 | words hq=>obtain ⟨p,t,e⟩:=Kl hq;exact ⟨_,_,e,rfl,.inl rfl⟩
theorem Aoe {x:List UInt8} {P r:List S} (h:Says x P) (hr:Stop r):Eo (P ++ r)=some (x,P.length):=by
 cases h with
 | quote=>rfl
 | words hq =>
  have hw:=Aaq hq hr
  obtain ⟨p,t,e⟩:=Kl hq
  rw [e,List.cons_append] at hw ⊢
  rw [Eo,if_neg (by show ¬ ((0:Int)=1);decide)]
  exact hw
theorem Ajo {x:List UInt8} {P r:List S} (h:SaysD x P) (hr:Stop r):Oy (P ++ r)=some (x,P.length):=by
 cases h with
 | lit=>rfl
 | words hq =>
  have hw:=Aaq hq hr
  obtain ⟨p,t,e⟩:=Kl hq
  rw [e,List.cons_append] at hw ⊢
  rw [Oy,if_neg (by show ¬ ((0:Int)=5);decide)]
  exact hw
theorem Tl {n r:List S} (hn:∀ k ∈ n,F2 k=true) (hr:Stop r):Stop (n ++ r):=by
 cases n with
 | nil=>exact hr
 | cons k n =>
  intro j t e
  rw [List.cons_append] at e
  injection e with e1 e2
  rw [<- e1]
  intro e3
  have:=hn k (by simp)
  rw [e3] at this
  cases this
theorem Asn {α:Type} (a b:List α) {n:Nat} (h:n=a.length):(a ++ b).drop n=b:=by subst h;exact List.drop_left
theorem Apj {n0 n1 n2 n3 P D r:List S} {x y:List UInt8} (h0:∀ k ∈ n0,F2 k=true) (h1:∀ k ∈ n1,F2 k=true) (h2:∀ k ∈ n2,F2 k=true) (h3:∀ k ∈ n3,F2 k=true) (hP:Says x P) (hD:SaysD y D)
  (hr:Stop r) (hr2:∀ k t,r=k::t->F2 k=false):take (n0 ++ (P ++ (n1 ++ ((2,[64])::(n2 ++ (D ++ (n3 ++ r)))))))=some (x,y,(n0 ++ (P ++ (n1 ++ ((2,[64])::(n2 ++ (D ++ n3)))))).length):=by
 obtain ⟨kp,tp,eP,np,-⟩:=Amx hP
 obtain ⟨kd,td,eD,nd,-⟩:=Ak4 hD
 have hat:Stop ((2,[64])::(n2 ++ (D ++ (n3 ++ r)))):=λk t e=>by injection e with e1 _;rw [<- e1];decide
 have hatn:∀ k t,((2,[64])::(n2 ++ (D ++ (n3 ++ r))):List S)=k::t->F2 k=false:=λk t e=>by injection e with e1 _;rw [<- e1];rfl
 have s0:skip (n0 ++ (P ++ (n1 ++ ((2,[64])::(n2 ++ (D ++ (n3 ++ r)))))))=n0.length:=Mr _ _ h0 (λk t e=>by rw [eP,List.cons_append] at e;injection e with e1 _;rw [<- e1];exact np)
 have l0:=Aoe hP (r:=n1 ++ ((2,[64])::(n2 ++ (D ++ (n3 ++ r))))) (Tl h1 hat)
 have s1:skip (n1 ++ ((2,[64])::(n2 ++ (D ++ (n3 ++ r)))))=n1.length:=Mr _ _ h1 hatn
 have s2:skip (n2 ++ (D ++ (n3 ++ r)))=n2.length:=Mr _ _ h2 (λk t e=>by rw [eD,List.cons_append] at e;injection e with e1 _;rw [<- e1];exact nd)
 have l1:=Ajo hD (r:=n3 ++ r) (Tl h3 hr)
 have s3:skip (n3 ++ r)=n3.length:=Mr _ _ h3 hr2
 generalize hR3:n3 ++ r=R3 at *
 generalize hR2:D ++ R3=R2 at *
 generalize hR1:n2 ++ R2=R1 at *
 generalize hRa:n1 ++ (2,[64])::R1=Ra at *
 generalize hRp:P ++ Ra=Rp at *
 have d0:(n0 ++ Rp).drop n0.length=Rp:=List.drop_left
 have d1:(n0 ++ Rp).drop (n0.length+P.length)=Ra:=by rw [<- List.drop_drop,d0,<- hRp,List.drop_left]
 have d2:(n0 ++ Rp).drop (n0.length+P.length+n1.length)=(2,[64])::R1:=by rw [<- List.drop_drop,d1,<- hRa,List.drop_left]
 have d3:(n0 ++ Rp).drop (n0.length+P.length+n1.length+1)=R1:=by rw [<- List.drop_drop,d2];rfl
 have d4:(n0 ++ Rp).drop (n0.length+P.length+n1.length+1+n2.length)=R2:=by rw [<- List.drop_drop,d3,<- hR1,List.drop_left]
 have d5:(n0 ++ Rp).drop (n0.length+P.length+n1.length+1+n2.length+D.length)=R3:=by rw [<- List.drop_drop,d4,<- hR2,List.drop_left]
 unfold take
 rw [s0,d0,l0]
 simp only
 rw [d1,s1]
 unfold Abu
 rw [d2,List.head?_cons,if_pos rfl,d3,s2,d4,l1]
 simp only
 rw [d5,s3]
 simp only [List.length_append,List.length_cons]
 congr 3
 omega
end Mbx
end
section
open Utf
namespace Mbx
open Lex
def Gv (r:List UInt8):Prop:=∀ c t,r=c::t->Au c=false
theorem Zt {a:Nat} {p r:List UInt8} {ts:List Tok} (hp:Ed p=true) (hr:Gv r) (h:Cuts (a+p.length) r ts):Cuts a (p ++ r) (⟨0,p,a⟩::ts):=by
 unfold Ed at hp
 rw [Bool.and_eq_true,List.all_eq_true] at hp
 have hw:=Nr Au p r hp.2 hr
 have h1:one (p ++ r)=(0,.fine p p.length):=by
  cases p with
  | nil=>cases hp.1
  | cons c p =>
   rw [List.cons_append] at hw ⊢
   rw [Qe _ (hp.2 c (by simp)),hw]
 exact .cons h1 (by rw [List.drop_left];exact h)
theorem Agg {a:Nat} {c:UInt8} {r:List UInt8} {ts:List Tok} (hc:Fj c.toNat=true) (h:Cuts (a+1) r ts):Cuts a (c::r) (⟨2,[c],a⟩::ts):=.cons (Qh r hc) h
theorem Jm {c:UInt8} {r:List UInt8} (h:Au c=false):Gv (c::r):=λd t e=>by injection e with e1 _;rw [<- e1];exact h
theorem Ah1:Gv []:=λ_ _ e=>by cases e
theorem Ae9 {r:List UInt8} {ts:List Tok} (hr:Gv r):∀ (q:List (List UInt8)) (a:Nat),q ≠ []->(∀ p ∈ q,Ed p=true)->Cuts (a+(Cy q).length) r ts->∃ ws:List Tok,Cuts a (Cy q ++ r) (ws ++ ts)/\ws.map Hl=Hr q
 | [],_,h,_,_=>absurd rfl h
 | [p],a,_,hp,h=>⟨[⟨0,p,a⟩],Zt (hp p (by simp)) hr h,rfl⟩
 | p::x::y,a,_,hp,h=>by
  have hd:Cy (p::x::y)=p ++ 46::Cy (x::y):=rfl
  rw [hd] at h ⊢
  obtain ⟨ws,hw,hm⟩:=Ae9 hr (x::y) (a+p.length+1) (by simp) (λz hz=>hp z (by simp [hz])) (by rw [List.length_append,List.length_cons] at h;rw [show a+p.length+1+(Cy (x::y)).length=a+(p.length+((Cy (x::y)).length+1)) by omega];exact h)
  refine ⟨⟨0,p,a⟩::⟨2,[46],a+p.length⟩::ws,?_,?_⟩
  ·rw [List.append_assoc]
   exact Zt (hp p (by simp)) (Jm (by decide)) (Agg (by decide) hw)
  ·rw [List.map_cons,List.map_cons,hm,Vl p (by simp)]
   rfl
theorem Z3 {r:List UInt8} {ts:List Tok} (hr:Gv r) {l:List UInt8} {a:Nat} (hl:D7 l=true) (h:Cuts (a+l.length) r ts):∃ ws:List Tok,Cuts a (l ++ r) (ws ++ ts)/\ws.map Hl=Hr (Ec l):=by
 obtain ⟨x,y,e⟩:=Mv l
 have hd:=Kv l
 unfold D7 at hl
 rw [List.all_eq_true] at hl
 have:=Ae9 hr (Ec l) a (by rw [e];simp) hl (by rw [hd];exact h)
 rwa [hd] at this
theorem Aoq {a:Nat} {x r:List UInt8} {ts:List Tok} (hx:∀ b ∈ x,Bf b=true) (h:Cuts (a+(Dr 1 x).length) r ts):Cuts a (Dr 1 x ++ r) (⟨1,x,a⟩::ts):=by
 have hs:Dr 1 x=34::(esc x ++ [34]):=rfl
 have h1:one (Dr 1 x ++ r)=(1,.fine x (Dr 1 x).length):=by
  rw [hs,List.cons_append,List.append_assoc,Uv 34 _ rfl]
  show (1,(quo (esc x ++ 34::r)).top)=_
  rw [Yb x r hx]
  simp only [Cut.top,List.length_cons,List.length_append,List.length_nil]
 exact .cons h1 (by rw [List.drop_left];exact h)
def Ad1:List UInt8->Bool
 | []=>false
 | c::t=>decide (c.toNat=91) && match lit t with
  | .fine _ n=>decide (n=t.length)
  | _=>false
theorem Ark {y:List UInt8} (h:Ad1 y=true):∃ x,y=Dr 5 x/\∀ r,lit (x ++ 93::r)=.fine x (x.length+1):=by
 cases y with
 | nil=>cases h
 | cons c t =>
  rw [Ad1,Bool.and_eq_true,decide_eq_true_eq] at h
  obtain ⟨hc,h⟩:=h
  cases hl:lit t with
  | fine x n =>
   rw [hl] at h
   obtain ⟨g1,g2,g3,g4⟩:=Ms t x n hl
   have hn:n=t.length:=by simpa using h
   rw [hn,List.take_length] at g3
   have hxl:n=x.length+1:=by rw [hn,<- g3];simp
   refine ⟨x,by rw [<- g3,Ii hc];rfl,λr=>?_⟩
   have:=g4 r
   rw [hn,List.take_length,<- g3,List.append_assoc] at this
   rw [show x.length+1=(x ++ [(93:UInt8)]).length by simp]
   exact this
  | bad i=>rw [hl] at h;cases h
  | gap=>rw [hl] at h;cases h
  | deep i=>rw [hl] at h;cases h
theorem Awe {a:Nat} {y r:List UInt8} {ts:List Tok} (hy:Ad1 y=true) (h:Cuts (a+y.length) r ts):∃ x,y=Dr 5 x/\Cuts a (y ++ r) (⟨5,x,a⟩::ts):=by
 obtain ⟨x,rfl,hl⟩:=Ark hy
 refine ⟨x,rfl,?_⟩
 have hs:Dr 5 x=91::(x ++ [93]):=rfl
 have h1:one (Dr 5 x ++ r)=(5,.fine x (Dr 5 x).length):=by
  rw [hs,List.cons_append,List.append_assoc,U6 91 _ rfl]
  show (5,(lit (x ++ 93::r)).top)=_
  rw [hl r]
  simp only [Cut.top,List.length_cons,List.length_append,List.length_nil]
 exact .cons h1 (by rw [List.drop_left];exact h)
def De (x:List UInt8):List UInt8:=if D7 x then x else Dr 1 x
theorem Am9 {a:Nat} {x r:List UInt8} {ts:List Tok} (hx:∀ b ∈ x,Bf b=true) (hr:Gv r) (h:Cuts (a+(De x).length) r ts):∃ (ws:List Tok) (P:List S),Cuts a (De x ++ r) (ws ++ ts)/\ws.map Hl=P/\Says x P:=by
 unfold De at h ⊢
 cases hw:D7 x with
 | true =>
  rw [hw] at h
  obtain ⟨ws,h1,h2⟩:=Z3 hr hw h
  obtain ⟨p,q,e⟩:=Mv x
  have hs:Says (Cy (Ec x)) (Hr (Ec x)):=.words (by rw [e];simp)
  rw [Kv] at hs
  exact ⟨ws,_,h1,h2,hs⟩
 | false =>
  rw [hw] at h
  exact ⟨[⟨1,x,a⟩],[(1,x)],Aoq hx h,rfl,.quote x⟩
def Aqf (y:List UInt8):Bool:=D7 y || Ad1 y
theorem Av3 {a:Nat} {y r:List UInt8} {ts:List Tok} (hy:Aqf y=true) (hr:Gv r) (h:Cuts (a+y.length) r ts):∃ (ws:List Tok) (D:List S),Cuts a (y ++ r) (ws ++ ts)/\ws.map Hl=D/\SaysD y D:=by
 unfold Aqf at hy
 rw [Bool.or_eq_true] at hy
 rcases hy with hw | hl
 ·obtain ⟨ws,h1,h2⟩:=Z3 hr hw h
  obtain ⟨p,q,e⟩:=Mv y
  have hs:SaysD (Cy (Ec y)) (Hr (Ec y)):=.words (by rw [e];simp)
  rw [Kv] at hs
  exact ⟨ws,_,h1,h2,hs⟩
 ·obtain ⟨x,hx,h1⟩:=Awe hl h
  subst hx
  exact ⟨[⟨5,x,a⟩],[(5,x)],h1,rfl,.lit x⟩
def Gap (n:List UInt8) (r:List UInt8):Prop:=∀ (a:Nat) (ts:List Tok),Cuts (a+n.length) r ts->∃ ws:List Tok,Cuts a (n ++ r) (ws ++ ts)/\∀ k ∈ ws.map Hl,F2 k=true
theorem U4 (r:List UInt8):Gap [] r:=λa ts h=>⟨[],h,λk hk=>by cases hk⟩
theorem Aqw {x y n0 n1 n2 n3:List UInt8} (hx:∀ b ∈ x,Bf b=true) (hy:Aqf y=true) (g0:Gap n0 (De x ++ (n1 ++ 64::(n2 ++ (y ++ n3))))) (g1:Gap n1 (64::(n2 ++ (y ++ n3)))) (g2:Gap n2 (y ++ n3)) (g3:Gap n3 [])
  (a1:Gv (n1 ++ 64::(n2 ++ (y ++ n3)))) (a3:Gv n3):∃ ts:List Tok,Cuts 0 (n0 ++ (De x ++ (n1 ++ 64::(n2 ++ (y ++ n3))))) ts/\take (ts.map Hl)=some (x,y,(ts.map Hl).length):=by
 obtain ⟨w3,c3,m3⟩:=g3 (0+n0.length+(De x).length+n1.length+1+n2.length+y.length) [] (.nil _)
 rw [List.append_nil,List.append_nil] at c3
 obtain ⟨wD,D,cD,mD,sD⟩:=Av3 hy a3 c3
 obtain ⟨w2,c2,m2⟩:=g2 (0+n0.length+(De x).length+n1.length+1) _ cD
 have cA:=Agg (a:=0+n0.length+(De x).length+n1.length) (c:=64) (by decide) c2
 obtain ⟨w1,c1,m1⟩:=g1 (0+n0.length+(De x).length) _ cA
 obtain ⟨wP,P,cP,mP,sP⟩:=Am9 hx a1 c1
 obtain ⟨w0,c0,m0⟩:=g0 0 _ cP
 refine ⟨_,c0,?_⟩
 have h:=Apj m0 m1 m2 m3 sP sD (r:=[]) (λk t e=>by cases e) (λk t e=>by cases e)
 simp only [List.map_append,List.map_cons,mP,mD]
 rw [List.append_nil] at h
 exact h
end Mbx
end
section
open Go.RowKit Utf
namespace Mbx
def Pd (x:Int):Bool:=!(decide (0<=x) && decide (x<128)) || Lex.Uc x.toNat
theorem Am8:∀ n,n<128->(Pd ((n:Nat):Int) || (!Lab.Bj ((n:Nat):Int) && !Ctx.Bw ((n:Nat):Int) && Wall.Bx ((n:Nat):Int) && !Bidi.Bl ((n:Nat):Int)))=true:=by decide +kernel
theorem Yf {x:Int} (h:Pd x=false):(Lab.Bj x=false/\Ctx.Bw x=false/\Wall.Bx x=true/\Bidi.Bl x=false)/\0<=x/\x<128/\Lex.Uc x.toNat=false:=by
 have h0:=h
 unfold Pd at h
 simp only [Bool.or_eq_false_iff,Bool.not_eq_false',Bool.and_eq_true,decide_eq_true_eq] at h
 obtain ⟨⟨h1,h2⟩,h3⟩:=h
 have:=Am8 x.toNat (by omega)
 rw [show ((x.toNat:Nat):Int)=x by omega,h0] at this
 simp only [Bool.false_or,Bool.and_eq_true,Bool.not_eq_true'] at this
 exact ⟨⟨this.1.1.1,this.1.1.2,this.1.2,this.2⟩,h1,h2,h3⟩
theorem Kd (c:UInt8):Pd (c.toNat:Int)=true ↔ Lex.Au c=true:=by
 unfold Pd Lex.Au
 by_cases h:c.toNat<128
 ·rw [decide_eq_true (show (0:Int)<=(c.toNat:Int) by omega),decide_eq_true (show (c.toNat:Int)<128 by omega)]
  simp
 ·rw [decide_eq_false (show ¬ (c.toNat:Int)<128 by omega)]
  unfold Lex.Uc
  rw [decide_eq_true (show 128<=c.toNat by omega)]
  simp
theorem Aot {c:UInt8} (h:128<=c.toNat):Lex.Au c=true:=(Kd c).1 (by unfold Pd;rw [decide_eq_false (show ¬ (c.toNat:Int)<128 by omega)];simp)
theorem Aa6 {l:List Int} (h:Lab.Ei l=0):∀ x ∈ l,Pd x=true:=by
 have hb:Lab.Fu l=false:=by
  unfold Lab.Ei at h
  split at h
  ·omega
  ·split at h
   ·omega
   ·split at h
    ·omega
    ·split at h
     ·omega
     ·rename_i h4
      simpa using h4
 intro x hx
 obtain ⟨k,hk,rfl⟩:=List.getElem_of_mem hx
 unfold Lab.Fu at hb
 rw [List.any_eq_false] at hb
 have h1:=hb k (List.mem_range.2 hk)
 rw [Bool.or_eq_true,not_or,getElem!_pos l k hk] at h1
 cases hd:Pd l[k] with
 | true=>rfl
 | false =>
  exfalso
  obtain ⟨hc,-⟩:=Yf hd
  refine h1.2 ?_
  rw [Ctx.He hk,getElem!_pos l k hk,hc.1,hc.2.1]
  rfl
theorem Ap2 {l:List Int} (h:Ag l=true) (hd:∀ x ∈ l,Pd x=true):∀ c ∈ Puny.Bn l,Lex.Au c=true:=by
 have hp:∀ x ∈ l,0<=x:=λx hx=>by
  have:=List.all_eq_true.1 (show l.all Ak=true from h) x hx
  have:=(Al x).1 this
  omega
 intro c hc
 unfold Puny.Bn at hc
 rcases List.mem_append.1 hc with hc | hc
 ·rcases List.mem_append.1 hc with hc | hc
  ·unfold Puny.Bg at hc
   obtain ⟨x,hx,rfl⟩:=List.mem_map.1 hc
   have hm:x ∈ l/\x<128:=by
    unfold Puny.lt at hx
    have:=List.mem_filter.1 hx
    exact ⟨this.1,by simpa using this.2⟩
   have hx0:=hp x hm.1
   refine (Kd _).1 ?_
   have e:(((u x.toNat).toNat:Nat):Int)=x:=by rw [Bb (by omega)];omega
   show Pd (((u x.toNat).toNat:Nat):Int)=true
   rw [e]
   exact hd x hm.1
  ·unfold Puny.Jy at hc
   split at hc
   ·cases hc
   ·rw [List.mem_singleton.1 hc];decide
 ·unfold Puny.Cx at hc
  obtain ⟨x,hx,rfl⟩:=List.mem_map.1 hc
  obtain ⟨h0,h1⟩:=Puny.Kp _ _ _ _ (Puny.G6 (En h)) x hx
  have:∀ i:Nat,i<36->Lex.Au (Puny.Ja (i:Int))=true:=by decide +kernel
  have:=this x.toNat (by omega)
  rwa [show ((x.toNat:Nat):Int)=x by omega] at this
theorem Aj3 {L:List Int} (hr:Ag L=true) {a u:List UInt8} (h:Lab.Ej L=(0,a,u)):∀ x ∈ L,Pd x=true:=by
 unfold Lab.Ej at h
 by_cases h1:Lab.D6 (Ah L)=false
 ·rw [if_pos h1] at h
  by_cases h2:Lab.Ei L=0
  ·exact Aa6 h2
  ·rw [if_neg h2] at h
   injection h with e1 e2
   exact absurd e1 h2
 ·rw [if_neg h1] at h
  have ha:∀ c ∈ Ah L,c.toNat<128:=Lab.Fe.1 (by simpa using h1)
  have hch:Lab.chars (Ah L)=L:=Lab.Is (Lab.D8 ha) hr (Em _ ha)
  suffices hb:∀ c ∈ Ah L,Lex.Au c=true by
   intro x hx
   rw [<- hch] at hx
   obtain ⟨c,hc,rfl⟩:=List.mem_map.1 hx
   exact (Kd c).2 (hb c hc)
  by_cases h3:(Ah L).take 4=Lab.sign
  ·rw [if_pos h3] at h
   cases hd:Puny.Hp ((Ah L).drop 4) with
   | none =>
    rw [hd] at h
    simp only at h
    injection h with e1 e2
    exact absurd e1 (by decide)
   | some l =>
    rw [hd] at h
    simp only at h
    by_cases h4:63<(Ah L).length
    ·rw [if_pos h4] at h
     injection h with e1 e2
     exact absurd e1 (by decide)
    ·rw [if_neg h4] at h
     by_cases h5:Lab.Ei l ≠ 0
     ·rw [if_pos h5] at h
      injection h with e1 e2
      exact absurd e1 h5
     ·rw [if_neg h5] at h
      rw [Decidable.not_not] at h5
      by_cases h6:Puny.Bn l ≠ (Ah L).drop 4
      ·rw [if_pos h6] at h
       injection h with e1 e2
       exact absurd e1 (by decide)
      ·rw [Decidable.not_not] at h6
       obtain ⟨hrl,-,-⟩:=Puny.Ac4 hd
       have hcat:Lab.sign ++ Puny.Bn l=Ah L:=by rw [h6,<- h3,List.take_append_drop]
       intro c hc
       rw [<- hcat] at hc
       rcases List.mem_append.1 hc with hc | hc
       ·exact (by decide:∀ c ∈ Lab.sign,Lex.Au c=true) c hc
       ·exact Ap2 hrl (Aa6 h5) c hc
  ·rw [if_neg h3] at h
   by_cases h4:Lab.F3 (Ah L)=0
   ·unfold Lab.F3 at h4
    split at h4
    ·omega
    ·split at h4
     ·omega
     ·split at h4
      ·omega
      ·rename_i h5
       intro c hc
       refine (Kd c).1 ?_
       cases hg:Pd (c.toNat:Int) with
       | true=>rfl
       | false =>
        exfalso
        obtain ⟨⟨-,-,-,h6⟩,-⟩:=Yf hg
        have h7:((Ah L).all λc=>Bidi.Bl (c.toNat:Int))=true:=by simpa using h5
        have:=List.all_eq_true.1 h7 c hc
        rw [h6] at this
        cases this
   ·rw [if_neg h4] at h
    injection h with e1 e2
    exact absurd e1 h4
theorem Ace:∀ {L:List Int} {x:Int},x ∈ L->Dom.Cd x=false->∃ P ∈ Dom.cut L,x ∈ P
 | y::L,x,h,hx=>by
  obtain ⟨a,t,e⟩:=Dom.Fv L
  rw [Dom.cut]
  by_cases hy:Dom.Cd y=true
  ·rw [if_pos hy]
   rcases List.mem_cons.1 h with rfl | h
   ·rw [hx] at hy;cases hy
   ·obtain ⟨P,hP,hm⟩:=Ace h hx
    exact ⟨P,List.mem_cons_of_mem _ hP,hm⟩
  ·rw [if_neg hy,e]
   rcases List.mem_cons.1 h with rfl | h
   ·exact ⟨x::a,by simp,by simp⟩
   ·obtain ⟨P,hP,hm⟩:=Ace h hx
    rw [e] at hP
    rcases List.mem_cons.1 hP with rfl | hP
    · exact ⟨y::P,by simp,by simp [hm]⟩
    · exact ⟨P,by simp [hP],hm⟩
theorem Atu:∀ l:List Int,(46 ∉ l)\/∃ q r,l=q ++ 46::r/\46 ∉ q
 | []=>.inl (by simp)
 | x::l=>by
  by_cases hx:x=46
  ·exact .inr ⟨[],l,by rw [hx];rfl,by simp⟩
  ·rcases Atu l with h | ⟨q,r,e,h⟩
   · exact .inl (by simp only [List.mem_cons,not_or];exact ⟨λe=>hx e.symm,h⟩)
   · exact .inr ⟨x::q,r,by rw [e];rfl,by simp only [List.mem_cons,not_or];exact ⟨λe=>hx e.symm,h⟩⟩
theorem J9:∀ {l:List UInt8},(∀ c ∈ l,c.toNat ≠ 46)->Lex.Ec l=[l]
 | [],_=>rfl
 | c::t,h=>by rw [Lex.Ec,if_neg (h c (by simp)),J9 (λb hb=>h b (by simp [hb]))]
theorem Ags:∀ {p:List UInt8} (t:List UInt8),(∀ c ∈ p,c.toNat ≠ 46)->Lex.Ec (p ++ 46::t)=p::Lex.Ec t
 | [],t,_=>by rw [List.nil_append,Lex.Ec,if_pos (by decide)]
 | c::p,t,h=>by rw [List.cons_append,Lex.Ec,if_neg (h c (by simp)),Ags t (λb hb=>h b (by simp [hb]))]
theorem V7 {q:List Int} (hr:Ag q=true) (h46:46 ∉ q) (h:∀ P ∈ Dom.cut (Fold.fold q),P ≠ []/\∀ x ∈ P,Pd x=true):Lex.Ed (Ah q)=true/\∀ c ∈ Ah q,c.toNat ≠ 46:=by
 constructor
 ·unfold Lex.Ed
  rw [Bool.and_eq_true,List.all_eq_true]
  constructor
  ·cases q with
   | nil=>exact absurd rfl (h [] (by decide)).1
   | cons x t =>
    have:0<(Ah (x::t)).length:=by
     have:=Fm (x::t)
     unfold Ah
     rw [List.flatMap_cons,List.length_append]
     have:0<(enc x.toNat).length:=by unfold enc;split<;>(try split)<;>(try split)<;>simp
     omega
    cases he:Ah (x::t) with
    | nil=>rw [he] at this;cases this
    | cons a b=>rfl
  ·intro c hc
   by_cases h128:c.toNat<128
   ·have hm:=Prec.Adb hr hc h128
    rw [<- Kd]
    cases hg:Pd (c.toNat:Int) with
    | true=>rfl
    | false =>
     exfalso
     obtain ⟨⟨-,-,hw,-⟩,-⟩:=Yf hg
     obtain ⟨s,t,rfl⟩:=List.append_of_mem hm
     have hfold:=Wall.U9 hw s t
     have hd:Dom.Cd (c.toNat:Int)=false:=by
      unfold Dom.Cd
      rw [Bool.or_eq_false_iff,beq_eq_false_iff_ne,beq_eq_false_iff_ne]
      exact ⟨λe=>h46 (by rw [e];simp),by omega⟩
     obtain ⟨P,hP,hx⟩:=Ace (L:=Fold.fold (s ++ (c.toNat:Int)::t)) (x:=(c.toNat:Int)) (by rw [hfold];simp) hd
     have:=(h P hP).2 _ hx
     rw [hg] at this
     cases this
   ·exact Aot (by omega)
 ·intro c hc e
  have:=Prec.Adb hr hc (by omega)
  rw [e] at this
  exact h46 this
theorem Aka (n:Nat):∀ l:List Int,l.length<=n->Ag l=true->(∀ P ∈ Dom.cut (Fold.fold l),P ≠ []/\∀ x ∈ P,Pd x=true)->Lex.D7 (Ah l)=true:=by
 induction n with
 | zero =>
  intro l hl hr h
  obtain rfl:l=[]:=List.eq_nil_of_length_eq_zero (by omega)
  exact absurd rfl (h [] (by decide)).1
 | succ n ih =>
  intro l hl hr h
  unfold Lex.D7
  rcases Atu l with h46 | ⟨q,r,rfl,h46⟩
  ·obtain ⟨h1,h2⟩:=V7 hr h46 h
   rw [J9 h2,List.all_cons,h1]
   rfl
  ·have hrq:Ag q=true/\Ag r=true:=by
    unfold Ag at hr ⊢
    rw [List.all_append,List.all_cons,Bool.and_eq_true,Bool.and_eq_true] at hr
    exact ⟨hr.1,hr.2.2⟩
   rw [Dom.Ag8,Dom.Ac7] at h
   obtain ⟨h1,h2⟩:=V7 hrq.1 h46 (λP hP=>h P (List.mem_append.2 (.inl hP)))
   have h3:=ih r (by rw [List.length_append,List.length_cons] at hl;omega) hrq.2 (λP hP=>h P (List.mem_append.2 (.inr hP)))
   unfold Lex.D7 at h3
   rw [Dom.Amh,Ags _ h2,List.all_cons,h1,h3]
   rfl
theorem Abn {y a u:List UInt8} (h:Dom.Bt y=(0,a,u)):Lex.D7 y=true:=by
 obtain ⟨l,hr,rfl,h0,h1,h2,-⟩:=Dom.Adz h
 refine Aka _ l (Nat.le_refl _) hr λP hP=>?_
 have hrP:Ag P=true:=Dom.Nz (Dg hr) P hP
 have hf:Fold.fold P=P:=Dom.Wn l P hP
 have h3:=h2 P hP
 constructor
 ·rintro rfl
  exact absurd h3 (by decide +kernel)
 ·unfold Dom.Dh at h3
  rw [Lab.Fc hrP,hf] at h3
  obtain ⟨⟨e,b,v⟩,hb⟩:∃ p,Lab.Ej P=p:=⟨_,rfl⟩
  rw [hb] at h3
  obtain rfl:e=0:=h3
  exact Aj3 hrP hb
open Norm in
def Ku (r:Int):Bool:=decide ((Norm.pieces false (Fold.fo r)).length<=(enc r.toNat).length)
theorem Aqc:∀ y ∈ lowers,∀ i ∈ List.range (y.hi - y.lo+1).toNat,Ku (y.lo+i)=true:=by decide +kernel
theorem Ae2:∀ y ∈ splits,Ku y.rune=true:=by decide +kernel
theorem Alf:∀ i ∈ List.range 94,Ku (65281+i)=true:=by decide +kernel
theorem Kw (n:Nat):0<(enc n).length:=by unfold enc;split<;>(try split)<;>(try split)<;>simp
theorem As8 {r:Int}:Ku r=true:=by
 cases hs:Norm.syl r with
 | true =>
  unfold Ku
  rw [Fold.Uw hs,decide_eq_true_eq]
  have e:Norm.pieces false r=Norm.Cv r:=by rw [Norm.A9,hs];rfl
  have h2:44032<=r/\r<=55203:=by simpa [Norm.syl] using hs
  have h3:(enc r.toNat).length=3:=by
   unfold enc
   rw [if_neg (by omega),if_neg (by omega),if_pos (by omega)]
   rfl
  rw [e,h3]
  unfold Norm.Cv
  split<;>simp
 | false =>
  cases hw:Bm r with
  | true =>
   simp only [Bm,Bool.and_eq_true,decide_eq_true_eq] at hw
   have:=Alf (r - 65281).toNat (by rw [List.mem_range];omega)
   rwa [show (65281:Int)+((r - 65281).toNat:Int)=r by omega] at this
  | false =>
   cases hp:Aj r with
   | some y =>
    rcases Bk hp with ⟨hy,rfl⟩ | ⟨hw',-⟩
    ·exact Ae2 y hy
    ·rw [hw] at hw';cases hw'
   | none =>
    have hn:Fold.narrow r=r:=by unfold Fold.narrow;rw [hw];rfl
    cases hl:Km r with
    | some y =>
     obtain ⟨h1,h2,h3⟩:=Da hl
     have:=Aqc y h1 (r - y.lo).toNat (by rw [List.mem_range];omega)
     rwa [show y.lo+((r - y.lo).toNat:Int)=r by omega] at this
    | none =>
     have e:Norm.pieces false r=[r]:=by rw [Norm.A9,hs,hp];rfl
     have hf:Fold.fo r=r:=by unfold Fold.fo Fp;rw [hn,hl]
     unfold Ku
     rw [hf,e,decide_eq_true_eq]
     exact Kw _
theorem Abi:∀ l:List Int,(Norm.split false (l.map Fold.fo)).length<=(Ah l).length
 | []=>by simp [Norm.split]
 | x::l=>by
  have ih:=Abi l
  have hx:=As8 (r:=x)
  unfold Ku at hx
  rw [decide_eq_true_eq] at hx
  unfold Norm.split at ih ⊢
  unfold Ah at ih ⊢
  rw [List.map_cons,List.flatMap_cons,List.flatMap_cons,List.length_append,List.length_append]
  omega
theorem X0 (l:List Int):(Norm.down false (l.map Fold.fo)).length<=(Ah l).length:=by
 have h1:=Abi l
 have h2:=Acs (Norm.Gs (Norm.split false (l.map Fold.fo)))
 unfold Norm.down
 omega
theorem Ai7 (l:List Int):(Fold.fold l).length<=(Ah l).length:=by
 have h1:=X0 l
 have h3:=Z9 (Norm.down false (l.map Fold.fo))
 unfold Fold.fold
 omega
end Mbx
theorem D5 {s:ByteArray} (hs:s.size<=400):Az s:=by
 refine ⟨by omega,λm hm=>?_⟩
 obtain ⟨-,h2⟩:=Lab.Lr (s:=s.data.toList) (by rw [hm])
 rw [hm] at h2
 simp only at h2
 have h3:=Mbx.Ai7 (ints m)
 have h5:=Mbx.X0 (ints m)
 have h4:s.data.toList=Ah (ints m):=h2
 rw [<- h4] at h3 h5
 have e:s.data.toList.length=s.size:=by simp
 have hml:m.length<=400:=by have:=(Dt hm).2.1;simp at this;omega
 have hil:(ints m).length=m.length:=by simp [ints]
 exact ⟨⟨by omega,hm,by omega,by omega⟩,by omega⟩
theorem Av6 {s:ByteArray} (hs:s.size<=400):∀ m,Aq s.data.toList=(m,-1)->m.length<=420/\(Fold.fold (ints m)).length<=420:=λm hm=>by
 have hml:m.length<=400:=by have:=(Dt hm).2.1;simp at this;omega
 exact ⟨by omega,((D5 hs).2 m hm).2⟩
end
section
open Go.RowKit Utf
namespace Mbx
open Lex (Cuts Tok Bf Ij Dr D7 Ed ok esc Au Ap)
def Bq (y:List UInt8):Bool:=y.head? == some 91
def Ni (y:List UInt8):Bool:=decide ((Aq y).2=-1) && Ad1 y
def Bo (x y:List UInt8):Int :=
 if x=[] then 13 else if 64<x.length then 5 else if (Aq x).2 ≠ -1 then 7 else if x.all Bf=false then 8
 else if Bq y=true then (if Ni y then 0 else 4) else (Dom.Bt y).1
def F6 (x y:List UInt8):List UInt8:=De x ++ 64::y
def O0 (E:Int) (ts:List Tok):Int × List UInt8 × List UInt8 :=
 if E ≠ 0 then (E,[],[]) else match take (ts.map Lex.Hl) with
  | none=>(4,[],[])
  | some (x,y,n)=>if n=ts.length then (if Bo x y=0 then (0,x,y) else (Bo x y,[],[])) else (4,[],[])
def Eh (s:List UInt8):Int × List UInt8 × List UInt8:=O0 (Ij s).1 (Ij s).2.2
def Ek (x:List UInt8):List UInt8:=if (Prec.Hs x).1=0 then (Prec.Hs x).2 else x
def Fl (y:List UInt8):List UInt8:=if Bq y=true then y.map An else if (Dom.Bt y).1=0 then (Dom.Bt y).2.1 else y
def Yr (x y:List UInt8):Int × List UInt8 × List UInt8 :=
 if Ao x ≠ -1 then (8,[],[]) else if Bq y=true then (if Ao y ≠ -1 then (8,[],[]) else (0,x,y))
 else if (Dom.Bt y).1=0 then (0,x,Dom.Pt y) else ((Dom.Bt y).1,[],[])
def Ul (x y u v:List UInt8):Bool:=Bo x y == 0 && Bo u v == 0 && (Ek x == Ek u && Fl y == Fl v)
theorem Ju {x y:List UInt8} (h:Bo x y=0):x ≠ []/\x.length<=64/\ok x/\(∀ b ∈ x,Bf b=true)/\((Bq y=true/\Ni y=true)\/(Bq y=false/\(Dom.Bt y).1=0)):=by
 unfold Bo at h
 by_cases h1:x=[]
 ·rw [if_pos h1] at h;exact absurd h (by decide)
 rw [if_neg h1] at h
 by_cases h2:64<x.length
 ·rw [if_pos h2] at h;exact absurd h (by decide)
 rw [if_neg h2] at h
 by_cases h3:(Aq x).2 ≠ -1
 ·rw [if_pos h3] at h;exact absurd h (by decide)
 rw [if_neg h3] at h
 by_cases h4:x.all Bf=false
 ·rw [if_pos h4] at h;exact absurd h (by decide)
 rw [if_neg h4] at h
 refine ⟨h1,by omega,(show (Aq x).2=-1 from Decidable.not_not.1 h3),List.all_eq_true.1 (by simpa using h4),?_⟩
 by_cases h5:Bq y=true
 ·rw [if_pos h5] at h
  by_cases h6:Ni y=true
  · exact .inl ⟨h5,h6⟩
  · rw [if_neg h6] at h;exact absurd h (by decide)
 ·rw [if_neg h5] at h
  exact .inr ⟨by simpa using h5,h⟩
theorem Axj {y:List UInt8} (h:(Dom.Bt y).1=0):ok y/\D7 y=true:=by
 obtain ⟨⟨e,a,u⟩,hb⟩:∃ p,Dom.Bt y=p:=⟨_,rfl⟩
 rw [hb] at h
 obtain rfl:e=0:=h
 obtain ⟨l,hr,e,-⟩:=Dom.Adz hb
 exact ⟨(Lex.Mg y).2 ⟨l,hr,e⟩,Abn hb⟩
theorem Zl {x y:List UInt8} (h:Bo x y=0):ok y/\Aqf y=true:=by
 obtain ⟨-,-,-,-,h⟩:=Ju h
 unfold Aqf
 rcases h with ⟨-,h⟩ | ⟨-,h⟩
 ·unfold Ni at h
  rw [Bool.and_eq_true,decide_eq_true_eq] at h
  exact ⟨h.1,by rw [h.2,Bool.or_true]⟩
 ·obtain ⟨h1,h2⟩:=Axj h
  exact ⟨h1,by rw [h2];rfl⟩
theorem Pk {x:List UInt8} (h:D7 x=true):∃ c t,x=c::t/\Au c=true:=by
 unfold D7 at h
 cases x with
 | nil=>exact absurd h (by decide)
 | cons c t =>
  refine ⟨c,t,rfl,?_⟩
  rw [Lex.Ec] at h
  by_cases hc:c.toNat=46
  ·rw [if_pos hc,List.all_cons] at h
   exact absurd h (by simp [Ed])
  ·rw [if_neg hc] at h
   obtain ⟨a,r,e⟩:=Mv t
   rw [e] at h
   simp only [List.all_cons,Bool.and_eq_true] at h
   have h1:=h.1
   unfold Ed at h1
   rw [Bool.and_eq_true,List.all_cons,Bool.and_eq_true] at h1
   exact h1.2.1
theorem Ais:∀ (x pre:List UInt8),ok (pre ++ x)->ok (pre ++ esc x)
 | [],pre,h=>h
 | c::t,pre,h=>by
  by_cases hs:c.toNat=34\/c.toNat=92
  ·have hc:c.toNat<128:=by omega
   obtain ⟨h1,h2⟩:=Lex.Mo hc h
   rw [Lex.Akr hs]
   have h3:=Ais t [] h2
   have h4:ok [92,c]:=Lex.Kk λb hb=>by
    simp only [List.mem_cons,List.not_mem_nil,or_false] at hb
    rcases hb with rfl | rfl
    · decide
    · exact hc
   exact Lex.G7 h1 (Lex.G7 h4 h3)
  ·rw [Lex.Wg hs]
   have:=Ais t (pre ++ [c]) (by rw [List.append_assoc];exact h)
   rw [List.append_assoc] at this
   exact this
theorem Aq8 {x:List UInt8} (h:ok x):ok (De x):=by
 unfold De
 split
 ·exact h
 ·have h1:ok (esc x):=Ais x [] h
  have h2:ok [(34:UInt8)]:=Lex.Kk (by decide)
  exact Lex.G7 h2 (Lex.G7 h1 h2)
theorem Ik (x:List UInt8):(De x).length<=2*x.length+2:=by
 unfold De
 split
 ·omega
 ·have:=Lex.Ams x
  rw [Dr,if_neg (by decide),if_neg (by decide),if_pos rfl]
  simp only [List.length_cons,List.length_append,List.length_nil]
  omega
theorem Auj {s:List UInt8} {ts:List Tok} (hl:s.length<=2000) (ho:ok s) (h:Cuts 0 s ts):Ij s=(0,0,ts):=by
 have ho':(Aq s).2=-1:=ho
 unfold Ij
 rw [if_neg (by omega),if_pos ho',Lex.Aw1 h _ (Nat.le_refl _)]
theorem Ajz {s x y:List UInt8} {ts:List Tok} (hr:Bo x y=0) (h:Ij s=(0,0,ts)) (ht:take (ts.map Lex.Hl)=some (x,y,(ts.map Lex.Hl).length)):Eh s=(0,x,y):=by
 unfold Eh O0
 rw [h]
 simp only
 rw [if_neg (by decide),ht]
 simp only
 rw [if_pos (by simp),if_pos hr]
theorem Wb {x y n0 n1 n2 n3:List UInt8} (hr:Bo x y=0) (g0:Gap n0 (De x ++ (n1 ++ 64::(n2 ++ (y ++ n3))))) (g1:Gap n1 (64::(n2 ++ (y ++ n3)))) (g2:Gap n2 (y ++ n3)) (g3:Gap n3 [])
  (a1:Gv (n1 ++ 64::(n2 ++ (y ++ n3)))) (a3:Gv n3) (o0:ok n0) (o1:ok n1) (o2:ok n2) (o3:ok n3) (hl:n0.length+n1.length+n2.length+n3.length+y.length<=1800) :
  Eh (n0 ++ (De x ++ (n1 ++ 64::(n2 ++ (y ++ n3)))))=(0,x,y):=by
 obtain ⟨h1,h2,h3,h4,-⟩:=Ju hr
 obtain ⟨h5,h6⟩:=Zl hr
 obtain ⟨ts,hc,ht⟩:=Aqw h4 h6 g0 g1 g2 g3 a1 a3
 have h64:ok [(64:UInt8)]:=Lex.Kk (by decide)
 have hlen:=Ik x
 refine Ajz hr (Auj ?_ ?_ hc) ht
 ·simp only [List.length_append,List.length_cons]
  omega
 ·exact Lex.G7 o0 (Lex.G7 (Aq8 h3) (Lex.G7 o1 (Lex.G7 (b:=n2 ++ (y ++ n3)) h64 (Lex.G7 o2 (Lex.G7 h5 o3)))))
theorem Tv {x y:List UInt8} (hr:Bo x y=0) (hl:y.length<=1800):Eh (F6 x y)=(0,x,y):=by
 have h:=Wb (n0:=[]) (n1:=[]) (n2:=[]) (n3:=[]) hr (U4 _) (U4 _) (U4 _) (U4 _) (Jm (by decide)) Ah1 Lex.Acl Lex.Acl Lex.Acl Lex.Acl (by simpa using hl)
 simpa [F6] using h
def Fh (nt:List UInt8):List UInt8:=32::40::(nt ++ [41,13,10,32])
theorem P1 {nt:List UInt8} (hp:Ed nt=true) {r:List UInt8} (hw:Ap r=0):Gap (Fh nt) r:=by
 intro a ts h
 unfold Ed at hp
 rw [Bool.and_eq_true,List.all_eq_true] at hp
 have hx:Fh nt ++ r=32::40::(nt ++ 41::13::10::32::r):=by simp [Fh]
 have hlen:(Fh nt).length=nt.length+6:=by simp [Fh]
 rw [hx]
 rw [hlen] at h
 have w1:Ap (40::(nt ++ 41::13::10::32::r))=0:=Lex.Ex (by decide) (by decide)
 have w0:Ap (32::40::(nt ++ 41::13::10::32::r))=1:=by rw [Lex.Ji (by decide),w1]
 have w2:Ap (13::10::32::r)=3:=by rw [Lex.Lh (by decide) ⟨by decide,by decide,by decide⟩,hw]
 have o0:Lex.one (32::40::(nt ++ 41::13::10::32::r))=(4,.fine [32] 1):=by
  rw [Lex.J3 (by rw [w0];decide),w0]
  rfl
 have n1:Lex.note (41::13::10::32::r) 1=.fine [] 1:=by rw [Lex.note.eq_def];rfl
 have o1:Lex.one (40::(nt ++ 41::13::10::32::r))=(3,.fine nt (nt.length+2)):=by
  rw [Lex.Q5 40 _ rfl,Lex.Wr nt _ 1 hp.2,n1]
  show ((3:Int),Lex.Cut.fine (nt ++ []) (1+nt.length+1))=_
  rw [List.append_nil]
  congr 2
  omega
 have o2:Lex.one (13::10::32::r)=(4,.fine [13,10,32] 3):=by
  rw [Lex.J3 (by rw [w2];decide),w2]
  rfl
 refine ⟨[⟨4,[32],a⟩,⟨3,nt,a+1⟩,⟨4,[13,10,32],a+1+(nt.length+2)⟩],.cons o0 (.cons o1 ?_),λk hk=>?_⟩
 ·have e:(40::(nt ++ 41::13::10::32::r)).drop (nt.length+2)=13::10::32::r:=by
   have e2:(40::(nt ++ 41::13::10::32::r))=(40::(nt ++ [41])) ++ 13::10::32::r:=by simp
   rw [e2]
   exact Asn _ _ (by simp)
  show Cuts _ ((40::(nt ++ 41::13::10::32::r)).drop (nt.length+2)) _
  rw [e]
  refine .cons o2 ?_
  show Cuts _ r ts
  rw [show a+1+(nt.length+2)+3=a+(nt.length+6) by omega]
  exact h
 ·simp only [List.map_cons,List.map_nil,List.mem_cons,List.not_mem_nil,or_false] at hk
  rcases hk with rfl | rfl | rfl<;>rfl
theorem Vq {c:UInt8} {t:List UInt8} (h:Au c=true):Ap (c::t)=0:=by
 obtain ⟨-,-,h1,h2,-⟩:=Lex.Ps c h
 exact Lex.Ex h1 h2
theorem Afz {x y nt:List UInt8} (hr:Bo x y=0) (hp:Ed nt=true) (ha:∀ b ∈ nt,b.toNat<128) (hl:y.length<=1000) (hn:nt.length<=100) :
  Eh (Fh nt ++ (De x ++ (Fh nt ++ 64::(Fh nt ++ (y ++ Fh nt)))))=(0,x,y):=by
 have hlen:(Fh nt).length=nt.length+6:=by simp [Fh]
 have ho:ok (Fh nt):=Lex.Kk λb hb=>by
  unfold Fh at hb
  simp only [List.mem_cons,List.mem_append,List.not_mem_nil,or_false] at hb
  rcases hb with rfl | rfl | hb | rfl | rfl | rfl | rfl
  ·decide
  ·decide
  ·exact ha b hb
  all_goals decide
 have hnx:∀ r,Gv (Fh nt ++ r):=λr=>Jm (by decide)
 have hn3:Gv (Fh nt):=Jm (by decide)
 obtain ⟨-,hd⟩:=Zl hr
 refine Wb hr (P1 hp ?_) (P1 hp (Lex.Ex (by decide) (by decide))) (P1 hp ?_) (P1 hp rfl) (hnx _) hn3 ho ho ho ho (by omega)
 ·unfold De
  split
  ·rename_i h
   obtain ⟨c,t,rfl,hc⟩:=Pk h
   exact Vq hc
  ·exact Lex.Ex (by decide) (by decide)
 ·unfold Aqf at hd
  rw [Bool.or_eq_true] at hd
  rcases hd with h | h
  ·obtain ⟨c,t,rfl,hc⟩:=Pk h
   exact Vq hc
  ·obtain ⟨z,rfl,-⟩:=Ark h
   exact Lex.Ex (by decide) (by decide)
theorem Afp (c:UInt8):An (An c)=An c:=by
 have:=Lex.Ka (p:=λc=>An (An c) == An c) (by decide +kernel) c
 simpa using this
theorem Auw (c:UInt8):(An c == 91)=(c == 91):=by
 have:=Lex.Ka (p:=λc=>(An c == 91) == (c == 91)) (by decide +kernel) c
 simpa using this
theorem Acm (y:List UInt8):Bq (y.map An)=Bq y:=by
 cases y with
 | nil=>rfl
 | cons c t =>
  have:=Auw c
  unfold Bq
  show (some (An c) == some 91)=(some c == some 91)
  exact this
theorem Anp (x:List UInt8):Ek (Ek x)=Ek x:=by
 by_cases h:(Prec.Hs x).1=0
 ·obtain ⟨⟨e,n⟩,hn⟩:∃ p,Prec.Hs x=p:=⟨_,rfl⟩
  rw [hn] at h
  obtain rfl:e=0:=h
  obtain ⟨L,hr,hf,rfl,h1,-⟩:=Prec.Al8 hn
  have h2:=Prec.Ak2 hr hf h1
  have e1:Ek x=Ah L:=by unfold Ek;rw [hn];rfl
  rw [e1]
  unfold Ek
  rw [h2]
  rfl
 ·have e1:Ek x=x:=by unfold Ek;rw [if_neg h]
  rw [e1,e1]
theorem Ab6 {y:List UInt8} (h:D7 y=true):Bq y=false:=by
 obtain ⟨c,t,rfl,hc⟩:=Pk h
 obtain ⟨-,-,-,-,-,h91,-⟩:=Lex.Ps c hc
 unfold Bq
 show (some c == some 91)=false
 rw [beq_eq_false_iff_ne]
 intro e
 injection e with e
 rw [e] at h91
 exact h91 rfl
theorem Qz {y:List UInt8} (hb:Bq y=false) {a u:List UInt8} (h:Dom.Bt y=(0,a,u)):Fl y=a/\Dom.Bt a=(0,a,u)/\Bq a=false/\Fl a=a/\Ao a=-1/\a.length<=253/\∃ A,a=Ah A/\Ag A=true/\Fold.fold A=A/\A.length<=253:=by
 obtain ⟨U,A,-,-,-,-,-,h1,h2,h3,h4,h5,h6,h7⟩:=Dom.back h
 have h8:=Ab6 (Abn h5)
 refine ⟨?_,h5,h8,?_,h6,h7,A,h1,h2,h3,h4⟩
 · unfold Fl;rw [hb,h];rfl
 · unfold Fl;rw [h8,h5];rfl
theorem Awa (y:List UInt8):Fl (Fl y)=Fl y:=by
 by_cases hb:Bq y=true
 ·have e:Fl y=y.map An:=by unfold Fl;rw [if_pos hb]
  rw [e]
  unfold Fl
  rw [Acm,if_pos hb,List.map_map]
  exact List.map_congr_left λc _=>Afp c
 ·have hb':Bq y=false:=by simpa using hb
  by_cases h:(Dom.Bt y).1=0
  ·obtain ⟨⟨e,a,u⟩,hd⟩:∃ p,Dom.Bt y=p:=⟨_,rfl⟩
   rw [hd] at h
   obtain rfl:e=0:=h
   obtain ⟨h1,h2,h3,h4,-⟩:=Qz hb' hd
   rw [h1,h4]
  ·have e:Fl y=y:=by unfold Fl;rw [if_neg hb,if_neg h]
   rw [e,e]
theorem Ait {x y:List UInt8} (hr:Bo x y=0) (hb:Bq y=false):Ao (Fl y)=-1:=by
 obtain ⟨-,-,-,-,h | ⟨-,h⟩⟩:=Ju hr
 ·rw [hb] at h;cases h.1
 ·obtain ⟨⟨e,a,u⟩,hd⟩:∃ p,Dom.Bt y=p:=⟨_,rfl⟩
  rw [hd] at h
  obtain rfl:e=0:=h
  obtain ⟨h1,-,-,-,h5,-⟩:=Qz hb hd
  rw [h1,h5]
theorem Awh {x y u v:List UInt8} {E:Int} (h:Yr x y=(E,u,v)):(E ≠ 0/\u=[]/\v=[])\/(E=0/\u=x/\Ao x=-1/\Ao v=-1/\(Ao y=-1->v=y)/\Fl v=Fl y/\(Bo x y=0->Bo x v=0)/\(v=y\/v.length<=253)):=by
 unfold Yr at h
 by_cases h1:Ao x ≠ -1
 ·rw [if_pos h1] at h
  injection h with e1 e2;injection e2 with e2 e3
  exact .inl ⟨by rw [<- e1];decide,e2.symm,e3.symm⟩
 rw [if_neg h1] at h
 rw [Decidable.not_not] at h1
 by_cases hb:Bq y=true
 ·rw [if_pos hb] at h
  by_cases h2:Ao y ≠ -1
  ·rw [if_pos h2] at h
   injection h with e1 e2;injection e2 with e2 e3
   exact .inl ⟨by rw [<- e1];decide,e2.symm,e3.symm⟩
  ·rw [if_neg h2] at h
   rw [Decidable.not_not] at h2
   injection h with e1 e2;injection e2 with e2 e3
   subst e1 e2 e3
   exact .inr ⟨rfl,rfl,h1,h2,λ_=>rfl,rfl,id,.inl rfl⟩
 ·rw [if_neg hb] at h
  have hb':Bq y=false:=by simpa using hb
  by_cases h0:(Dom.Bt y).1=0
  ·rw [if_pos h0] at h
   injection h with e1 e2;injection e2 with e2 e3
   subst e1 e2 e3
   obtain ⟨⟨e,a,u⟩,hd⟩:∃ p,Dom.Bt y=p:=⟨_,rfl⟩
   have h00:=h0
   rw [hd] at h0
   obtain rfl:e=0:=h0
   obtain ⟨g1,g2,g3,g4,g5,g6,-⟩:=Qz hb' hd
   rcases Lab.C8 y with ⟨ha,he⟩ | ⟨ha,he⟩
   ·have e:Dom.Pt y=y:=by unfold Dom.Pt;rw [if_pos ⟨h00,ha⟩]
    rw [e]
    exact .inr ⟨rfl,rfl,h1,he,λ_=>rfl,rfl,id,.inl rfl⟩
   ·have e:Dom.Pt y=a:=by unfold Dom.Pt;rw [if_neg (λh=>by rw [ha] at h;cases h.2),hd]
    rw [e]
    refine .inr ⟨rfl,rfl,h1,g5,λh=>absurd h (by omega),by rw [g4,g1],λh=>?_,.inr g6⟩
    unfold Bo at h ⊢
    rw [g3,g2]
    rw [hb',hd] at h
    exact h
  ·rw [if_neg h0] at h
   injection h with e1 e2;injection e2 with e2 e3
   exact .inl ⟨by rw [<- e1];exact h0,e2.symm,e3.symm⟩
theorem Abe {x y u v:List UInt8} (h1:Bo x y=0) (h2:Bo u v=0) (h3:Ek x=Ek u) (h4:Fl y=Fl v):Ul x y u v=true:=by
 unfold Ul
 rw [h1,h2,h3,h4]
 simp
def Gj (l:List S):List UInt8:=l.flatMap λk=>Dr k.1 k.2
theorem Sk:∀ ts:List Tok,Gj (ts.map Lex.Hl)=Lex.outs ts
 | []=>rfl
 | k::ts=>by
  have ih:=Sk ts
  unfold Gj at ih ⊢
  rw [List.map_cons,List.flatMap_cons,ih]
  rfl
theorem Awq {k:Int} (h:k=0) (x:List UInt8):Dr k x=x:=by subst h;rfl
theorem Aft:∀ l:List S,(more l).1.length<=(Gj l).length/\(more l).2<=l.length
 | []=>⟨Nat.le_refl _,Nat.le_refl _⟩
 | [_]=>⟨Nat.zero_le _,Nat.zero_le _⟩
 | d::a::t=>by
  obtain ⟨h1,h2⟩:=Aft t
  rw [more]
  by_cases h:d=(2,[46])/\a.1=0
  ·rw [if_pos h]
   unfold Gj at h1 ⊢
   rw [List.flatMap_cons,List.flatMap_cons,Awq h.2,h.1]
   simp only [List.length_cons,List.length_append,show (Dr 2 [46]).length=1 from rfl]
   omega
  ·rw [if_neg h]
   exact ⟨Nat.zero_le _,Nat.zero_le _⟩
theorem Td {l:List S} {y:List UInt8} {n:Nat} (h:words l=some (y,n)):y.length<=(Gj l).length/\n<=l.length/\0<n:=by
 cases l with
 | nil=>cases h
 | cons k t =>
  rw [words] at h
  by_cases hk:k.1=0
  ·rw [if_pos hk] at h
   injection h with h
   injection h with h1 h2
   subst h1 h2
   obtain ⟨g1,g2⟩:=Aft t
   unfold Gj at g1 ⊢
   rw [List.flatMap_cons,Awq hk]
   simp only [List.length_cons,List.length_append]
   omega
  ·rw [if_neg hk] at h;cases h
theorem Amj {l:List S} {y:List UInt8} {n:Nat} (h:Oy l=some (y,n)):y.length<=(Gj l).length/\n<=l.length/\0<n:=by
 cases l with
 | nil=>cases h
 | cons k t =>
  rw [Oy] at h
  by_cases hk:k.1=5
  ·rw [if_pos hk] at h
   injection h with h
   injection h with h1 h2
   subst h1 h2
   unfold Gj
   rw [List.flatMap_cons,hk]
   simp only [List.length_cons,List.length_append]
   omega
  ·rw [if_neg hk] at h
   exact Td h
theorem Ale {l:List S} {y:List UInt8} {n:Nat} (h:Eo l=some (y,n)):n<=l.length/\0<n:=by
 cases l with
 | nil=>cases h
 | cons k t =>
  rw [Eo] at h
  by_cases hk:k.1=1
  ·rw [if_pos hk] at h
   injection h with h
   injection h with h1 h2
   subst h1 h2
   simp only [List.length_cons]
   omega
  ·rw [if_neg hk] at h
   exact (Td h).2
theorem X5:∀ l:List S,skip l<=l.length
 | []=>Nat.le_refl _
 | k::t=>by
  have:=X5 t
  rw [skip,List.length_cons]
  split<;>omega
theorem Sd:∀ (l:List S) (n:Nat),(Gj (l.drop n)).length<=(Gj l).length
 | l,0=>Nat.le_refl _
 | [],n+1=>Nat.le_refl _
 | k::t,n+1=>by
  have:=Sd t n
  rw [List.drop_succ_cons]
  unfold Gj at this ⊢
  rw [List.flatMap_cons,List.length_append]
  omega
theorem Aag {l:List S} {x x' y:List UInt8} {b n:Nat} (h:Abu l x b=some (x',y,n)):x'=x/\y.length<=(Gj l).length/\n<=l.length:=by
 unfold Abu at h
 by_cases hh:(l.drop b).head? = some (2,[64])
 ·rw [if_pos hh] at h
  cases hd:Oy (l.drop (b+1+skip (l.drop (b+1)))) with
  | none=>rw [hd] at h;cases h
  | some p =>
   obtain ⟨z,q⟩:=p
   rw [hd] at h
   simp only at h
   injection h with h
   injection h with h1 h2
   injection h2 with h2 h3
   subst h1 h2 h3
   obtain ⟨g1,g2,g3⟩:=Amj hd
   have g4:=Sd l (b+1+skip (l.drop (b+1)))
   rw [List.length_drop] at g2
   have g5:=X5 (l.drop (b+1+skip (l.drop (b+1))+q))
   rw [List.length_drop] at g5
   exact ⟨rfl,by omega,by omega⟩
 ·rw [if_neg hh] at h;cases h
theorem take_len {l:List S} {x y:List UInt8} {n:Nat} (h:take l=some (x,y,n)):y.length<=(Gj l).length/\n<=l.length:=by
 unfold take at h
 cases hx:Eo (l.drop (skip l)) with
 | none=>rw [hx] at h;cases h
 | some p =>
  obtain ⟨z,q⟩:=p
  rw [hx] at h
  exact (Aag h).2
theorem Ae3 {s x y:List UInt8} {ts:List Tok} {n:Nat} (h:Ij s=(0,0,ts)) (ht:take (ts.map Lex.Hl)=some (x,y,n)):y.length<=s.length:=by
 rcases Lex.N8 s with ⟨-,e⟩ | ⟨-,E,p,e,h1,-⟩ | ⟨-,us,e,hc,-⟩
 ·rw [e] at h;injection h with h _;cases h
 ·rw [e] at h
  injection h with h _
  omega
 ·rw [e] at h
  injection h with _ h
  injection h with _ h
  subst h
  have h1:=(take_len ht).1
  rw [Sk] at h1
  have h2:=(Lex.Afj hc).1
  omega
theorem Auo {s x y:List UInt8} {E:Int} (h:Eh s=(E,x,y)):(E ≠ 0/\x=[]/\y=[])\/(E=0/\Bo x y=0/\y.length<=s.length):=by
 rcases Lex.N8 s with ⟨-,e⟩ | ⟨-,F,p,e,h1,-⟩ | ⟨-,ts,e,-,-⟩
 ·unfold Eh O0 at h
  rw [e,if_pos (by decide)] at h
  injection h with h1 h2;injection h2 with h2 h3
  exact .inl ⟨by rw [<- h1];decide,h2.symm,h3.symm⟩
 ·unfold Eh O0 at h
  rw [e,if_pos (by show F ≠ 0;omega)] at h
  injection h with h2 h3;injection h3 with h3 h4
  exact .inl ⟨by rw [<- h2];show F ≠ 0;omega,h3.symm,h4.symm⟩
 ·unfold Eh O0 at h
  rw [e,if_neg (by simp)] at h
  simp only at h
  cases ht:take (ts.map Lex.Hl) with
  | none =>
   rw [ht] at h
   injection h with h1 h2;injection h2 with h2 h3
   exact .inl ⟨by rw [<- h1];decide,h2.symm,h3.symm⟩
  | some q =>
   obtain ⟨u,v,n⟩:=q
   rw [ht] at h
   simp only at h
   by_cases hn:n=ts.length
   ·rw [if_pos hn] at h
    by_cases hr:Bo u v=0
    ·rw [if_pos hr] at h
     injection h with h1 h2;injection h2 with h2 h3
     subst h1 h2 h3
     exact .inr ⟨rfl,hr,Ae3 e ht⟩
    ·rw [if_neg hr] at h
     injection h with h1 h2;injection h2 with h2 h3
     exact .inl ⟨by rw [<- h1];exact hr,h2.symm,h3.symm⟩
   ·rw [if_neg hn] at h
    injection h with h1 h2;injection h2 with h2 h3
    exact .inl ⟨by rw [<- h1];decide,h2.symm,h3.symm⟩
end Mbx
end
section
open Utf
namespace Mbx
open Lex (Cuts Tok Ij Dr ok)
theorem Afs:∀ x r:List UInt8,x.all M8=true->Lex.lit (x ++ 93::r)=.fine x (x.length+1)
 | [],r,_=>by rw [List.nil_append,Lex.lit,if_pos (by decide)];rfl
 | c::x,r,h=>by
  rw [List.all_cons,Bool.and_eq_true] at h
  have ih:=Afs x r h.2
  have h1:=h.1
  unfold M8 at h1
  simp only [Bool.and_eq_true,bne_iff_ne,ne_eq] at h1
  rw [List.cons_append,Lex.lit,if_neg h1.2,if_pos ⟨h1.1.1.1,h1.1.1.2,h1.1.2⟩,ih]
  rfl
theorem Alu:∀ (t x:List UInt8) (n:Nat),Lex.lit t=.fine x n->x.all M8=true
 | [],x,n,h=>by cases h
 | c::t,x,n,h=>by
  rw [Lex.lit] at h
  by_cases h93:c.toNat=93
  ·rw [if_pos h93] at h
   injection h with h1 h2
   subst h1
   rfl
  ·rw [if_neg h93] at h
   by_cases hc:Lex.Gu c.toNat=true/\c.toNat ≠ 91/\c.toNat ≠ 92
   ·rw [if_pos hc] at h
    obtain ⟨x',n',h1,rfl,-⟩:=Lex.Jd h
    have:=Alu t x' n' h1
    rw [List.singleton_append,List.all_cons,this,Bool.and_true]
    unfold M8
    simp only [Bool.and_eq_true,bne_iff_ne,ne_eq]
    exact ⟨⟨⟨hc.1,hc.2.1⟩,hc.2.2⟩,h93⟩
   ·rw [if_neg hc] at h;cases h
theorem Ael {t x:List UInt8} (h:Lex.lit t=.fine x t.length):t=x ++ [93]:=by
 obtain ⟨-,-,g,-⟩:=Lex.Ms t x _ h
 rw [List.take_length] at g
 exact g.symm
theorem Aly (t:List UInt8):Ad1 (91::t)=true ↔ ∃ x,Lex.lit t=.fine x t.length:=by
 rw [Ad1,Bool.and_eq_true,decide_eq_true_eq]
 constructor
 ·rintro ⟨-,h⟩
  cases hl:Lex.lit t with
  | fine x n =>
   rw [hl] at h
   have:n=t.length:=by simpa using h
   subst this
   exact ⟨x,rfl⟩
  | bad i=>rw [hl] at h;cases h
  | gap=>rw [hl] at h;cases h
  | deep i=>rw [hl] at h;cases h
 ·rintro ⟨x,h⟩
  rw [h]
  exact ⟨by decide,by simp⟩
theorem Aq9 (x:List UInt8):Ad1 (91::(x ++ [93]))=x.all M8:=by
 rw [Bool.eq_iff_iff,Aly]
 constructor
 ·rintro ⟨x',h⟩
  have h1:=Alu _ _ _ h
  have h2:=Ael h
  have:=List.append_cancel_right h2
  rw [this]
  exact h1
 ·intro h
  exact ⟨x,by rw [Afs x [] h];simp⟩
theorem Avc {t:List UInt8} (h:∀ x,t ≠ x ++ [93]):Ad1 (91::t)=false:=by
 rw [<- Bool.not_eq_true,Aly]
 rintro ⟨x,hx⟩
 exact h x (Ael hx)
theorem Axu (x:List UInt8):ok (91::(x ++ [93])) ↔ ok x:=by
 constructor
 ·intro h
  have h1:ok (x ++ [93]):=(Lex.Mo (A:=[]) (c:=91) (B:=x ++ [93]) (by decide) h).2
  exact (Lex.Mo (A:=x) (c:=93) (B:=[]) (by decide) h1).1
 ·intro h
  have a1:ok [(91:UInt8)]:=Lex.Kk (by decide)
  have a2:ok [(93:UInt8)]:=Lex.Kk (by decide)
  exact Lex.G7 a1 (Lex.G7 h a2)
theorem Aow (x:List UInt8):Ni (91::(x ++ [93]))=(decide ((Aq x).2=-1) && x.all M8):=by
 unfold Ni
 rw [Aq9]
 congr 1
 exact decide_eq_decide.2 (Axu x)
theorem Aui {t:List UInt8} (h:∀ x,t ≠ x ++ [93]):Ni (91::t)=false:=by
 unfold Ni
 rw [Avc h,Bool.and_false]
theorem Abt {y:List UInt8} (h:Bq y=true):∃ t,y=91::t:=by
 cases y with
 | nil=>cases h
 | cons c t =>
  have:(some c == some (91:UInt8))=true:=h
  have:c=91:=by simpa using this
  subst this
  exact ⟨t,rfl⟩
end Mbx
end
end Go.Proofs.YtppmbilonaflfaaGreatDoor
