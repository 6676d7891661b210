import Derived.Test.YtpcgbgfpnhiihabGreatDoorLexPl
import Derived.Test.YtpcgbgfpnhiihabGreatDoorPrecPl
namespace Go.Proofs.YtpcgbgfpnhiihabGreatDoor
section
open Utf
namespace Mbx
abbrev S:=Int × List UInt8
def Mh (c:UInt8):Bool:=Lex.Gx c.toNat && c.toNat != 91 && c.toNat != 92 && c.toNat != 93
def Bi (k:S):Bool:=k.1 == 4 || k.1 == 3
def skip:List S->Nat
 | []=>0
 | k::t=>if Bi k then skip t+1 else 0
def more:List S->List UInt8 × Nat
 | d::a::t=>if d=(2,[46])/\a.1=0 then (46::(a.2 ++ (more t).1),(more t).2+2) else ([],0)
 | _=>([],0)
def words:List S->Option (List UInt8 × Nat)
 | []=>none
 | k::t=>if k.1=0 then some (k.2 ++ (more t).1,(more t).2+1) else none
def Em:List S->Option (List UInt8 × Nat)
 | []=>none
 | k::t=>if k.1=1 then some (k.2,1) else words (k::t)
def Od:List S->Option (List UInt8 × Nat)
 | []=>none
 | k::t=>if k.1=5 then some (Lex.Da 5 k.2,1) else words (k::t)
def Yk (l:List S) (x:List UInt8) (b:Nat):Option (List UInt8 × List UInt8 × Nat) :=
 if (l.drop b).head? = some (2,[64]) then
  match Od (l.drop (b+1+skip (l.drop (b+1)))) with
  | none=>none
  | some (y,q)=>some (x,y,b+1+skip (l.drop (b+1))+q+skip (l.drop (b+1+skip (l.drop (b+1))+q)))
 else none
def take (l:List S):Option (List UInt8 × List UInt8 × Nat) :=
 match Em (l.drop (skip l)) with
 | none=>none
 | some (x,n)=>Yk l x (skip l+n+skip (l.drop (skip l+n)))
def Ga:List (List UInt8)->List S
 | []=>[]
 | [p]=>[(0,p)]
 | p::q::r=>(0,p)::(2,[46])::Ga (q::r)
def Cn:List (List UInt8)->List UInt8
 | []=>[]
 | [p]=>p
 | p::q::r=>p ++ 46::Cn (q::r)
theorem Kf (l:List UInt8):∃ h t,Lex.Dq l=h::t:=by
 cases l with
 | nil=>exact ⟨_,_,rfl⟩
 | cons c t =>
  rw [Lex.Dq];split
  · exact ⟨_,_,rfl⟩
  · split<;>exact ⟨_,_,rfl⟩
theorem Sf (p:List UInt8) {q:List (List UInt8)} (hq:q ≠ []):Cn (p::q)=p ++ 46::Cn q:=by
 cases q with
 | nil=>exact absurd rfl hq
 | cons a b=>rfl
theorem Lm (p:List UInt8) {q:List (List UInt8)} (hq:q ≠ []):Ga (p::q)=(0,p)::(2,[46])::Ga q:=by
 cases q with
 | nil=>exact absurd rfl hq
 | cons a b=>rfl
theorem Gt:∀ l:List UInt8,Cn (Lex.Dq l)=l
 | []=>rfl
 | c::t=>by
  have ih:=Gt t;obtain ⟨h,r,e⟩:=Kf t;rw [Lex.Dq];by_cases hc:c.toNat=46
  ·rw [if_pos hc,Sf _ (by rw [e];simp),ih,Lex.Hz hc];rfl
  ·rw [if_neg hc];rw [e] at ih ⊢;simp only;cases r with
   | nil=>show c::h=c::t;rw [<- ih];rfl
   | cons a b=>show c::(h ++ 46::Cn (a::b))=c::t;rw [<- ih];rfl
theorem M8:∀ (n r:List S),(∀ k ∈ n,Bi k=true)->(∀ k t,r=k::t->Bi k=false)->skip (n ++ r)=n.length
 | [],r,_,hr=>by
  cases r with
  | nil=>rfl
  | cons k t=>show skip (k::t)=0;rw [skip,hr k t rfl];rfl
 | k::n,r,hn,hr=>by
  rw [jah,skip,hn k jS,if_pos rfl,M8 n r (λx hx=>hn x (by simp [hx])) hr];rfl
def Stop (r:List S):Prop:=∀ k t,r=k::t->k ≠ (2,[46])
theorem Aa4 {r:List S} (h:Stop r):more r=([],0):=by
 match r,h with
 | [],_=>rfl
 | [_],_=>rfl
 | d::a::t,h=>rw [more,if_neg (λe=>h d _ rfl e.1)]
theorem Agp:∀ (q:List (List UInt8)) (r:List S),Stop r->q ≠ []->more ((2,[46])::(Ga q ++ r))=(46::Cn q,2*q.length)
 | [],r,_,h=>absurd rfl h
 | [p],r,hr,_=>by
  show more ((2,[46])::(0,p)::r)=_;rw [more,if_pos ⟨rfl,rfl⟩,Aa4 hr];simp [Cn]
 | p::a::b,r,hr,_=>by
  show more ((2,[46])::(0,p)::((2,[46])::(Ga (a::b) ++ r)))=_;rw [more,if_pos ⟨rfl,rfl⟩,Agp (a::b) r hr jS];simp only [jac];exact Prod.ext rfl (by show 2*(b.length+1)+2=_;omega)
theorem Ab8:∀ (q:List (List UInt8)),q ≠ []->(Ga q).length+1=2*q.length
 | [],h=>absurd rfl h
 | [p],_=>rfl
 | p::a::b,_=>by
  rw [Lm p jS];have:=Ab8 (a::b) jS;simp only [jac] at this ⊢;omega
theorem Ab5 {q:List (List UInt8)} (hq:q ≠ []) {r:List S} (hr:Stop r):words (Ga q ++ r)=some (Cn q,(Ga q).length):=by
 have hl:=Ab8 q hq;match q,hq with
 | [p],_ =>
  show words ((0,p)::r)=_;rw [words,if_pos rfl,Aa4 hr];simp [Cn,Ga]
 | p::a::b,_ =>
  show words ((0,p)::((2,[46])::(Ga (a::b) ++ r)))=_;rw [words,if_pos rfl,Agp (a::b) r hr jS];rw [Sf p jS];simp only [jac] at hl ⊢;congr 2;omega
inductive Says:List UInt8->List S->Prop
 | quote (x:List UInt8):Says x [(1,x)]
 | words {q:List (List UInt8)} (hq:q ≠ []):Says (Cn q) (Ga q)
inductive SaysD:List UInt8->List S->Prop
 | lit (x:List UInt8):SaysD (Lex.Da 5 x) [(5,x)]
 | words {q:List (List UInt8)} (hq:q ≠ []):SaysD (Cn q) (Ga q)
theorem Ln {q:List (List UInt8)} (hq:q ≠ []):∃ p t,Ga q=(0,p)::t:=by
 match q,hq with
 | [p],_=>exact ⟨p,[],rfl⟩
 | p::a::b,_=>exact ⟨p,_,rfl⟩
theorem Tg {x:List UInt8} {P:List S} (h:Says x P):∃ k t,P=k::t/\Bi k=false/\(k.1=0\/k.1=1):=by
 cases h with
 | quote=>exact ⟨_,_,rfl,rfl,.inr rfl⟩
 | words hq=>obtain ⟨p,t,e⟩:=Ln hq;exact ⟨_,_,e,rfl,.inl rfl⟩
theorem X0 {x:List UInt8} {P:List S} (h:SaysD x P):∃ k t,P=k::t/\Bi k=false/\(k.1=0\/k.1=5):=by
 cases h with
 | lit=>exact ⟨_,_,rfl,rfl,.inr rfl⟩
 | words hq=>obtain ⟨p,t,e⟩:=Ln hq;exact ⟨_,_,e,rfl,.inl rfl⟩
theorem Abo {x:List UInt8} {P r:List S} (h:Says x P) (hr:Stop r):Em (P ++ r)=some (x,P.length):=by
 cases h with
 | quote=>rfl
 | words hq =>
  have hw:=Ab5 hq hr;obtain ⟨p,t,e⟩:=Ln hq;rw [e,jah] at hw ⊢;rw [Em,if_neg (by show ¬ ((0:Int)=1);decide)];exact hw
theorem Ak7 {x:List UInt8} {P r:List S} (h:SaysD x P) (hr:Stop r):Od (P ++ r)=some (x,P.length):=by
 cases h with
 | lit=>rfl
 | words hq =>
  have hw:=Ab5 hq hr;obtain ⟨p,t,e⟩:=Ln hq;rw [e,jah] at hw ⊢;rw [Od,if_neg (by show ¬ ((0:Int)=5);decide)];exact hw
theorem Uq {n r:List S} (hn:∀ k ∈ n,Bi k=true) (hr:Stop r):Stop (n ++ r):=by
 cases n with
 | nil=>exact hr
 | cons k n =>
  intro j t e;rw [jah] at e;injection e with e1 e2
  rw [<- e1];intro e3;have:=hn k jS;rw [e3] at this;cases this
theorem Aq8 {n0 n1 n2 n3 P D r:List S} {x y:List UInt8} (h0:∀ k ∈ n0,Bi k=true) (h1:∀ k ∈ n1,Bi k=true) (h2:∀ k ∈ n2,Bi k=true) (h3:∀ k ∈ n3,Bi k=true) (hP:Says x P) (hD:SaysD y D)
  (hr:Stop r) (hr2:∀ k t,r=k::t->Bi k=false):take (n0 ++ (P ++ (n1 ++ ((2,[64])::(n2 ++ (D ++ (n3 ++ r)))))))=some (x,y,(n0 ++ (P ++ (n1 ++ ((2,[64])::(n2 ++ (D ++ n3)))))).length):=by
 obtain ⟨kp,tp,eP,np,-⟩:=Tg hP;obtain ⟨kd,td,eD,nd,-⟩:=X0 hD;have hat:Stop ((2,[64])::(n2 ++ (D ++ (n3 ++ r)))):=λk t e=>by injection e with e1 _;rw [<- e1];decide
 have hatn:∀ k t,((2,[64])::(n2 ++ (D ++ (n3 ++ r))):List S)=k::t->Bi k=false:=λk t e=>by injection e with e1 _;rw [<- e1];rfl
 have s0:skip (n0 ++ (P ++ (n1 ++ ((2,[64])::(n2 ++ (D ++ (n3 ++ r)))))))=n0.length:=M8 _ _ h0 (λk t e=>by rw [eP,jah] at e;injection e with e1 _;rw [<- e1];exact np);have l0:=Abo hP (r:=n1 ++ ((2,[64])::(n2 ++ (D ++ (n3 ++ r))))) (Uq h1 hat);have s1:skip (n1 ++ ((2,[64])::(n2 ++ (D ++ (n3 ++ r)))))=n1.length:=M8 _ _ h1 hatn;have s2:skip (n2 ++ (D ++ (n3 ++ r)))=n2.length:=M8 _ _ h2 (λk t e=>by rw [eD,jah] at e;injection e with e1 _;rw [<- e1];exact nd);have l1:=Ak7 hD (r:=n3 ++ r) (Uq h3 hr);have s3:skip (n3 ++ r)=n3.length:=M8 _ _ h3 hr2;generalize hR3:n3 ++ r=R3 at *;generalize hR2:D ++ R3=R2 at *;generalize hR1:n2 ++ R2=R1 at *;generalize hRa:n1 ++ (2,[64])::R1=Ra at *;generalize hRp:P ++ Ra=Rp at *;have d0:(n0 ++ Rp).drop n0.length=Rp:=List.drop_left;have d1:(n0 ++ Rp).drop (n0.length+P.length)=Ra:=by rw [<- List.drop_drop,d0,<- hRp,List.drop_left]
 have d2:(n0 ++ Rp).drop (n0.length+P.length+n1.length)=(2,[64])::R1:=by rw [<- List.drop_drop,d1,<- hRa,List.drop_left]
 have d3:(n0 ++ Rp).drop (n0.length+P.length+n1.length+1)=R1:=by rw [<- List.drop_drop,d2];rfl
 have d4:(n0 ++ Rp).drop (n0.length+P.length+n1.length+1+n2.length)=R2:=by rw [<- List.drop_drop,d3,<- hR1,List.drop_left]
 have d5:(n0 ++ Rp).drop (n0.length+P.length+n1.length+1+n2.length+D.length)=R3:=by rw [<- List.drop_drop,d4,<- hR2,List.drop_left]
 unfold take;rw [s0,d0,l0];simp only;rw [d1,s1];unfold Yk;rw [d2,List.head?_cons,if_pos rfl,d3,s2,d4,l1];simp only;rw [d5,s3];simp only [jab,jac];congr 3;omega
end Mbx
end
section
open Utf
namespace Mbx
open Lex
def Ji (r:List UInt8):Prop:=∀ c t,r=c::t->An c=false
theorem Rw {a:Nat} {p r:List UInt8} {ts:List Tok} (hp:Dt p=true) (hr:Ji r) (h:Cuts (a+p.length) r ts):Cuts a (p ++ r) (⟨0,p,a⟩::ts):=by
 unfold Dt at hp;rw [jag,jar] at hp;have hw:=Kk An p r hp.2 hr;have h1:one (p ++ r)=(0,.fine p p.length):=by
  cases p with
  | nil=>cases hp.1
  | cons c p =>
   rw [jah] at hw ⊢;rw [Ms _ (hp.2 c jS),hw]
 exact .cons h1 (by rw [List.drop_left];exact h)
theorem Ki {a:Nat} {c:UInt8} {r:List UInt8} {ts:List Tok} (hc:E7 c.toNat=true) (h:Cuts (a+1) r ts):Cuts a (c::r) (⟨2,[c],a⟩::ts):=.cons (Mt r hc) h
theorem F8 {c:UInt8} {r:List UInt8} (h:An c=false):Ji (c::r):=λd t e=>by injection e with e1 _;rw [<- e1];exact h
theorem Afe {r:List UInt8} {ts:List Tok} (hr:Ji r):∀ (q:List (List UInt8)) (a:Nat),q ≠ []->(∀ p ∈ q,Dt p=true)->Cuts (a+(Cn q).length) r ts->∃ ws:List Tok,Cuts a (Cn q ++ r) (ws ++ ts)/\ws.map D6=Ga q
 | [],_,h,_,_=>absurd rfl h
 | [p],a,_,hp,h=>⟨[⟨0,p,a⟩],Rw (hp p jS) hr h,rfl⟩
 | p::x::y,a,_,hp,h=>by
  have hd:Cn (p::x::y)=p ++ 46::Cn (x::y):=rfl;rw [hd] at h ⊢;obtain ⟨ws,hw,hm⟩:=Afe hr (x::y) (a+p.length+1) jS (λz hz=>hp z (by simp [hz])) (by rw [jab,jac] at h;rw [show a+p.length+1+(Cn (x::y)).length=a+(p.length+((Cn (x::y)).length+1)) by omega];exact h);refine ⟨⟨0,p,a⟩::⟨2,[46],a+p.length⟩::ws,?_,?_⟩
  ·rw [jaq];exact Rw (hp p jS) (F8 jD) (Ki jD hw)
  ·rw [List.map_cons,List.map_cons,hm,Lm p jS];rfl
theorem Ab6 {r:List UInt8} {ts:List Tok} (hr:Ji r) {l:List UInt8} {a:Nat} (hl:Df l=true) (h:Cuts (a+l.length) r ts):∃ ws:List Tok,Cuts a (l ++ r) (ws ++ ts)/\ws.map D6=Ga (Dq l):=by
 obtain ⟨x,y,e⟩:=Kf l;have hd:=Gt l;unfold Df at hl;rw [jar] at hl;have:=Afe hr (Dq l) a (by rw [e];simp) hl (by rw [hd];exact h);rwa [hd] at this
theorem Ap2 {a:Nat} {x r:List UInt8} {ts:List Tok} (hx:∀ b ∈ x,A9 b=true) (h:Cuts (a+(Da 1 x).length) r ts):Cuts a (Da 1 x ++ r) (⟨1,x,a⟩::ts):=by
 have hs:Da 1 x=34::(esc x ++ [34]):=rfl;have h1:one (Da 1 x ++ r)=(1,.fine x (Da 1 x).length):=by
  rw [hs,jah,jaq,N7 34 _ rfl];show (1,(quo (esc x ++ 34::r)).top)=_;rw [Rb x r hx];simp only [Cut.top,jac,jab,List.length_nil]
 exact .cons h1 (by rw [List.drop_left];exact h)
def Ade:List UInt8->Bool
 | []=>false
 | c::t=>decide (c.toNat=91) && match lit t with
  | .fine _ n=>decide (n=t.length)
  | _=>false
theorem Ays {y:List UInt8} (h:Ade y=true):∃ x,y=Da 5 x/\∀ r,lit (x ++ 93::r)=.fine x (x.length+1):=by
 cases y with
 | nil=>cases h
 | cons c t =>
  rw [Ade,jag,decide_eq_true_eq] at h;obtain ⟨hc,h⟩:=h;cases hl:lit t with
  | fine x n =>
   rw [hl] at h;obtain ⟨g1,g2,g3,g4⟩:=Mo t x n hl;have hn:n=t.length:=by simpa using h
   rw [hn,List.take_length] at g3;have hxl:n=x.length+1:=by rw [hn,<- g3];simp
   refine ⟨x,by rw [<- g3,Hz hc];rfl,λr=>?_⟩;have:=g4 r;rw [hn,List.take_length,<- g3,jaq] at this;rw [show x.length+1=(x ++ [(93:UInt8)]).length by simp];exact this
  | bad i=>rw [hl] at h;cases h
  | gap=>rw [hl] at h;cases h
  | deep i=>rw [hl] at h;cases h
theorem Awv {a:Nat} {y r:List UInt8} {ts:List Tok} (hy:Ade y=true) (h:Cuts (a+y.length) r ts):∃ x,y=Da 5 x/\Cuts a (y ++ r) (⟨5,x,a⟩::ts):=by
 obtain ⟨x,rfl,hl⟩:=Ays hy;refine ⟨x,rfl,?_⟩;have hs:Da 5 x=91::(x ++ [93]):=rfl;have h1:one (Da 5 x ++ r)=(5,.fine x (Da 5 x).length):=by
  rw [hs,jah,jaq,Vj 91 _ rfl];show (5,(lit (x ++ 93::r)).top)=_;rw [hl r];simp only [Cut.top,jac,jab,List.length_nil]
 exact .cons h1 (by rw [List.drop_left];exact h)
def Ds (x:List UInt8):List UInt8:=if Df x then x else Da 1 x
theorem Aoy {a:Nat} {x r:List UInt8} {ts:List Tok} (hx:∀ b ∈ x,A9 b=true) (hr:Ji r) (h:Cuts (a+(Ds x).length) r ts):∃ (ws:List Tok) (P:List S),Cuts a (Ds x ++ r) (ws ++ ts)/\ws.map D6=P/\Says x P:=by
 unfold Ds at h ⊢;cases hw:Df x with
 | true =>
  rw [hw] at h;obtain ⟨ws,h1,h2⟩:=Ab6 hr hw h;obtain ⟨p,q,e⟩:=Kf x;have hs:Says (Cn (Dq x)) (Ga (Dq x)):=.words (by rw [e];simp);rw [Gt] at hs;exact ⟨ws,_,h1,h2,hs⟩
 | false =>
  rw [hw] at h;exact ⟨[⟨1,x,a⟩],[(1,x)],Ap2 hx h,rfl,.quote x⟩
def Av9 (y:List UInt8):Bool:=Df y || Ade y
theorem Awa {a:Nat} {y r:List UInt8} {ts:List Tok} (hy:Av9 y=true) (hr:Ji r) (h:Cuts (a+y.length) r ts):∃ (ws:List Tok) (D:List S),Cuts a (y ++ r) (ws ++ ts)/\ws.map D6=D/\SaysD y D:=by
 unfold Av9 at hy;rw [Bool.or_eq_true] at hy;rcases hy with hw | hl
 ·obtain ⟨ws,h1,h2⟩:=Ab6 hr hw h;obtain ⟨p,q,e⟩:=Kf y;have hs:SaysD (Cn (Dq y)) (Ga (Dq y)):=.words (by rw [e];simp);rw [Gt] at hs;exact ⟨ws,_,h1,h2,hs⟩
 ·obtain ⟨x,hx,h1⟩:=Awv hl h;subst hx;exact ⟨[⟨5,x,a⟩],[(5,x)],h1,rfl,.lit x⟩
def Gap (n:List UInt8) (r:List UInt8):Prop:=∀ (a:Nat) (ts:List Tok),Cuts (a+n.length) r ts->∃ ws:List Tok,Cuts a (n ++ r) (ws ++ ts)/\∀ k ∈ ws.map D6,Bi k=true
end Mbx
end
section
open Go.RowKit Utf
namespace Mbx
def O7 (x:Int):Bool:=!(decide (0<=x) && decide (x<128)) || Lex.Tu x.toNat
theorem Aqh:∀ n,n<128->(O7 ((n:Nat):Int) || (!Lab.Bh ((n:Nat):Int) && !Ctx.Br ((n:Nat):Int) && Wall.Bv ((n:Nat):Int) && !Bidi.Ca ((n:Nat):Int)))=true:=by decide +kernel
theorem Vw {x:Int} (h:O7 x=false):(Lab.Bh x=false/\Ctx.Br x=false/\Wall.Bv x=true/\Bidi.Ca x=false)/\0<=x/\x<128/\Lex.Tu x.toNat=false:=by
 have h0:=h;unfold O7 at h;simp only [Bool.or_eq_false_iff,Bool.not_eq_false',jag,decide_eq_true_eq] at h;obtain ⟨⟨h1,h2⟩,h3⟩:=h;have:=Aqh x.toNat jO;rw [show ((x.toNat:Nat):Int)=x by omega,h0] at this;simp only [Bool.false_or,jag,Bool.not_eq_true'] at this;exact ⟨⟨this.1.1.1,this.1.1.2,this.1.2,this.2⟩,h1,h2,h3⟩
theorem J8 (c:UInt8):O7 (c.toNat:Int)=true ↔ Lex.An c=true:=by
 unfold O7 Lex.An;by_cases h:c.toNat<128
 ·rw [decide_eq_true (show (0:Int)<=(c.toNat:Int) by omega),decide_eq_true (show (c.toNat:Int)<128 by omega)];simp
 ·rw [decide_eq_false (show ¬ (c.toNat:Int)<128 by omega)];unfold Lex.Tu;rw [decide_eq_true (show 128<=c.toNat by omega)];simp
theorem Aoj {c:UInt8} (h:128<=c.toNat):Lex.An c=true:=(J8 c).1 (by unfold O7;rw [decide_eq_false (show ¬ (c.toNat:Int)<128 by omega)];simp)
theorem Ab4 {l:List Int} (h:Lab.Eh l=0):∀ x ∈ l,O7 x=true:=by
 have hb:Lab.Fj l=false:=by
  unfold Lab.Eh at h;split at h
  ·omega
  ·split at h
   ·omega
   ·split at h
    ·omega
    ·split at h
     ·omega
     ·rename_i h4
      simpa using h4
 intro x hx;obtain ⟨k,hk,rfl⟩:=List.getElem_of_mem hx;unfold Lab.Fj at hb;rw [List.any_eq_false] at hb;have h1:=hb k (List.mem_range.2 hk);rw [Bool.or_eq_true,not_or,getElem!_pos l k hk] at h1;cases hd:O7 l[k] with
 | true=>rfl
 | false =>
  exfalso;obtain ⟨hc,-⟩:=Vw hd;refine h1.2 ?_;rw [Ctx.He hk,getElem!_pos l k hk,hc.1,hc.2.1];rfl
theorem Aoe {l:List Int} (h:Ae l=true) (hd:∀ x ∈ l,O7 x=true):∀ c ∈ Puny.Bm l,Lex.An c=true:=by
 have hp:∀ x ∈ l,0<=x:=λx hx=>by
  have:=jar.1 (show l.all Ai=true from h) x hx;have:=(Ak x).1 this;omega
 intro c hc;unfold Puny.Bm at hc;rcases jap.1 hc with hc | hc
 ·rcases jap.1 hc with hc | hc
  ·unfold Puny.Bd at hc;obtain ⟨x,hx,rfl⟩:=List.mem_map.1 hc;have hm:x ∈ l/\x<128:=by
    unfold Puny.lt at hx;have:=List.mem_filter.1 hx;exact ⟨this.1,by simpa using this.2⟩
   have hx0:=hp x hm.1;refine (J8 _).1 ?_;have e:(((u x.toNat).toNat:Nat):Int)=x:=by rw [Ba jO];omega
   show O7 (((u x.toNat).toNat:Nat):Int)=true;rw [e];exact hd x hm.1
  ·unfold Puny.Jw at hc;split at hc
   ·cases hc
   ·rw [List.mem_singleton.1 hc];decide
 ·unfold Puny.Cv at hc;obtain ⟨x,hx,rfl⟩:=List.mem_map.1 hc;obtain ⟨h0,h1⟩:=Puny.Kv _ _ _ _ (Puny.Gs (Ek h)) x hx;have:∀ i:Nat,i<36->Lex.An (Puny.Iy (i:Int))=true:=by decide +kernel
  have:=this x.toNat jO;rwa [show ((x.toNat:Nat):Int)=x by omega] at this
theorem Ajw {L:List Int} (hr:Ae L=true) {a u:List UInt8} (h:Lab.Ef L=(0,a,u)):∀ x ∈ L,O7 x=true:=by
 unfold Lab.Ef at h;by_cases h1:Lab.Dx (Ag L)=false
 ·rw [if_pos h1] at h;by_cases h2:Lab.Eh L=0
  ·exact Ab4 h2
  ·rw [if_neg h2] at h;injection h with e1 e2
   exact absurd e1 h2
 ·rw [if_neg h1] at h;have ha:∀ c ∈ Ag L,c.toNat<128:=Lab.Ei.1 (by simpa using h1);have hch:Lab.chars (Ag L)=L:=Lab.Ip (Lab.Ea ha) hr (Ej _ ha)
  suffices hb:∀ c ∈ Ag L,Lex.An c=true by
   intro x hx;rw [<- hch] at hx;obtain ⟨c,hc,rfl⟩:=List.mem_map.1 hx;exact (J8 c).2 (hb c hc)
  by_cases h3:(Ag L).take 4=Lab.sign
  ·rw [if_pos h3] at h;cases hd:Puny.Hj ((Ag L).drop 4) with
   | none =>
    rw [hd] at h;simp only at h;injection h with e1 e2
    exact absurd e1 jD
   | some l =>
    rw [hd] at h;simp only at h;by_cases h4:63<(Ag L).length
    ·rw [if_pos h4] at h;injection h with e1 e2
     exact absurd e1 jD
    ·rw [if_neg h4] at h;by_cases h5:Lab.Eh l ≠ 0
     ·rw [if_pos h5] at h;injection h with e1 e2
      exact absurd e1 h5
     ·rw [if_neg h5] at h;rw [Decidable.not_not] at h5;by_cases h6:Puny.Bm l ≠ (Ag L).drop 4
      ·rw [if_pos h6] at h;injection h with e1 e2
       exact absurd e1 jD
      ·rw [Decidable.not_not] at h6;obtain ⟨hrl,-,-⟩:=Puny.Acz hd;have hcat:Lab.sign ++ Puny.Bm l=Ag L:=by rw [h6,<- h3,List.take_append_drop]
       intro c hc;rw [<- hcat] at hc;rcases jap.1 hc with hc | hc
       ·exact (by decide:∀ c ∈ Lab.sign,Lex.An c=true) c hc
       ·exact Aoe hrl (Ab4 h5) c hc
  ·rw [if_neg h3] at h;by_cases h4:Lab.Fz (Ag L)=0
   ·unfold Lab.Fz at h4;split at h4
    ·omega
    ·split at h4
     ·omega
     ·split at h4
      ·omega
      ·rename_i h5
       intro c hc;refine (J8 c).1 ?_;cases hg:O7 (c.toNat:Int) with
       | true=>rfl
       | false =>
        exfalso;obtain ⟨⟨-,-,-,h6⟩,-⟩:=Vw hg;have h7:((Ag L).all λc=>Bidi.Ca (c.toNat:Int))=true:=by simpa using h5
        have:=jar.1 h7 c hc;rw [h6] at this;cases this
   ·rw [if_neg h4] at h;injection h with e1 e2
    exact absurd e1 h4
theorem Adj:∀ {L:List Int} {x:Int},x ∈ L->Dom.Cd x=false->∃ P ∈ Dom.cut L,x ∈ P
 | y::L,x,h,hx=>by
  obtain ⟨a,t,e⟩:=Dom.Fl L;rw [Dom.cut];by_cases hy:Dom.Cd y=true
  ·rw [if_pos hy];rcases jal.1 h with rfl | h
   ·rw [hx] at hy;cases hy
   ·obtain ⟨P,hP,hm⟩:=Adj h hx;exact ⟨P,List.mem_cons_of_mem _ hP,hm⟩
  ·rw [if_neg hy,e];rcases jal.1 h with rfl | h
   ·exact ⟨x::a,by simp,by simp⟩
   ·obtain ⟨P,hP,hm⟩:=Adj h hx;rw [e] at hP;rcases jal.1 hP with rfl | hP
    · exact ⟨y::P,by simp,by simp [hm]⟩
    · exact ⟨P,by simp [hP],hm⟩
theorem Au9:∀ l:List Int,(46 ∉ l)\/∃ q r,l=q ++ 46::r/\46 ∉ q
 | []=>.inl jS
 | x::l=>by
  by_cases hx:x=46
  ·exact .inr ⟨[],l,by rw [hx];rfl,by simp⟩
  ·rcases Au9 l with h | ⟨q,r,e,h⟩
   · exact .inl (by simp only [jal,not_or];exact ⟨λe=>hx e.symm,h⟩)
   · exact .inr ⟨x::q,r,by rw [e];rfl,by simp only [jal,not_or];exact ⟨λe=>hx e.symm,h⟩⟩
theorem Jy:∀ {l:List UInt8},(∀ c ∈ l,c.toNat ≠ 46)->Lex.Dq l=[l]
 | [],_=>rfl
 | c::t,h=>by rw [Lex.Dq,if_neg (h c jS),Jy (λb hb=>h b (by simp [hb]))]
theorem Afc:∀ {p:List UInt8} (t:List UInt8),(∀ c ∈ p,c.toNat ≠ 46)->Lex.Dq (p ++ 46::t)=p::Lex.Dq t
 | [],t,_=>by rw [List.nil_append,Lex.Dq,if_pos jD]
 | c::p,t,h=>by rw [jah,Lex.Dq,if_neg (h c jS),Afc t (λb hb=>h b (by simp [hb]))]
theorem Xn {q:List Int} (hr:Ae q=true) (h46:46 ∉ q) (h:∀ P ∈ Dom.cut (Fold.fold q),P ≠ []/\∀ x ∈ P,O7 x=true):Lex.Dt (Ag q)=true/\∀ c ∈ Ag q,c.toNat ≠ 46:=by
 constructor
 ·unfold Lex.Dt;rw [jag,jar];constructor
  ·cases q with
   | nil=>exact absurd rfl (h [] jD).1
   | cons x t =>
    have:0<(Ag (x::t)).length:=by
     have:=Fo (x::t);unfold Ag;rw [jao,jab];have:0<(enc x.toNat).length:=by unfold enc;split<;>(try split)<;>(try split)<;>simp
     omega
    cases he:Ag (x::t) with
    | nil=>rw [he] at this;cases this
    | cons a b=>rfl
  ·intro c hc;by_cases h128:c.toNat<128
   ·have hm:=Prec.Ack hr hc h128;rw [<- J8];cases hg:O7 (c.toNat:Int) with
    | true=>rfl
    | false =>
     exfalso;obtain ⟨⟨-,-,hw,-⟩,-⟩:=Vw hg;obtain ⟨s,t,rfl⟩:=List.append_of_mem hm;have hfold:=Wall.U9 hw s t;have hd:Dom.Cd (c.toNat:Int)=false:=by
      unfold Dom.Cd;rw [Bool.or_eq_false_iff,beq_eq_false_iff_ne,beq_eq_false_iff_ne];exact ⟨λe=>h46 (by rw [e];simp),by omega⟩
     obtain ⟨P,hP,hx⟩:=Adj (L:=Fold.fold (s ++ (c.toNat:Int)::t)) (x:=(c.toNat:Int)) (by rw [hfold];simp) hd;have:=(h P hP).2 _ hx;rw [hg] at this;cases this
   ·exact Aoj jO
 ·intro c hc e;have:=Prec.Ack hr hc jO;rw [e] at this;exact h46 this
theorem Aly (n:Nat):∀ l:List Int,l.length<=n->Ae l=true->(∀ P ∈ Dom.cut (Fold.fold l),P ≠ []/\∀ x ∈ P,O7 x=true)->Lex.Df (Ag l)=true:=by
 induction n with
 | zero =>
  intro l hl hr h;obtain rfl:l=[]:=List.eq_nil_of_length_eq_zero jO;exact absurd rfl (h [] jD).1
 | succ n ih =>
  intro l hl hr h;unfold Lex.Df;rcases Au9 l with h46 | ⟨q,r,rfl,h46⟩
  ·obtain ⟨h1,h2⟩:=Xn hr h46 h;rw [Jy h2,List.all_cons,h1];rfl
  ·have hrq:Ae q=true/\Ae r=true:=by
    unfold Ae at hr ⊢;rw [List.all_append,List.all_cons,jag,jag] at hr;exact ⟨hr.1,hr.2.2⟩
   rw [Dom.Afr,Dom.Aco] at h;obtain ⟨h1,h2⟩:=Xn hrq.1 h46 (λP hP=>h P (jap.2 (.inl hP)));have h3:=ih r (by rw [jab,jac] at hl;omega) hrq.2 (λP hP=>h P (jap.2 (.inr hP)));unfold Lex.Df at h3;rw [Dom.Amf,Afc _ h2,List.all_cons,h1,h3];rfl
theorem Aad {y a u:List UInt8} (h:Dom.Cb y=(0,a,u)):Lex.Df y=true:=by
 obtain ⟨l,hr,rfl,h0,h1,h2,-⟩:=Dom.Acj h;refine Aly _ l (jaa _) hr λP hP=>?_;have hrP:Ae P=true:=Dom.Nu (Dr hr) P hP;have hf:Fold.fold P=P:=Dom.Xo l P hP;have h3:=h2 P hP;constructor
 ·rintro rfl;exact absurd h3 (by decide +kernel)
 ·unfold Dom.Db at h3;rw [Lab.E9 hrP,hf] at h3;obtain ⟨⟨e,b,v⟩,hb⟩:∃ p,Lab.Ef P=p:=⟨_,rfl⟩
  rw [hb] at h3;obtain rfl:e=0:=h3;exact Ajw hrP hb
open Norm in
def Ll (r:Int):Bool:=decide ((Norm.pieces false (Fold.fo r)).length<=(enc r.toNat).length)
theorem Ao5:∀ y ∈ lowers,∀ i ∈ List.range (y.hi - y.lo+1).toNat,Ll (y.lo+i)=true:=by decide +kernel
theorem Ahw:∀ y ∈ splits,Ll y.rune=true:=by decide +kernel
theorem Alu:∀ i ∈ List.range 94,Ll (65281+i)=true:=by decide +kernel
theorem Kx (n:Nat):0<(enc n).length:=by unfold enc;split<;>(try split)<;>(try split)<;>simp
theorem Avk {r:Int}:Ll r=true:=by
 cases hs:Norm.syl r with
 | true =>
  unfold Ll;rw [Fold.Vf hs,decide_eq_true_eq];have e:Norm.pieces false r=Norm.Cu r:=by rw [Norm.Az,hs];rfl
  have h2:44032<=r/\r<=55203:=by simpa [Norm.syl] using hs
  have h3:(enc r.toNat).length=3:=by
   unfold enc;rw [if_neg jO,if_neg jO,if_pos jO];rfl
  rw [e,h3];unfold Norm.Cu;split<;>simp
 | false =>
  cases hw:Bl r with
  | true =>
   simp only [Bl,jag,decide_eq_true_eq] at hw;have:=Alu (r - 65281).toNat (by rw [List.mem_range];omega);rwa [show (65281:Int)+((r - 65281).toNat:Int)=r by omega] at this
  | false =>
   cases hp:Ah r with
   | some y =>
    rcases Bj hp with ⟨hy,rfl⟩ | ⟨hw',-⟩
    ·exact Ahw y hy
    ·rw [hw] at hw';cases hw'
   | none =>
    have hn:Fold.narrow r=r:=by unfold Fold.narrow;rw [hw];rfl
    cases hl:K9 r with
    | some y =>
     obtain ⟨h1,h2,h3⟩:=C9 hl;have:=Ao5 y h1 (r - y.lo).toNat (by rw [List.mem_range];omega);rwa [show y.lo+((r - y.lo).toNat:Int)=r by omega] at this
    | none =>
     have e:Norm.pieces false r=[r]:=by rw [Norm.Az,hs,hp];rfl
     have hf:Fold.fo r=r:=by unfold Fold.fo Fp;rw [hn,hl]
     unfold Ll;rw [hf,e,decide_eq_true_eq];exact Kx _
theorem Abs:∀ l:List Int,(Norm.split false (l.map Fold.fo)).length<=(Ag l).length
 | []=>by simp [Norm.split]
 | x::l=>by
  have ih:=Abs l;have hx:=Avk (r:=x);unfold Ll at hx;rw [decide_eq_true_eq] at hx;unfold Norm.split at ih ⊢
  unfold Ag at ih ⊢;rw [List.map_cons,jao,jao,jab,jab];omega
theorem Wh (l:List Int):(Norm.down false (l.map Fold.fo)).length<=(Ag l).length:=by
 have h1:=Abs l;have h2:=Ad0 (Norm.Gz (Norm.split false (l.map Fold.fo)));unfold Norm.down;omega
theorem Ajm (l:List Int):(Fold.fold l).length<=(Ag l).length:=by
 have h1:=Wh l;have h3:=Aau (Norm.down false (l.map Fold.fo));unfold Fold.fold;omega
end Mbx
theorem Hr {s:ByteArray} (hs:s.size<=400):Av s:=by
 refine ⟨by omega,λm hm=>?_⟩;obtain ⟨-,h2⟩:=Lab.Mw (s:=s.data.toList) (by rw [hm]);rw [hm] at h2;simp only at h2;have h3:=Mbx.Ajm (ints m);have h5:=Mbx.Wh (ints m);have h4:s.data.toList=Ag (ints m):=h2;rw [<- h4] at h3 h5;have e:s.data.toList.length=s.size:=by simp
 have hml:m.length<=400:=by have:=(D5 hm).2.1;simp at this;omega
 have hil:(ints m).length=m.length:=by simp [ints]
 exact ⟨⟨by omega,hm,by omega,by omega⟩,by omega⟩
end
section
open Go.RowKit Utf
namespace Mbx
open Lex (Cuts Tok A9 Ey Da Df Dt ok esc An Aq)
def D0 (y:List UInt8):Bool:=y.head? == some 91
def Mn (y:List UInt8):Bool:=decide ((Au y).2=-1) && Ade y
def Fh (x y:List UInt8):Int :=
 if x=[] then 13 else if 64<x.length then 5 else if (Au x).2 ≠ -1 then 7 else if x.all A9=false then 8
 else if D0 y=true then (if Mn y then 0 else 4) else (Dom.Cb y).1
def D1 (x y:List UInt8):List UInt8:=Ds x ++ 64::y
def Aa7 (x:List UInt8):List UInt8:=if (Prec.Q1 x).1=0 then (Prec.Q1 x).2 else x
def Ux (y:List UInt8):List UInt8:=if D0 y=true then y.map Am else if (Dom.Cb y).1=0 then (Dom.Cb y).2.1 else y
def Md (x y:List UInt8):Int × List UInt8 × List UInt8 :=
 if Ao x ≠ -1 then (8,[],[]) else if D0 y=true then (if Ao y ≠ -1 then (8,[],[]) else (0,x,y))
 else if (Dom.Cb y).1=0 then (0,x,Dom.Qk y) else ((Dom.Cb y).1,[],[])
theorem Re {x y:List UInt8} (h:Fh x y=0):x ≠ []/\x.length<=64/\ok x/\(∀ b ∈ x,A9 b=true)/\((D0 y=true/\Mn y=true)\/(D0 y=false/\(Dom.Cb y).1=0)):=by
 unfold Fh at h;by_cases h1:x=[]
 ·rw [if_pos h1] at h;exact absurd h jD
 rw [if_neg h1] at h;by_cases h2:64<x.length
 ·rw [if_pos h2] at h;exact absurd h jD
 rw [if_neg h2] at h;by_cases h3:(Au x).2 ≠ -1
 ·rw [if_pos h3] at h;exact absurd h jD
 rw [if_neg h3] at h;by_cases h4:x.all A9=false
 ·rw [if_pos h4] at h;exact absurd h jD
 rw [if_neg h4] at h;refine ⟨h1,by omega,(show (Au x).2=-1 from Decidable.not_not.1 h3),jar.1 (by simpa using h4),?_⟩;by_cases h5:D0 y=true
 ·rw [if_pos h5] at h;by_cases h6:Mn y=true
  · exact .inl ⟨h5,h6⟩
  · rw [if_neg h6] at h;exact absurd h jD
 ·rw [if_neg h5] at h;exact .inr ⟨by simpa using h5,h⟩
theorem Ayf {y:List UInt8} (h:(Dom.Cb y).1=0):ok y/\Df y=true:=by
 obtain ⟨⟨e,a,u⟩,hb⟩:∃ p,Dom.Cb y=p:=⟨_,rfl⟩
 rw [hb] at h;obtain rfl:e=0:=h;obtain ⟨l,hr,e,-⟩:=Dom.Acj hb;exact ⟨(Lex.Pe y).2 ⟨l,hr,e⟩,Aad hb⟩
theorem Aqd {x y:List UInt8} (h:Fh x y=0):ok y/\Av9 y=true:=by
 obtain ⟨-,-,-,-,h⟩:=Re h;unfold Av9;rcases h with ⟨-,h⟩ | ⟨-,h⟩
 ·unfold Mn at h;rw [jag,decide_eq_true_eq] at h;exact ⟨h.1,by rw [h.2,Bool.or_true]⟩
 ·obtain ⟨h1,h2⟩:=Ayf h;exact ⟨h1,by rw [h2];rfl⟩
theorem Alz {x:List UInt8} (h:Df x=true):∃ c t,x=c::t/\An c=true:=by
 unfold Df at h;cases x with
 | nil=>exact absurd h jD
 | cons c t =>
  refine ⟨c,t,rfl,?_⟩;rw [Lex.Dq] at h;by_cases hc:c.toNat=46
  ·rw [if_pos hc,List.all_cons] at h;exact absurd h (by simp [Dt])
  ·rw [if_neg hc] at h;obtain ⟨a,r,e⟩:=Kf t;rw [e] at h;simp only [List.all_cons,jag] at h;have h1:=h.1;unfold Dt at h1;rw [jag,List.all_cons,jag] at h1;exact h1.2.1
theorem Akj:∀ (x pre:List UInt8),ok (pre ++ x)->ok (pre ++ esc x)
 | [],pre,h=>h
 | c::t,pre,h=>by
  by_cases hs:c.toNat=34\/c.toNat=92
  ·have hc:c.toNat<128:=jO
   obtain ⟨h1,h2⟩:=Lex.Mr hc h;rw [Lex.Ac4 hs];have h3:=Akj t [] h2;have h4:ok [92,c]:=Lex.Hm λb hb=>by
    simp only [jal,List.not_mem_nil,or_false] at hb;rcases hb with rfl | rfl
    · decide
    · exact hc
   exact Lex.Iu h1 (Lex.Iu h4 h3)
  ·rw [Lex.O6 hs];have:=Akj t (pre ++ [c]) (by rw [jaq];exact h);rw [jaq] at this;exact this
theorem Ato {x:List UInt8} (h:ok x):ok (Ds x):=by
 unfold Ds;split
 ·exact h
 ·have h1:ok (esc x):=Akj x [] h;have h2:ok [(34:UInt8)]:=Lex.Hm jD;exact Lex.Iu h2 (Lex.Iu h1 h2)
theorem N4 (x:List UInt8):(Ds x).length<=2*x.length+2:=by
 unfold Ds;split
 ·omega
 ·have:=Lex.Amg x;rw [Da,if_neg jD,if_neg jD,if_pos rfl];simp only [jac,jab,List.length_nil];omega
theorem Ae4 {s:List UInt8} {ts:List Tok} (hl:s.length<=2000) (ho:ok s) (h:Cuts 0 s ts):Ey s=(0,0,ts):=by
 have ho':(Au s).2=-1:=ho;unfold Ey;rw [if_neg jO,if_pos ho',Lex.Ax8 h _ (jaa _)]
theorem Acf {y:List UInt8} (h:Df y=true):D0 y=false:=by
 obtain ⟨c,t,rfl,hc⟩:=Alz h;obtain ⟨-,-,-,-,-,h91,-⟩:=Lex.Aen c hc;unfold D0;show (some c == some 91)=false;rw [beq_eq_false_iff_ne];intro e;injection e with e
 rw [e] at h91;exact h91 rfl
theorem Asl {y:List UInt8} (hb:D0 y=false) {a u:List UInt8} (h:Dom.Cb y=(0,a,u)):Ux y=a/\Dom.Cb a=(0,a,u)/\D0 a=false/\Ux a=a/\Ao a=-1/\a.length<=253/\∃ A,a=Ag A/\Ae A=true/\Fold.fold A=A/\A.length<=253:=by
 obtain ⟨U,A,-,-,-,-,-,h1,h2,h3,h4,h5,h6,h7⟩:=Dom.back h;have h8:=Acf (Aad h5);refine ⟨?_,h5,h8,?_,h6,h7,A,h1,h2,h3,h4⟩
 · unfold Ux;rw [hb,h];rfl
 · unfold Ux;rw [h8,h5];rfl
theorem Awf {x y u v:List UInt8} {E:Int} (h:Md x y=(E,u,v)):(E ≠ 0/\u=[]/\v=[])\/(E=0/\u=x/\Ao x=-1/\Ao v=-1/\(Ao y=-1->v=y)/\Ux v=Ux y/\(Fh x y=0->Fh x v=0)/\(v=y\/v.length<=253)):=by
 unfold Md at h;by_cases h1:Ao x ≠ -1
 ·rw [if_pos h1] at h;injection h with e1 e2;injection e2 with e2 e3
  exact .inl ⟨by rw [<- e1];decide,e2.symm,e3.symm⟩
 rw [if_neg h1] at h;rw [Decidable.not_not] at h1;by_cases hb:D0 y=true
 ·rw [if_pos hb] at h;by_cases h2:Ao y ≠ -1
  ·rw [if_pos h2] at h;injection h with e1 e2;injection e2 with e2 e3
   exact .inl ⟨by rw [<- e1];decide,e2.symm,e3.symm⟩
  ·rw [if_neg h2] at h;rw [Decidable.not_not] at h2;injection h with e1 e2;injection e2 with e2 e3
   subst e1 e2 e3;exact .inr ⟨rfl,rfl,h1,h2,λ_=>rfl,rfl,id,.inl rfl⟩
 ·rw [if_neg hb] at h;have hb':D0 y=false:=by simpa using hb
  by_cases h0:(Dom.Cb y).1=0
  ·rw [if_pos h0] at h;injection h with e1 e2;injection e2 with e2 e3
   subst e1 e2 e3;obtain ⟨⟨e,a,u⟩,hd⟩:∃ p,Dom.Cb y=p:=⟨_,rfl⟩
   have h00:=h0;rw [hd] at h0;obtain rfl:e=0:=h0;obtain ⟨g1,g2,g3,g4,g5,g6,-⟩:=Asl hb' hd;rcases Lab.Eb y with ⟨ha,he⟩ | ⟨ha,he⟩
   ·have e:Dom.Qk y=y:=by unfold Dom.Qk;rw [if_pos ⟨h00,ha⟩]
    rw [e];exact .inr ⟨rfl,rfl,h1,he,λ_=>rfl,rfl,id,.inl rfl⟩
   ·have e:Dom.Qk y=a:=by unfold Dom.Qk;rw [if_neg (λh=>by rw [ha] at h;cases h.2),hd]
    rw [e];refine .inr ⟨rfl,rfl,h1,g5,λh=>absurd h jO,by rw [g4,g1],λh=>?_,.inr g6⟩;unfold Fh at h ⊢;rw [g3,g2];rw [hb',hd] at h;exact h
  ·rw [if_neg h0] at h;injection h with e1 e2;injection e2 with e2 e3
   exact .inl ⟨by rw [<- e1];exact h0,e2.symm,e3.symm⟩
def Dd (l:List S):List UInt8:=l.flatMap λk=>Da k.1 k.2
theorem Ke:∀ ts:List Tok,Dd (ts.map Lex.D6)=Lex.outs ts
 | []=>rfl
 | k::ts=>by
  have ih:=Ke ts;unfold Dd at ih ⊢;rw [List.map_cons,jao,ih];rfl
theorem Ax5 {k:Int} (h:k=0) (x:List UInt8):Da k x=x:=by subst h;rfl
theorem Agq:∀ l:List S,(more l).1.length<=(Dd l).length/\(more l).2<=l.length
 | []=>⟨jaa _,jaa _⟩
 | [_]=>⟨Nat.zero_le _,Nat.zero_le _⟩
 | d::a::t=>by
  obtain ⟨h1,h2⟩:=Agq t;rw [more];by_cases h:d=(2,[46])/\a.1=0
  ·rw [if_pos h];unfold Dd at h1 ⊢;rw [jao,jao,Ax5 h.2,h.1];simp only [jac,jab,show (Da 2 [46]).length=1 from rfl];omega
  ·rw [if_neg h];exact ⟨Nat.zero_le _,Nat.zero_le _⟩
theorem Tq {l:List S} {y:List UInt8} {n:Nat} (h:words l=some (y,n)):y.length<=(Dd l).length/\n<=l.length/\0<n:=by
 cases l with
 | nil=>cases h
 | cons k t =>
  rw [words] at h;by_cases hk:k.1=0
  ·rw [if_pos hk] at h;injection h with h
   injection h with h1 h2
   subst h1 h2;obtain ⟨g1,g2⟩:=Agq t;unfold Dd at g1 ⊢;rw [jao,Ax5 hk];simp only [jac,jab];omega
  ·rw [if_neg hk] at h;cases h
theorem Acw {l:List S} {y:List UInt8} {n:Nat} (h:Od l=some (y,n)):y.length<=(Dd l).length/\n<=l.length/\0<n:=by
 cases l with
 | nil=>cases h
 | cons k t =>
  rw [Od] at h;by_cases hk:k.1=5
  ·rw [if_pos hk] at h;injection h with h
   injection h with h1 h2
   subst h1 h2;unfold Dd;rw [jao,hk];simp only [jac,jab];omega
  ·rw [if_neg hk] at h;exact Tq h
theorem Aj1 {l:List S} {y:List UInt8} {n:Nat} (h:Em l=some (y,n)):n<=l.length/\0<n:=by
 cases l with
 | nil=>cases h
 | cons k t =>
  rw [Em] at h;by_cases hk:k.1=1
  ·rw [if_pos hk] at h;injection h with h
   injection h with h1 h2
   subst h1 h2;simp only [jac];omega
  ·rw [if_neg hk] at h;exact (Tq h).2
theorem X8:∀ l:List S,skip l<=l.length
 | []=>jaa _
 | k::t=>by
  have:=X8 t;rw [skip,jac];split<;>omega
theorem J3:∀ (l:List S) (n:Nat),(Dd (l.drop n)).length<=(Dd l).length
 | l,0=>jaa _
 | [],n+1=>jaa _
 | k::t,n+1=>by
  have:=J3 t n;rw [List.drop_succ_cons];unfold Dd at this ⊢;rw [jao,jab];omega
theorem Abv {l:List S} {x x' y:List UInt8} {b n:Nat} (h:Yk l x b=some (x',y,n)):x'=x/\y.length<=(Dd l).length/\n<=l.length:=by
 unfold Yk at h;by_cases hh:(l.drop b).head? = some (2,[64])
 ·rw [if_pos hh] at h;cases hd:Od (l.drop (b+1+skip (l.drop (b+1)))) with
  | none=>rw [hd] at h;cases h
  | some p =>
   obtain ⟨z,q⟩:=p;rw [hd] at h;simp only at h;injection h with h
   injection h with h1 h2
   injection h2 with h2 h3
   subst h1 h2 h3;obtain ⟨g1,g2,g3⟩:=Acw hd;have g4:=J3 l (b+1+skip (l.drop (b+1)));rw [jaj] at g2;have g5:=X8 (l.drop (b+1+skip (l.drop (b+1))+q));rw [jaj] at g5;exact ⟨rfl,by omega,by omega⟩
 ·rw [if_neg hh] at h;cases h
theorem take_len {l:List S} {x y:List UInt8} {n:Nat} (h:take l=some (x,y,n)):y.length<=(Dd l).length/\n<=l.length:=by
 unfold take at h;cases hx:Em (l.drop (skip l)) with
 | none=>rw [hx] at h;cases h
 | some p =>
  obtain ⟨z,q⟩:=p;rw [hx] at h;exact (Abv h).2
end Mbx
end
section
open Utf
namespace Mbx
open Lex (Cuts Tok Ey Da ok)
theorem Agh:∀ x r:List UInt8,x.all Mh=true->Lex.lit (x ++ 93::r)=.fine x (x.length+1)
 | [],r,_=>by rw [List.nil_append,Lex.lit,if_pos jD];rfl
 | c::x,r,h=>by
  rw [List.all_cons,jag] at h;have ih:=Agh x r h.2;have h1:=h.1;unfold Mh at h1;simp only [jag,bne_iff_ne,ne_eq] at h1;rw [jah,Lex.lit,if_neg h1.2,if_pos ⟨h1.1.1.1,h1.1.1.2,h1.1.2⟩,ih];rfl
theorem Amp:∀ (t x:List UInt8) (n:Nat),Lex.lit t=.fine x n->x.all Mh=true
 | [],x,n,h=>by cases h
 | c::t,x,n,h=>by
  rw [Lex.lit] at h;by_cases h93:c.toNat=93
  ·rw [if_pos h93] at h;injection h with h1 h2
   subst h1;rfl
  ·rw [if_neg h93] at h;by_cases hc:Lex.Gx c.toNat=true/\c.toNat ≠ 91/\c.toNat ≠ 92
   ·rw [if_pos hc] at h;obtain ⟨x',n',h1,rfl,-⟩:=Lex.Jc h;have:=Amp t x' n' h1;rw [List.singleton_append,List.all_cons,this,Bool.and_true];unfold Mh;simp only [jag,bne_iff_ne,ne_eq];exact ⟨⟨⟨hc.1,hc.2.1⟩,hc.2.2⟩,h93⟩
   ·rw [if_neg hc] at h;cases h
theorem Agi {t x:List UInt8} (h:Lex.lit t=.fine x t.length):t=x ++ [93]:=by
 obtain ⟨-,-,g,-⟩:=Lex.Mo t x _ h;rw [List.take_length] at g;exact g.symm
theorem Amo (t:List UInt8):Ade (91::t)=true ↔ ∃ x,Lex.lit t=.fine x t.length:=by
 rw [Ade,jag,decide_eq_true_eq];constructor
 ·rintro ⟨-,h⟩;cases hl:Lex.lit t with
  | fine x n =>
   rw [hl] at h;have:n=t.length:=by simpa using h
   subst this;exact ⟨x,rfl⟩
  | bad i=>rw [hl] at h;cases h
  | gap=>rw [hl] at h;cases h
  | deep i=>rw [hl] at h;cases h
 ·rintro ⟨x,h⟩;rw [h];exact ⟨by decide,by simp⟩
theorem Atl (x:List UInt8):Ade (91::(x ++ [93]))=x.all Mh:=by
 rw [Bool.eq_iff_iff,Amo];constructor
 ·rintro ⟨x',h⟩;have h1:=Amp _ _ _ h;have h2:=Agi h;have:=List.append_cancel_right h2;rw [this];exact h1
 ·intro h;exact ⟨x,by rw [Agh x [] h];simp⟩
theorem Awt {t:List UInt8} (h:∀ x,t ≠ x ++ [93]):Ade (91::t)=false:=by
 rw [<- Bool.not_eq_true,Amo];rintro ⟨x,hx⟩;exact h x (Agi hx)
theorem Ayv (x:List UInt8):ok (91::(x ++ [93])) ↔ ok x:=by
 constructor
 ·intro h;have h1:ok (x ++ [93]):=(Lex.Mr (A:=[]) (c:=91) (B:=x ++ [93]) jD h).2;exact (Lex.Mr (A:=x) (c:=93) (B:=[]) jD h1).1
 ·intro h;have a1:ok [(91:UInt8)]:=Lex.Hm jD;have a2:ok [(93:UInt8)]:=Lex.Hm jD;exact Lex.Iu a1 (Lex.Iu h a2)
theorem Aov (x:List UInt8):Mn (91::(x ++ [93]))=(decide ((Au x).2=-1) && x.all Mh):=by
 unfold Mn;rw [Atl];congr 1;exact decide_eq_decide.2 (Ayv x)
theorem Atk {t:List UInt8} (h:∀ x,t ≠ x ++ [93]):Mn (91::t)=false:=by
 unfold Mn;rw [Awt h,Bool.and_false]
theorem Anl {y:List UInt8} (h:D0 y=true):∃ t,y=91::t:=by
 cases y with
 | nil=>cases h
 | cons c t =>
  have:(some c == some (91:UInt8))=true:=h;have:c=91:=by simpa using this
  subst this;exact ⟨t,rfl⟩
end Mbx
end
