import Derived.Test.YtickpkccpafjaaaGreatDoorLexPl
import Derived.Test.YtickpkccpafjaaaGreatDoorPrecPl
namespace Go.Proofs.YtickpkccpafjaaaGreatDoor
section
open Utf
namespace Mbx
abbrev S:=Int × List UInt8
def M8 (c:UInt8):Bool:=Lex.G9 c.toNat && c.toNat != 91 && c.toNat != 92 && c.toNat != 93
def Az (k:S):Bool:=k.1 == 4 || k.1 == 3
def skip:List S->Nat
 | []=>0
 | k::t=>if Az k then skip t+1 else 0
def more:List S->List UInt8 × Nat
 | d::a::t=>if d=(2,[46])/\a.1=0 then (46::(a.2 ++ (more t).1),(more t).2+2) else ([],0)
 | _=>([],0)
def words:List S->Option (List UInt8 × Nat)
 | []=>none
 | k::t=>if k.1=0 then some (k.2 ++ (more t).1,(more t).2+1) else none
def Ed:List S->Option (List UInt8 × Nat)
 | []=>none
 | k::t=>if k.1=1 then some (k.2,1) else words (k::t)
def Po:List S->Option (List UInt8 × Nat)
 | []=>none
 | k::t=>if k.1=5 then some (Lex.Bd 5 k.2,1) else words (k::t)
def Zu (l:List S) (x:List UInt8) (b:Nat):Option (List UInt8 × List UInt8 × Nat) :=
 if (l.drop b).head? = some (2,[64]) then
  match Po (l.drop (b+1+skip (l.drop (b+1)))) with
  | none=>none
  | some (y,q)=>some (x,y,b+1+skip (l.drop (b+1))+q+skip (l.drop (b+1+skip (l.drop (b+1))+q)))
 else none
def take (l:List S):Option (List UInt8 × List UInt8 × Nat) :=
 match Ed (l.drop (skip l)) with
 | none=>none
 | some (x,n)=>Zu l x (skip l+n+skip (l.drop (skip l+n)))
def Ic:List (List UInt8)->List S
 | []=>[]
 | [p]=>[(0,p)]
 | p::q::r=>(0,p)::(2,[46])::Ic (q::r)
def Cr:List (List UInt8)->List UInt8
 | []=>[]
 | [p]=>p
 | p::q::r=>p ++ 46::Cr (q::r)
theorem Ni (l:List UInt8):∃ h t,Lex.Ej l=h::t:=by
 cases l with
 | nil=>exact ⟨_,_,rfl⟩
 | cons c t =>
  rw [Lex.Ej];split
  · exact ⟨_,_,rfl⟩
  · split<;>exact ⟨_,_,rfl⟩
theorem Abo (p:List UInt8) {q:List (List UInt8)} (hq:q ≠ []):Cr (p::q)=p ++ 46::Cr q:=by
 cases q with
 | nil=>exact absurd rfl hq
 | cons a b=>rfl
theorem Z9 (p:List UInt8) {q:List (List UInt8)} (hq:q ≠ []):Ic (p::q)=(0,p)::(2,[46])::Ic q:=by
 cases q with
 | nil=>exact absurd rfl hq
 | cons a b=>rfl
theorem Jf:∀ l:List UInt8,Cr (Lex.Ej l)=l
 | []=>rfl
 | c::t=>by
  have ih:=Jf t;obtain ⟨h,r,e⟩:=Ni t;rw [Lex.Ej];by_cases hc:c.toNat=46
  ·rw [if_pos hc,Abo _ (by rw [e];simp),ih,Lex.Ip hc];rfl
  ·rw [if_neg hc];rw [e] at ih ⊢;simp only;cases r with
   | nil=>show c::h=c::t;rw [<- ih];rfl
   | cons a b=>show c::(h ++ 46::Cr (a::b))=c::t;rw [<- ih];rfl
theorem Hy:∀ (n r:List S),(∀ k ∈ n,Az k=true)->(∀ k t,r=k::t->Az k=false)->skip (n ++ r)=n.length
 | [],r,_,hr=>by
  cases r with
  | nil=>rfl
  | cons k t=>show skip (k::t)=0;rw [skip,hr k t rfl];rfl
 | k::n,r,hn,hr=>by
  rw [jah,skip,hn k jS,if_pos rfl,Hy n r (λx hx=>hn x (by simp [hx])) hr];rfl
def Stop (r:List S):Prop:=∀ k t,r=k::t->k ≠ (2,[46])
theorem Acj {r:List S} (h:Stop r):more r=([],0):=by
 match r,h with
 | [],_=>rfl
 | [_],_=>rfl
 | d::a::t,h=>rw [more,if_neg (λe=>h d _ rfl e.1)]
theorem Aih:∀ (q:List (List UInt8)) (r:List S),Stop r->q ≠ []->more ((2,[46])::(Ic q ++ r))=(46::Cr q,2*q.length)
 | [],r,_,h=>absurd rfl h
 | [p],r,hr,_=>by
  show more ((2,[46])::(0,p)::r)=_;rw [more,if_pos ⟨rfl,rfl⟩,Acj hr];simp [Cr]
 | p::a::b,r,hr,_=>by
  show more ((2,[46])::(0,p)::((2,[46])::(Ic (a::b) ++ r)))=_;rw [more,if_pos ⟨rfl,rfl⟩,Aih (a::b) r hr jS];simp only [jac];exact Prod.ext rfl (by show 2*(b.length+1)+2=_;omega)
theorem Ady:∀ (q:List (List UInt8)),q ≠ []->(Ic q).length+1=2*q.length
 | [],h=>absurd rfl h
 | [p],_=>rfl
 | p::a::b,_=>by
  rw [Z9 p jS];have:=Ady (a::b) jS;simp only [jac] at this ⊢;omega
theorem Adw {q:List (List UInt8)} (hq:q ≠ []) {r:List S} (hr:Stop r):words (Ic q ++ r)=some (Cr q,(Ic q).length):=by
 have hl:=Ady q hq;match q,hq with
 | [p],_ =>
  show words ((0,p)::r)=_;rw [words,if_pos rfl,Acj hr];simp [Cr,Ic]
 | p::a::b,_ =>
  show words ((0,p)::((2,[46])::(Ic (a::b) ++ r)))=_;rw [words,if_pos rfl,Aih (a::b) r hr jS];rw [Abo p jS];simp only [jac] at hl ⊢;congr 2;omega
inductive Says:List UInt8->List S->Prop
 | quote (x:List UInt8):Says x [(1,x)]
 | words {q:List (List UInt8)} (hq:q ≠ []):Says (Cr q) (Ic q)
inductive SaysD:List UInt8->List S->Prop
 | lit (x:List UInt8):SaysD (Lex.Bd 5 x) [(5,x)]
 | words {q:List (List UInt8)} (hq:q ≠ []):SaysD (Cr q) (Ic q)
theorem Mj {q:List (List UInt8)} (hq:q ≠ []):∃ p t,Ic q=(0,p)::t:=by
 match q,hq with
 | [p],_=>exact ⟨p,[],rfl⟩
 | p::a::b,_=>exact ⟨p,_,rfl⟩
theorem Ac6 {x:List UInt8} {P:List S} (h:Says x P):∃ k t,P=k::t/\Az k=false/\(k.1=0\/k.1=1):=by
 cases h with
 | quote=>exact ⟨_,_,rfl,rfl,.inr rfl⟩
 | words hq=>obtain ⟨p,t,e⟩:=Mj hq;exact ⟨_,_,e,rfl,.inl rfl⟩
theorem Anm {x:List UInt8} {P:List S} (h:SaysD x P):∃ k t,P=k::t/\Az k=false/\(k.1=0\/k.1=5):=by
 cases h with
 | lit=>exact ⟨_,_,rfl,rfl,.inr rfl⟩
 | words hq=>obtain ⟨p,t,e⟩:=Mj hq;exact ⟨_,_,e,rfl,.inl rfl⟩
theorem Ac7 {x:List UInt8} {P r:List S} (h:Says x P) (hr:Stop r):Ed (P ++ r)=some (x,P.length):=by
 cases h with
 | quote=>rfl
 | words hq =>
  have hw:=Adw hq hr;obtain ⟨p,t,e⟩:=Mj hq;rw [e,jah] at hw ⊢;rw [Ed,if_neg (by show ¬ ((0:Int)=1);decide)];exact hw
theorem Ann {x:List UInt8} {P r:List S} (h:SaysD x P) (hr:Stop r):Po (P ++ r)=some (x,P.length):=by
 cases h with
 | lit=>rfl
 | words hq =>
  have hw:=Adw hq hr;obtain ⟨p,t,e⟩:=Mj hq;rw [e,jah] at hw ⊢;rw [Po,if_neg (by show ¬ ((0:Int)=5);decide)];exact hw
theorem Nr {n r:List S} (hn:∀ k ∈ n,Az k=true) (hr:Stop r):Stop (n ++ r):=by
 cases n with
 | nil=>exact hr
 | cons k n =>
  intro j t e;rw [jah] at e;injection e with e1 e2
  rw [<- e1];intro e3;have:=hn k jS;rw [e3] at this;cases this
theorem At6 {n0 n1 n2 n3 P D r:List S} {x y:List UInt8} (h0:∀ k ∈ n0,Az k=true) (h1:∀ k ∈ n1,Az k=true) (h2:∀ k ∈ n2,Az k=true) (h3:∀ k ∈ n3,Az k=true) (hP:Says x P) (hD:SaysD y D)
  (hr:Stop r) (hr2:∀ k t,r=k::t->Az k=false):take (n0 ++ (P ++ (n1 ++ ((2,[64])::(n2 ++ (D ++ (n3 ++ r)))))))=some (x,y,(n0 ++ (P ++ (n1 ++ ((2,[64])::(n2 ++ (D ++ n3)))))).length):=by
 obtain ⟨kp,tp,eP,np,-⟩:=Ac6 hP;obtain ⟨kd,td,eD,nd,-⟩:=Anm hD;have hat:Stop ((2,[64])::(n2 ++ (D ++ (n3 ++ r)))):=λk t e=>by injection e with e1 _;rw [<- e1];decide
 have hatn:∀ k t,((2,[64])::(n2 ++ (D ++ (n3 ++ r))):List S)=k::t->Az k=false:=λk t e=>by injection e with e1 _;rw [<- e1];rfl
 have s0:skip (n0 ++ (P ++ (n1 ++ ((2,[64])::(n2 ++ (D ++ (n3 ++ r)))))))=n0.length:=Hy _ _ h0 (λk t e=>by rw [eP,jah] at e;injection e with e1 _;rw [<- e1];exact np);have l0:=Ac7 hP (r:=n1 ++ ((2,[64])::(n2 ++ (D ++ (n3 ++ r))))) (Nr h1 hat);have s1:skip (n1 ++ ((2,[64])::(n2 ++ (D ++ (n3 ++ r)))))=n1.length:=Hy _ _ h1 hatn;have s2:skip (n2 ++ (D ++ (n3 ++ r)))=n2.length:=Hy _ _ h2 (λk t e=>by rw [eD,jah] at e;injection e with e1 _;rw [<- e1];exact nd);have l1:=Ann hD (r:=n3 ++ r) (Nr h3 hr);have s3:skip (n3 ++ r)=n3.length:=Hy _ _ h3 hr2;generalize hR3:n3 ++ r=R3 at *;generalize hR2:D ++ R3=R2 at *;generalize hR1:n2 ++ R2=R1 at *;generalize hRa:n1 ++ (2,[64])::R1=Ra at *;generalize hRp:P ++ Ra=Rp at *;have d0:(n0 ++ Rp).drop n0.length=Rp:=List.drop_left;have d1:(n0 ++ Rp).drop (n0.length+P.length)=Ra:=by rw [<- List.drop_drop,d0,<- hRp,List.drop_left]
 have d2:(n0 ++ Rp).drop (n0.length+P.length+n1.length)=(2,[64])::R1:=by rw [<- List.drop_drop,d1,<- hRa,List.drop_left]
 have d3:(n0 ++ Rp).drop (n0.length+P.length+n1.length+1)=R1:=by rw [<- List.drop_drop,d2];rfl
 have d4:(n0 ++ Rp).drop (n0.length+P.length+n1.length+1+n2.length)=R2:=by rw [<- List.drop_drop,d3,<- hR1,List.drop_left]
 have d5:(n0 ++ Rp).drop (n0.length+P.length+n1.length+1+n2.length+D.length)=R3:=by rw [<- List.drop_drop,d4,<- hR2,List.drop_left]
 unfold take;rw [s0,d0,l0];simp only;rw [d1,s1];unfold Zu;rw [d2,List.head?_cons,if_pos rfl,d3,s2,d4,l1];simp only;rw [d5,s3];simp only [jab,jac];congr 3;omega
end Mbx
end
section
open Utf
namespace Mbx
open Lex
def Jc (r:List UInt8):Prop:=∀ c t,r=c::t->As c=false
theorem So {a:Nat} {p r:List UInt8} {ts:List Tok} (hp:Gm p=true) (hr:Jc r) (h:Cuts (a+p.length) r ts):Cuts a (p ++ r) (⟨0,p,a⟩::ts):=by
 unfold Gm at hp;rw [jag,jar] at hp;have hw:=Oq As p r hp.2 hr;have h1:one (p ++ r)=(0,.fine p p.length):=by
  cases p with
  | nil=>cases hp.1
  | cons c p =>
   rw [jah] at hw ⊢;rw [Ro _ (hp.2 c jS),hw]
 exact .cons h1 (by rw [List.drop_left];exact h)
theorem El {a:Nat} {c:UInt8} {r:List UInt8} {ts:List Tok} (hc:Fh c.toNat=true) (h:Cuts (a+1) r ts):Cuts a (c::r) (⟨2,[c],a⟩::ts):=.cons (Rq r hc) h
theorem Dp {c:UInt8} {r:List UInt8} (h:As c=false):Jc (c::r):=λd t e=>by injection e with e1 _;rw [<- e1];exact h
theorem Yj:Jc []:=λ_ _ e=>by cases e
theorem Agy {r:List UInt8} {ts:List Tok} (hr:Jc r):∀ (q:List (List UInt8)) (a:Nat),q ≠ []->(∀ p ∈ q,Gm p=true)->Cuts (a+(Cr q).length) r ts->∃ ws:List Tok,Cuts a (Cr q ++ r) (ws ++ ts)/\ws.map Cy=Ic q
 | [],_,h,_,_=>absurd rfl h
 | [p],a,_,hp,h=>⟨[⟨0,p,a⟩],So (hp p jS) hr h,rfl⟩
 | p::x::y,a,_,hp,h=>by
  have hd:Cr (p::x::y)=p ++ 46::Cr (x::y):=rfl;rw [hd] at h ⊢;obtain ⟨ws,hw,hm⟩:=Agy hr (x::y) (a+p.length+1) jS (λz hz=>hp z (by simp [hz])) (by rw [jab,jac] at h;rw [show a+p.length+1+(Cr (x::y)).length=a+(p.length+((Cr (x::y)).length+1)) by omega];exact h);refine ⟨⟨0,p,a⟩::⟨2,[46],a+p.length⟩::ws,?_,?_⟩
  ·rw [jaq];exact So (hp p jS) (Dp jD) (El jD hw)
  ·rw [List.map_cons,List.map_cons,hm,Z9 p jS];rfl
theorem Adx {r:List UInt8} {ts:List Tok} (hr:Jc r) {l:List UInt8} {a:Nat} (hl:Ef l=true) (h:Cuts (a+l.length) r ts):∃ ws:List Tok,Cuts a (l ++ r) (ws ++ ts)/\ws.map Cy=Ic (Ej l):=by
 obtain ⟨x,y,e⟩:=Ni l;have hd:=Jf l;unfold Ef at hl;rw [jar] at hl;have:=Agy hr (Ej l) a (by rw [e];simp) hl (by rw [hd];exact h);rwa [hd] at this
theorem Acs {a:Nat} {x r:List UInt8} {ts:List Tok} (hx:∀ b ∈ x,Ao b=true) (h:Cuts (a+(Bd 1 x).length) r ts):Cuts a (Bd 1 x ++ r) (⟨1,x,a⟩::ts):=by
 have hs:Bd 1 x=34::(esc x ++ [34]):=rfl;have h1:one (Bd 1 x ++ r)=(1,.fine x (Bd 1 x).length):=by
  rw [hs,jah,jaq,We 34 _ rfl];show (1,(quo (esc x ++ 34::r)).top)=_;rw [Y9 x r hx];simp only [Cut.top,jac,jab,List.length_nil]
 exact .cons h1 (by rw [List.drop_left];exact h)
def Aew:List UInt8->Bool
 | []=>false
 | c::t=>decide (c.toNat=91) && match lit t with
  | .fine _ n=>decide (n=t.length)
  | _=>false
theorem A13 {y:List UInt8} (h:Aew y=true):∃ x,y=Bd 5 x/\∀ r,lit (x ++ 93::r)=.fine x (x.length+1):=by
 cases y with
 | nil=>cases h
 | cons c t =>
  rw [Aew,jag,decide_eq_true_eq] at h;obtain ⟨hc,h⟩:=h;cases hl:lit t with
  | fine x n =>
   rw [hl] at h;obtain ⟨g1,g2,g3,g4⟩:=Nb t x n hl;have hn:n=t.length:=by simpa using h
   rw [hn,List.take_length] at g3;have hxl:n=x.length+1:=by rw [hn,<- g3];simp
   refine ⟨x,by rw [<- g3,Ip hc];rfl,λr=>?_⟩;have:=g4 r;rw [hn,List.take_length,<- g3,jaq] at this;rw [show x.length+1=(x ++ [(93:UInt8)]).length by simp];exact this
  | bad i=>rw [hl] at h;cases h
  | gap=>rw [hl] at h;cases h
  | deep i=>rw [hl] at h;cases h
theorem A0g {a:Nat} {y r:List UInt8} {ts:List Tok} (hy:Aew y=true) (h:Cuts (a+y.length) r ts):∃ x,y=Bd 5 x/\Cuts a (y ++ r) (⟨5,x,a⟩::ts):=by
 obtain ⟨x,rfl,hl⟩:=A13 hy;refine ⟨x,rfl,?_⟩;have hs:Bd 5 x=91::(x ++ [93]):=rfl;have h1:one (Bd 5 x ++ r)=(5,.fine x (Bd 5 x).length):=by
  rw [hs,jah,jaq,Wd 91 _ rfl];show (5,(lit (x ++ 93::r)).top)=_;rw [hl r];simp only [Cut.top,jac,jab,List.length_nil]
 exact .cons h1 (by rw [List.drop_left];exact h)
def Dt (x:List UInt8):List UInt8:=if Ef x then x else Bd 1 x
theorem Ar3 {a:Nat} {x r:List UInt8} {ts:List Tok} (hx:∀ b ∈ x,Ao b=true) (hr:Jc r) (h:Cuts (a+(Dt x).length) r ts):∃ (ws:List Tok) (P:List S),Cuts a (Dt x ++ r) (ws ++ ts)/\ws.map Cy=P/\Says x P:=by
 unfold Dt at h ⊢;cases hw:Ef x with
 | true =>
  rw [hw] at h;obtain ⟨ws,h1,h2⟩:=Adx hr hw h;obtain ⟨p,q,e⟩:=Ni x;have hs:Says (Cr (Ej x)) (Ic (Ej x)):=.words (by rw [e];simp);rw [Jf] at hs;exact ⟨ws,_,h1,h2,hs⟩
 | false =>
  rw [hw] at h;exact ⟨[⟨1,x,a⟩],[(1,x)],Acs hx h,rfl,.quote x⟩
def Avj (y:List UInt8):Bool:=Ef y || Aew y
theorem Azm {a:Nat} {y r:List UInt8} {ts:List Tok} (hy:Avj y=true) (hr:Jc r) (h:Cuts (a+y.length) r ts):∃ (ws:List Tok) (D:List S),Cuts a (y ++ r) (ws ++ ts)/\ws.map Cy=D/\SaysD y D:=by
 unfold Avj at hy;rw [Bool.or_eq_true] at hy;rcases hy with hw | hl
 ·obtain ⟨ws,h1,h2⟩:=Adx hr hw h;obtain ⟨p,q,e⟩:=Ni y;have hs:SaysD (Cr (Ej y)) (Ic (Ej y)):=.words (by rw [e];simp);rw [Jf] at hs;exact ⟨ws,_,h1,h2,hs⟩
 ·obtain ⟨x,hx,h1⟩:=A0g hl h;subst hx;exact ⟨[⟨5,x,a⟩],[(5,x)],h1,rfl,.lit x⟩
def Gap (n:List UInt8) (r:List UInt8):Prop:=∀ (a:Nat) (ts:List Tok),Cuts (a+n.length) r ts->∃ ws:List Tok,Cuts a (n ++ r) (ws ++ ts)/\∀ k ∈ ws.map Cy,Az k=true
end Mbx
end
section
open Go.RowKit Utf
namespace Mbx
def Ps (x:Int):Bool:=!(decide (0<=x) && decide (x<128)) || Lex.Ur x.toNat
theorem Ati:∀ n,n<128->(Ps ((n:Nat):Int) || (!Lab.Ca ((n:Nat):Int) && !Ctx.Cg ((n:Nat):Int) && Wall.Br ((n:Nat):Int) && !Bidi.Bw ((n:Nat):Int)))=true:=by decide +kernel
theorem Akw {x:Int} (h:Ps x=false):(Lab.Ca x=false/\Ctx.Cg x=false/\Wall.Br x=true/\Bidi.Bw x=false)/\0<=x/\x<128/\Lex.Ur x.toNat=false:=by
 have h0:=h;unfold Ps at h;simp only [Bool.or_eq_false_iff,Bool.not_eq_false',jag,decide_eq_true_eq] at h;obtain ⟨⟨h1,h2⟩,h3⟩:=h;have:=Ati x.toNat jO;rw [show ((x.toNat:Nat):Int)=x by omega,h0] at this;simp only [Bool.false_or,jag,Bool.not_eq_true'] at this;exact ⟨⟨this.1.1.1,this.1.1.2,this.1.2,this.2⟩,h1,h2,h3⟩
theorem Ko (c:UInt8):Ps (c.toNat:Int)=true ↔ Lex.As c=true:=by
 unfold Ps Lex.As;by_cases h:c.toNat<128
 ·rw [decide_eq_true (show (0:Int)<=(c.toNat:Int) by omega),decide_eq_true (show (c.toNat:Int)<128 by omega)];simp
 ·rw [decide_eq_false (show ¬ (c.toNat:Int)<128 by omega)];unfold Lex.Ur;rw [decide_eq_true (show 128<=c.toNat by omega)];simp
theorem Arl {c:UInt8} (h:128<=c.toNat):Lex.As c=true:=(Ko c).1 (by unfold Ps;rw [decide_eq_false (show ¬ (c.toNat:Int)<128 by omega)];simp)
theorem Adv {l:List Int} (h:Lab.Em l=0):∀ x ∈ l,Ps x=true:=by
 have hb:Lab.Gt l=false:=by
  unfold Lab.Em at h;split at h
  ·omega
  ·split at h
   ·omega
   ·split at h
    ·omega
    ·split at h
     ·omega
     ·rename_i h4
      simpa using h4
 intro x hx;obtain ⟨k,hk,rfl⟩:=List.getElem_of_mem hx;unfold Lab.Gt at hb;rw [List.any_eq_false] at hb;have h1:=hb k (List.mem_range.2 hk);rw [Bool.or_eq_true,not_or,getElem!_pos l k hk] at h1;cases hd:Ps l[k] with
 | true=>rfl
 | false =>
  exfalso;obtain ⟨hc,-⟩:=Akw hd;refine h1.2 ?_;rw [Ctx.Is hk,getElem!_pos l k hk,hc.1,hc.2.1];rfl
theorem Ara {l:List Int} (h:Af l=true) (hd:∀ x ∈ l,Ps x=true):∀ c ∈ Puny.Bk l,Lex.As c=true:=by
 have hp:∀ x ∈ l,0<=x:=λx hx=>by
  have:=jar.1 (show l.all Ai=true from h) x hx;have:=(Al x).1 this;omega
 intro c hc;unfold Puny.Bk at hc;rcases jap.1 hc with hc | hc
 ·rcases jap.1 hc with hc | hc
  ·unfold Puny.Bg at hc;obtain ⟨x,hx,rfl⟩:=List.mem_map.1 hc;have hm:x ∈ l/\x<128:=by
    unfold Puny.lt at hx;have:=List.mem_filter.1 hx;exact ⟨this.1,by simpa using this.2⟩
   have hx0:=hp x hm.1;refine (Ko _).1 ?_;have e:(((u x.toNat).toNat:Nat):Int)=x:=by rw [Ba jO];omega
   show Ps (((u x.toNat).toNat:Nat):Int)=true;rw [e];exact hd x hm.1
  ·unfold Puny.Kk at hc;split at hc
   ·cases hc
   ·rw [List.mem_singleton.1 hc];decide
 ·unfold Puny.Cv at hc;obtain ⟨x,hx,rfl⟩:=List.mem_map.1 hc;obtain ⟨h0,h1⟩:=Puny.Ln _ _ _ _ (Puny.Gx (Eo h)) x hx;have:∀ i:Nat,i<36->Lex.As (Puny.Jo (i:Int))=true:=by decide +kernel
  have:=this x.toNat jO;rwa [show ((x.toNat:Nat):Int)=x by omega] at this
theorem Ama {L:List Int} (hr:Af L=true) {a u:List UInt8} (h:Lab.D9 L=(0,a,u)):∀ x ∈ L,Ps x=true:=by
 unfold Lab.D9 at h;by_cases h1:Lab.Eg (Ah L)=false
 ·rw [if_pos h1] at h;by_cases h2:Lab.Em L=0
  ·exact Adv h2
  ·rw [if_neg h2] at h;injection h with e1 e2
   exact absurd e1 h2
 ·rw [if_neg h1] at h;have ha:∀ c ∈ Ah L,c.toNat<128:=Lab.F1.1 (by simpa using h1);have hch:Lab.chars (Ah L)=L:=Lab.Jg (Lab.Eb ha) hr (En _ ha)
  suffices hb:∀ c ∈ Ah L,Lex.As c=true by
   intro x hx;rw [<- hch] at hx;obtain ⟨c,hc,rfl⟩:=List.mem_map.1 hx;exact (Ko c).2 (hb c hc)
  by_cases h3:(Ah L).take 4=Lab.sign
  ·rw [if_pos h3] at h;cases hd:Puny.Hq ((Ah L).drop 4) with
   | none =>
    rw [hd] at h;simp only at h;injection h with e1 e2
    exact absurd e1 jD
   | some l =>
    rw [hd] at h;simp only at h;by_cases h4:63<(Ah L).length
    ·rw [if_pos h4] at h;injection h with e1 e2
     exact absurd e1 jD
    ·rw [if_neg h4] at h;by_cases h5:Lab.Em l ≠ 0
     ·rw [if_pos h5] at h;injection h with e1 e2
      exact absurd e1 h5
     ·rw [if_neg h5] at h;rw [Decidable.not_not] at h5;by_cases h6:Puny.Bk l ≠ (Ah L).drop 4
      ·rw [if_pos h6] at h;injection h with e1 e2
       exact absurd e1 jD
      ·rw [Decidable.not_not] at h6;obtain ⟨hrl,-,-⟩:=Puny.Aej hd;have hcat:Lab.sign ++ Puny.Bk l=Ah L:=by rw [h6,<- h3,List.take_append_drop]
       intro c hc;rw [<- hcat] at hc;rcases jap.1 hc with hc | hc
       ·exact (by decide:∀ c ∈ Lab.sign,Lex.As c=true) c hc
       ·exact Ara hrl (Adv h5) c hc
  ·rw [if_neg h3] at h;by_cases h4:Lab.Fy (Ah L)=0
   ·unfold Lab.Fy at h4;split at h4
    ·omega
    ·split at h4
     ·omega
     ·split at h4
      ·omega
      ·rename_i h5
       intro c hc;refine (Ko c).1 ?_;cases hg:Ps (c.toNat:Int) with
       | true=>rfl
       | false =>
        exfalso;obtain ⟨⟨-,-,-,h6⟩,-⟩:=Akw hg;have h7:((Ah L).all λc=>Bidi.Bw (c.toNat:Int))=true:=by simpa using h5
        have:=jar.1 h7 c hc;rw [h6] at this;cases this
   ·rw [if_neg h4] at h;injection h with e1 e2
    exact absurd e1 h4
theorem Ae0:∀ {L:List Int} {x:Int},x ∈ L->Dom.Cb x=false->∃ P ∈ Dom.cut L,x ∈ P
 | y::L,x,h,hx=>by
  obtain ⟨a,t,e⟩:=Dom.Fl L;rw [Dom.cut];by_cases hy:Dom.Cb y=true
  ·rw [if_pos hy];rcases jal.1 h with rfl | h
   ·rw [hx] at hy;cases hy
   ·obtain ⟨P,hP,hm⟩:=Ae0 h hx;exact ⟨P,List.mem_cons_of_mem _ hP,hm⟩
  ·rw [if_neg hy,e];rcases jal.1 h with rfl | h
   ·exact ⟨x::a,by simp,by simp⟩
   ·obtain ⟨P,hP,hm⟩:=Ae0 h hx;rw [e] at hP;rcases jal.1 hP with rfl | hP
    · exact ⟨y::P,by simp,by simp [hm]⟩
    · exact ⟨P,by simp [hP],hm⟩
theorem Aym:∀ l:List Int,(46 ∉ l)\/∃ q r,l=q ++ 46::r/\46 ∉ q
 | []=>.inl jS
 | x::l=>by
  by_cases hx:x=46
  ·exact .inr ⟨[],l,by rw [hx];rfl,by simp⟩
  ·rcases Aym l with h | ⟨q,r,e,h⟩
   · exact .inl (by simp only [jal,not_or];exact ⟨λe=>hx e.symm,h⟩)
   · exact .inr ⟨x::q,r,by rw [e];rfl,by simp only [jal,not_or];exact ⟨λe=>hx e.symm,h⟩⟩
theorem Kl:∀ {l:List UInt8},(∀ c ∈ l,c.toNat ≠ 46)->Lex.Ej l=[l]
 | [],_=>rfl
 | c::t,h=>by rw [Lex.Ej,if_neg (h c jS),Kl (λb hb=>h b (by simp [hb]))]
theorem Agw:∀ {p:List UInt8} (t:List UInt8),(∀ c ∈ p,c.toNat ≠ 46)->Lex.Ej (p ++ 46::t)=p::Lex.Ej t
 | [],t,_=>by rw [List.nil_append,Lex.Ej,if_pos jD]
 | c::p,t,h=>by rw [jah,Lex.Ej,if_neg (h c jS),Agw t (λb hb=>h b (by simp [hb]))]
theorem Yw {q:List Int} (hr:Af q=true) (h46:46 ∉ q) (h:∀ P ∈ Dom.cut (Fold.fold q),P ≠ []/\∀ x ∈ P,Ps x=true):Lex.Gm (Ah q)=true/\∀ c ∈ Ah q,c.toNat ≠ 46:=by
 constructor
 ·unfold Lex.Gm;rw [jag,jar];constructor
  ·cases q with
   | nil=>exact absurd rfl (h [] jD).1
   | cons x t =>
    have:0<(Ah (x::t)).length:=by
     have:=Gh (x::t);unfold Ah;rw [jao,jab];have:0<(enc x.toNat).length:=by unfold enc;split<;>(try split)<;>(try split)<;>simp
     omega
    cases he:Ah (x::t) with
    | nil=>rw [he] at this;cases this
    | cons a b=>rfl
  ·intro c hc;by_cases h128:c.toNat<128
   ·have hm:=Prec.Ad9 hr hc h128;rw [<- Ko];cases hg:Ps (c.toNat:Int) with
    | true=>rfl
    | false =>
     exfalso;obtain ⟨⟨-,-,hw,-⟩,-⟩:=Akw hg;obtain ⟨s,t,rfl⟩:=List.append_of_mem hm;have hfold:=Wall.Vy hw s t;have hd:Dom.Cb (c.toNat:Int)=false:=by
      unfold Dom.Cb;rw [Bool.or_eq_false_iff,beq_eq_false_iff_ne,beq_eq_false_iff_ne];exact ⟨λe=>h46 (by rw [e];simp),by omega⟩
     obtain ⟨P,hP,hx⟩:=Ae0 (L:=Fold.fold (s ++ (c.toNat:Int)::t)) (x:=(c.toNat:Int)) (by rw [hfold];simp) hd;have:=(h P hP).2 _ hx;rw [hg] at this;cases this
   ·exact Arl jO
 ·intro c hc e;have:=Prec.Ad9 hr hc jO;rw [e] at this;exact h46 this
theorem Aod (n:Nat):∀ l:List Int,l.length<=n->Af l=true->(∀ P ∈ Dom.cut (Fold.fold l),P ≠ []/\∀ x ∈ P,Ps x=true)->Lex.Ef (Ah l)=true:=by
 induction n with
 | zero =>
  intro l hl hr h;obtain rfl:l=[]:=List.eq_nil_of_length_eq_zero jO;exact absurd rfl (h [] jD).1
 | succ n ih =>
  intro l hl hr h;unfold Lex.Ef;rcases Aym l with h46 | ⟨q,r,rfl,h46⟩
  ·obtain ⟨h1,h2⟩:=Yw hr h46 h;rw [Kl h2,List.all_cons,h1];rfl
  ·have hrq:Af q=true/\Af r=true:=by
    unfold Af at hr ⊢;rw [List.all_append,List.all_cons,jag,jag] at hr;exact ⟨hr.1,hr.2.2⟩
   rw [Dom.Ahc,Dom.Aec] at h;obtain ⟨h1,h2⟩:=Yw hrq.1 h46 (λP hP=>h P (jap.2 (.inl hP)));have h3:=ih r (by rw [jab,jac] at hl;omega) hrq.2 (λP hP=>h P (jap.2 (.inr hP)));unfold Lex.Ef at h3;rw [Dom.Ao0,Agw _ h2,List.all_cons,h1,h3];rfl
theorem Aq3 {y a u:List UInt8} (h:Dom.Eh y=(0,a,u)):Lex.Ef y=true:=by
 obtain ⟨l,hr,rfl,h0,h1,h2,-⟩:=Dom.Vv h;refine Aod _ l (jaa _) hr λP hP=>?_;have hrP:Af P=true:=Dom.N9 (Ds hr) P hP;have hf:Fold.fold P=P:=Dom.Yx l P hP;have h3:=h2 P hP;constructor
 ·rintro rfl;exact absurd h3 (by decide +kernel)
 ·unfold Dom.Db at h3;rw [Lab.Fa hrP,hf] at h3;obtain ⟨⟨e,b,v⟩,hb⟩:∃ p,Lab.D9 P=p:=⟨_,rfl⟩
  rw [hb] at h3;obtain rfl:e=0:=h3;exact Ama hrP hb
open Norm in
def Mi (r:Int):Bool:=decide ((Norm.pieces false (Fold.fo r)).length<=(enc r.toNat).length)
theorem Ar8:∀ y ∈ lowers,∀ i ∈ List.range (y.hi - y.lo+1).toNat,Mi (y.lo+i)=true:=by decide +kernel
theorem Ajy:∀ y ∈ splits,Mi y.rune=true:=by decide +kernel
theorem Aob:∀ i ∈ List.range 94,Mi (65281+i)=true:=by decide +kernel
theorem Lo (n:Nat):0<(enc n).length:=by unfold enc;split<;>(try split)<;>(try split)<;>simp
theorem Ayv {r:Int}:Mi r=true:=by
 cases hs:Norm.syl r with
 | true =>
  unfold Mi;rw [Fold.V9 hs,decide_eq_true_eq];have e:Norm.pieces false r=Norm.Cu r:=by rw [Norm.A9,hs];rfl
  have h2:44032<=r/\r<=55203:=by simpa [Norm.syl] using hs
  have h3:(enc r.toNat).length=3:=by
   unfold enc;rw [if_neg jO,if_neg jO,if_pos jO];rfl
  rw [e,h3];unfold Norm.Cu;split<;>simp
 | false =>
  cases hw:Bj r with
  | true =>
   simp only [Bj,jag,decide_eq_true_eq] at hw;have:=Aob (r - 65281).toNat (by rw [List.mem_range];omega);rwa [show (65281:Int)+((r - 65281).toNat:Int)=r by omega] at this
  | false =>
   cases hp:Ak r with
   | some y =>
    rcases Bi hp with ⟨hy,rfl⟩ | ⟨hw',-⟩
    ·exact Ajy y hy
    ·rw [hw] at hw';cases hw'
   | none =>
    have hn:Fold.narrow r=r:=by unfold Fold.narrow;rw [hw];rfl
    cases hl:Lv r with
    | some y =>
     obtain ⟨h1,h2,h3⟩:=C8 hl;have:=Ar8 y h1 (r - y.lo).toNat (by rw [List.mem_range];omega);rwa [show y.lo+((r - y.lo).toNat:Int)=r by omega] at this
    | none =>
     have e:Norm.pieces false r=[r]:=by rw [Norm.A9,hs,hp];rfl
     have hf:Fold.fo r=r:=by unfold Fold.fo Fo;rw [hn,hl]
     unfold Mi;rw [hf,e,decide_eq_true_eq];exact Lo _
theorem Ade:∀ l:List Int,(Norm.split false (l.map Fold.fo)).length<=(Ah l).length
 | []=>by simp [Norm.split]
 | x::l=>by
  have ih:=Ade l;have hx:=Ayv (r:=x);unfold Mi at hx;rw [decide_eq_true_eq] at hx;unfold Norm.split at ih ⊢
  unfold Ah at ih ⊢;rw [List.map_cons,jao,jao,jab,jab];omega
theorem Xg (l:List Int):(Norm.down false (l.map Fold.fo)).length<=(Ah l).length:=by
 have h1:=Ade l;have h2:=Afi (Norm.Hd (Norm.split false (l.map Fold.fo)));unfold Norm.down;omega
theorem Alx (l:List Int):(Fold.fold l).length<=(Ah l).length:=by
 have h1:=Xg l;have h3:=Ab7 (Norm.down false (l.map Fold.fo));unfold Fold.fold;omega
end Mbx
theorem Aw1 {s:ByteArray} (hs:s.size<=400):De s:=by
 refine ⟨by omega,λm hm=>?_⟩;obtain ⟨-,h2⟩:=Lab.Pb (s:=s.data.toList) (by rw [hm]);rw [hm] at h2;simp only at h2;have h3:=Mbx.Alx (ints m);have h5:=Mbx.Xg (ints m);have h4:s.data.toList=Ah (ints m):=h2;rw [<- h4] at h3 h5;have e:s.data.toList.length=s.size:=by simp
 have hml:m.length<=400:=by have:=(D6 hm).2.1;simp at this;omega
 have hil:(ints m).length=m.length:=by simp [ints]
 exact ⟨⟨by omega,hm,by omega,by omega⟩,by omega⟩
end
section
open Go.RowKit Utf
namespace Mbx
open Lex (Cuts Tok Ao Fm Bd Ef Gm ok esc As An)
def J6 (y:List UInt8):Bool:=y.head? == some 91
def Na (y:List UInt8):Bool:=decide ((Aq y).2=-1) && Aew y
def Dc (x y:List UInt8):Int :=
 if x=[] then 13 else if 64<x.length then 5 else if (Aq x).2 ≠ -1 then 7 else if x.all Ao=false then 8
 else if J6 y=true then (if Na y then 0 else 4) else (Dom.Eh y).1
def Am7 (x y:List UInt8):List UInt8:=Dt x ++ 64::y
def Jm (E:Int) (ts:List Tok):Int × List UInt8 × List UInt8 :=
 if E ≠ 0 then (E,[],[]) else match take (ts.map Lex.Cy) with
  | none=>(4,[],[])
  | some (x,y,n)=>if n=ts.length then (if Dc x y=0 then (0,x,y) else (Dc x y,[],[])) else (4,[],[])
def Ty (s:List UInt8):Int × List UInt8 × List UInt8:=Jm (Fm s).1 (Fm s).2.2
theorem Aji {x y:List UInt8} (h:Dc x y=0):x ≠ []/\x.length<=64/\ok x/\(∀ b ∈ x,Ao b=true)/\((J6 y=true/\Na y=true)\/(J6 y=false/\(Dom.Eh y).1=0)):=by
 unfold Dc at h;by_cases h1:x=[]
 ·rw [if_pos h1] at h;exact absurd h jD
 rw [if_neg h1] at h;by_cases h2:64<x.length
 ·rw [if_pos h2] at h;exact absurd h jD
 rw [if_neg h2] at h;by_cases h3:(Aq x).2 ≠ -1
 ·rw [if_pos h3] at h;exact absurd h jD
 rw [if_neg h3] at h;by_cases h4:x.all Ao=false
 ·rw [if_pos h4] at h;exact absurd h jD
 rw [if_neg h4] at h;refine ⟨h1,by omega,(show (Aq x).2=-1 from Decidable.not_not.1 h3),jar.1 (by simpa using h4),?_⟩;by_cases h5:J6 y=true
 ·rw [if_pos h5] at h;by_cases h6:Na y=true
  · exact .inl ⟨h5,h6⟩
  · rw [if_neg h6] at h;exact absurd h jD
 ·rw [if_neg h5] at h;exact .inr ⟨by simpa using h5,h⟩
theorem A1s {y:List UInt8} (h:(Dom.Eh y).1=0):ok y/\Ef y=true:=by
 obtain ⟨⟨e,a,u⟩,hb⟩:∃ p,Dom.Eh y=p:=⟨_,rfl⟩
 rw [hb] at h;obtain rfl:e=0:=h;obtain ⟨l,hr,e,-⟩:=Dom.Vv hb;exact ⟨(Lex.Ng y).2 ⟨l,hr,e⟩,Aq3 hb⟩
theorem Atd {x y:List UInt8} (h:Dc x y=0):ok y/\Avj y=true:=by
 obtain ⟨-,-,-,-,h⟩:=Aji h;unfold Avj;rcases h with ⟨-,h⟩ | ⟨-,h⟩
 ·unfold Na at h;rw [jag,decide_eq_true_eq] at h;exact ⟨h.1,by rw [h.2,Bool.or_true]⟩
 ·obtain ⟨h1,h2⟩:=A1s h;exact ⟨h1,by rw [h2];rfl⟩
theorem Ae3:∀ (x pre:List UInt8),ok (pre ++ x)->ok (pre ++ esc x)
 | [],pre,h=>h
 | c::t,pre,h=>by
  by_cases hs:c.toNat=34\/c.toNat=92
  ·have hc:c.toNat<128:=jO
   obtain ⟨h1,h2⟩:=Lex.Nh hc h;rw [Lex.Alw hs];have h3:=Ae3 t [] h2;have h4:ok [92,c]:=Lex.Cs λb hb=>by
    simp only [jal,List.not_mem_nil,or_false] at hb;rcases hb with rfl | rfl
    · decide
    · exact hc
   exact Lex.Du h1 (Lex.Du h4 h3)
  ·rw [Lex.Xm hs];have:=Ae3 t (pre ++ [c]) (by rw [jaq];exact h);rw [jaq] at this;exact this
theorem Aww {x:List UInt8} (h:ok x):ok (Dt x):=by
 unfold Dt;split
 ·exact h
 ·have h1:ok (esc x):=Ae3 x [] h;have h2:ok [(34:UInt8)]:=Lex.Cs jD;exact Lex.Du h2 (Lex.Du h1 h2)
theorem Acd (x:List UInt8):(Dt x).length<=2*x.length+2:=by
 unfold Dt;split
 ·omega
 ·have:=Lex.Aen x;rw [Bd,if_neg jD,if_neg jD,if_pos rfl];simp only [jac,jab,List.length_nil];omega
theorem Qz {s:List UInt8} {ts:List Tok} (hl:s.length<=2000) (ho:ok s) (h:Cuts 0 s ts):Fm s=(0,0,ts):=by
 have ho':(Aq s).2=-1:=ho;unfold Fm;rw [if_neg jO,if_pos ho',Lex.A1l h _ (jaa _)]
def Dq (l:List S):List UInt8:=l.flatMap λk=>Bd k.1 k.2
theorem Kv:∀ ts:List Tok,Dq (ts.map Lex.Cy)=Lex.outs ts
 | []=>rfl
 | k::ts=>by
  have ih:=Kv ts;unfold Dq at ih ⊢;rw [List.map_cons,jao,ih];rfl
theorem A1i {k:Int} (h:k=0) (x:List UInt8):Bd k x=x:=by subst h;rfl
theorem Aii:∀ l:List S,(more l).1.length<=(Dq l).length/\(more l).2<=l.length
 | []=>⟨jaa _,jaa _⟩
 | [_]=>⟨Nat.zero_le _,Nat.zero_le _⟩
 | d::a::t=>by
  obtain ⟨h1,h2⟩:=Aii t;rw [more];by_cases h:d=(2,[46])/\a.1=0
  ·rw [if_pos h];unfold Dq at h1 ⊢;rw [jao,jao,A1i h.2,h.1];simp only [jac,jab,show (Bd 2 [46]).length=1 from rfl];omega
  ·rw [if_neg h];exact ⟨Nat.zero_le _,Nat.zero_le _⟩
theorem Un {l:List S} {y:List UInt8} {n:Nat} (h:words l=some (y,n)):y.length<=(Dq l).length/\n<=l.length/\0<n:=by
 cases l with
 | nil=>cases h
 | cons k t =>
  rw [words] at h;by_cases hk:k.1=0
  ·rw [if_pos hk] at h;injection h with h
   injection h with h1 h2
   subst h1 h2;obtain ⟨g1,g2⟩:=Aii t;unfold Dq at g1 ⊢;rw [jao,A1i hk];simp only [jac,jab];omega
  ·rw [if_neg hk] at h;cases h
theorem Aox {l:List S} {y:List UInt8} {n:Nat} (h:Po l=some (y,n)):y.length<=(Dq l).length/\n<=l.length/\0<n:=by
 cases l with
 | nil=>cases h
 | cons k t =>
  rw [Po] at h;by_cases hk:k.1=5
  ·rw [if_pos hk] at h;injection h with h
   injection h with h1 h2
   subst h1 h2;unfold Dq;rw [jao,hk];simp only [jac,jab];omega
  ·rw [if_neg hk] at h;exact Un h
theorem Amg {l:List S} {y:List UInt8} {n:Nat} (h:Ed l=some (y,n)):n<=l.length/\0<n:=by
 cases l with
 | nil=>cases h
 | cons k t =>
  rw [Ed] at h;by_cases hk:k.1=1
  ·rw [if_pos hk] at h;injection h with h
   injection h with h1 h2
   subst h1 h2;simp only [jac];omega
  ·rw [if_neg hk] at h;exact (Un h).2
theorem Zj:∀ l:List S,skip l<=l.length
 | []=>jaa _
 | k::t=>by
  have:=Zj t;rw [skip,jac];split<;>omega
theorem Iz:∀ (l:List S) (n:Nat),(Dq (l.drop n)).length<=(Dq l).length
 | l,0=>jaa _
 | [],n+1=>jaa _
 | k::t,n+1=>by
  have:=Iz t n;rw [List.drop_succ_cons];unfold Dq at this ⊢;rw [jao,jab];omega
theorem Adh {l:List S} {x x' y:List UInt8} {b n:Nat} (h:Zu l x b=some (x',y,n)):x'=x/\y.length<=(Dq l).length/\n<=l.length:=by
 unfold Zu at h;by_cases hh:(l.drop b).head? = some (2,[64])
 ·rw [if_pos hh] at h;cases hd:Po (l.drop (b+1+skip (l.drop (b+1)))) with
  | none=>rw [hd] at h;cases h
  | some p =>
   obtain ⟨z,q⟩:=p;rw [hd] at h;simp only at h;injection h with h
   injection h with h1 h2
   injection h2 with h2 h3
   subst h1 h2 h3;obtain ⟨g1,g2,g3⟩:=Aox hd;have g4:=Iz l (b+1+skip (l.drop (b+1)));rw [jaj] at g2;have g5:=Zj (l.drop (b+1+skip (l.drop (b+1))+q));rw [jaj] at g5;exact ⟨rfl,by omega,by omega⟩
 ·rw [if_neg hh] at h;cases h
theorem take_len {l:List S} {x y:List UInt8} {n:Nat} (h:take l=some (x,y,n)):y.length<=(Dq l).length/\n<=l.length:=by
 unfold take at h;cases hx:Ed (l.drop (skip l)) with
 | none=>rw [hx] at h;cases h
 | some p =>
  obtain ⟨z,q⟩:=p;rw [hx] at h;exact (Adh h).2
theorem Awr {s x y:List UInt8} {ts:List Tok} {n:Nat} (h:Fm s=(0,0,ts)) (ht:take (ts.map Lex.Cy)=some (x,y,n)):y.length<=s.length:=by
 rcases Lex.I7 s with ⟨-,e⟩ | ⟨-,E,p,e,h1,-⟩ | ⟨-,us,e,hc,-⟩
 ·rw [e] at h;injection h with h _;cases h
 ·rw [e] at h;injection h with h _
  omega
 ·rw [e] at h;injection h with _ h
  injection h with _ h
  subst h;have h1:=(take_len ht).1;rw [Kv] at h1;have h2:=(Lex.Ru hc).1;omega
end Mbx
end
section
open Go.RowKit Utf
namespace Mbx
open Lex (Bd esc Cuts Tok)
theorem Jh:∀ x:List UInt8,x.length<=(esc x).length
 | []=>jaa _
 | c::t=>by
  have:=Jh t;rw [esc];split<;>simp only [jac]<;>omega
theorem Aj0 (k:Int) (x:List UInt8):x.length<=(Bd k x).length:=by
 have:=Jh x;unfold Bd;split
 ·simp only [jac,jab];omega
 ·split
  ·simp only [jac,jab];omega
  ·split
   · simp only [jac,jab];omega
   · exact jaa _
theorem Kz:∀ (l:List S) (k:S),k ∈ l->k.2.length<=(Dq l).length
 | j::t,k,h=>by
  unfold Dq;rw [jao,jab];rcases jal.1 h with rfl | h
  ·have:=Aj0 k.1 k.2;omega
  ·have:=Kz t k h;unfold Dq at this;omega
theorem Amh {l:List S} {z:List UInt8} {q:Nat} (h:Ed l=some (z,q)):z.length<=(Dq l).length:=by
 cases l with
 | nil=>cases h
 | cons k t =>
  rw [Ed] at h;by_cases hk:k.1=1
  ·rw [if_pos hk] at h;injection h with h
   injection h with h1 h2
   subst h1;exact Kz (k::t) k jS
  ·rw [if_neg hk] at h;exact (Un h).1
theorem Adk {l:List S} {x y:List UInt8} {n:Nat} (h:take l=some (x,y,n)):x.length<=(Dq l).length:=by
 unfold take at h;cases hx:Ed (l.drop (skip l)) with
 | none=>rw [hx] at h;cases h
 | some p =>
  obtain ⟨z,q⟩:=p;rw [hx] at h;rw [(Adh h).1];exact Nat.le_trans (Amh hx) (Iz l _)
end Mbx
end
section
open Utf
namespace Mbx
open Lex (Cuts Tok Fm Bd ok)
theorem Ah9:∀ x r:List UInt8,x.all M8=true->Lex.lit (x ++ 93::r)=.fine x (x.length+1)
 | [],r,_=>by rw [List.nil_append,Lex.lit,if_pos jD];rfl
 | c::x,r,h=>by
  rw [List.all_cons,jag] at h;have ih:=Ah9 x r h.2;have h1:=h.1;unfold M8 at h1;simp only [jag,bne_iff_ne,ne_eq] at h1;rw [jah,Lex.lit,if_neg h1.2,if_pos ⟨h1.1.1.1,h1.1.1.2,h1.1.2⟩,ih];rfl
theorem Apf:∀ (t x:List UInt8) (n:Nat),Lex.lit t=.fine x n->x.all M8=true
 | [],x,n,h=>by cases h
 | c::t,x,n,h=>by
  rw [Lex.lit] at h;by_cases h93:c.toNat=93
  ·rw [if_pos h93] at h;injection h with h1 h2
   subst h1;rfl
  ·rw [if_neg h93] at h;by_cases hc:Lex.G9 c.toNat=true/\c.toNat ≠ 91/\c.toNat ≠ 92
   ·rw [if_pos hc] at h;obtain ⟨x',n',h1,rfl,-⟩:=Lex.Jy h;have:=Apf t x' n' h1;rw [List.singleton_append,List.all_cons,this,Bool.and_true];unfold M8;simp only [jag,bne_iff_ne,ne_eq];exact ⟨⟨⟨hc.1,hc.2.1⟩,hc.2.2⟩,h93⟩
   ·rw [if_neg hc] at h;cases h
theorem Aia {t x:List UInt8} (h:Lex.lit t=.fine x t.length):t=x ++ [93]:=by
 obtain ⟨-,-,g,-⟩:=Lex.Nb t x _ h;rw [List.take_length] at g;exact g.symm
theorem Ape (t:List UInt8):Aew (91::t)=true ↔ ∃ x,Lex.lit t=.fine x t.length:=by
 rw [Aew,jag,decide_eq_true_eq];constructor
 ·rintro ⟨-,h⟩;cases hl:Lex.lit t with
  | fine x n =>
   rw [hl] at h;have:n=t.length:=by simpa using h
   subst this;exact ⟨x,rfl⟩
  | bad i=>rw [hl] at h;cases h
  | gap=>rw [hl] at h;cases h
  | deep i=>rw [hl] at h;cases h
 ·rintro ⟨x,h⟩;rw [h];exact ⟨by decide,by simp⟩
theorem Awt (x:List UInt8):Aew (91::(x ++ [93]))=x.all M8:=by
 rw [Bool.eq_iff_iff,Ape];constructor
 ·rintro ⟨x',h⟩;have h1:=Apf _ _ _ h;have h2:=Aia h;have:=List.append_cancel_right h2;rw [this];exact h1
 ·intro h;exact ⟨x,by rw [Ah9 x [] h];simp⟩
theorem A0e {t:List UInt8} (h:∀ x,t ≠ x ++ [93]):Aew (91::t)=false:=by
 rw [<- Bool.not_eq_true,Ape];rintro ⟨x,hx⟩;exact h x (Aia hx)
theorem A15 (x:List UInt8):ok (91::(x ++ [93])) ↔ ok x:=by
 constructor
 ·intro h;have h1:ok (x ++ [93]):=(Lex.Nh (A:=[]) (c:=91) (B:=x ++ [93]) jD h).2;exact (Lex.Nh (A:=x) (c:=93) (B:=[]) jD h1).1
 ·intro h;have a1:ok [(91:UInt8)]:=Lex.Cs jD;have a2:ok [(93:UInt8)]:=Lex.Cs jD;exact Lex.Du a1 (Lex.Du h a2)
theorem Ar0 (x:List UInt8):Na (91::(x ++ [93]))=(decide ((Aq x).2=-1) && x.all M8):=by
 unfold Na;rw [Awt];congr 1;exact decide_eq_decide.2 (A15 x)
theorem Aws {t:List UInt8} (h:∀ x,t ≠ x ++ [93]):Na (91::t)=false:=by
 unfold Na;rw [A0e h,Bool.and_false]
theorem Aqf {y:List UInt8} (h:J6 y=true):∃ t,y=91::t:=by
 cases y with
 | nil=>cases h
 | cons c t =>
  have:(some c == some (91:UInt8))=true:=h;have:c=91:=by simpa using this
  subst this;exact ⟨t,rfl⟩
end Mbx
end
