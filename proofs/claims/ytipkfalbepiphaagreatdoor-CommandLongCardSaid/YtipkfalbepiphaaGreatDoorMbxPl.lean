import Derived.Test.YtipkfalbepiphaaGreatDoorLexPl
import Derived.Test.YtipkfalbepiphaaGreatDoorPrecPl
namespace Go.Proofs.YtipkfalbepiphaaGreatDoor
section
open Utf
namespace Mbx
abbrev S:=Int × List UInt8
def Nt (c:UInt8):Bool:=Lex.Em c.toNat && c.toNat != 91 && c.toNat != 92 && c.toNat != 93
def Bi (k:S):Bool:=k.1 == 4 || k.1 == 3
def skip:List S->Nat
 | []=>0
 | k::t=>if Bi k then skip t+1 else 0
def more:List S->List UInt8 × Nat
 | d::a::t=>if d=(2,[46])/\a.1=0 then (46::(a.2 ++ (more t).1),(more t).2+2) else ([],0)
 | _=>([],0)
def words:List S->Option (List UInt8 × Nat)
 | []=>none
 | k::t=>if k.1=0 then some (k.2 ++ (more t).1,(more t).2+1) else none
def Cn:List S->Option (List UInt8 × Nat)
 | []=>none
 | k::t=>if k.1=1 then some (k.2,1) else words (k::t)
def I7:List S->Option (List UInt8 × Nat)
 | []=>none
 | k::t=>if k.1=5 then some (Lex.Co 5 k.2,1) else words (k::t)
def Ll (l:List S) (x:List UInt8) (b:Nat):Option (List UInt8 × List UInt8 × Nat) :=
 if (l.drop b).head? = some (2,[64]) then
  match I7 (l.drop (b+1+skip (l.drop (b+1)))) with
  | none=>none
  | some (y,q)=>some (x,y,b+1+skip (l.drop (b+1))+q+skip (l.drop (b+1+skip (l.drop (b+1))+q)))
 else none
def take (l:List S):Option (List UInt8 × List UInt8 × Nat) :=
 match Cn (l.drop (skip l)) with
 | none=>none
 | some (x,n)=>Ll l x (skip l+n+skip (l.drop (skip l+n)))
def He:List (List UInt8)->List S
 | []=>[]
 | [p]=>[(0,p)]
 | p::q::r=>(0,p)::(2,[46])::He (q::r)
def Dc:List (List UInt8)->List UInt8
 | []=>[]
 | [p]=>p
 | p::q::r=>p ++ 46::Dc (q::r)
theorem N9 (l:List UInt8):∃ h t,Lex.I8 l=h::t:=by
 cases l with
 | nil=>exact ⟨_,_,rfl⟩
 | cons c t =>
  rw [Lex.I8];split
  · exact ⟨_,_,rfl⟩
  · split<;>exact ⟨_,_,rfl⟩
theorem Acz (p:List UInt8) {q:List (List UInt8)} (hq:q ≠ []):Dc (p::q)=p ++ 46::Dc q:=by
 cases q with
 | nil=>exact absurd rfl hq
 | cons a b=>rfl
theorem Rb (p:List UInt8) {q:List (List UInt8)} (hq:q ≠ []):He (p::q)=(0,p)::(2,[46])::He q:=by
 cases q with
 | nil=>exact absurd rfl hq
 | cons a b=>rfl
theorem Mc:∀ l:List UInt8,Dc (Lex.I8 l)=l
 | []=>rfl
 | c::t=>by
  have ih:=Mc t;obtain ⟨h,r,e⟩:=N9 t;rw [Lex.I8];by_cases hc:c.toNat=46
  ·rw [if_pos hc,Acz _ (by rw [e];simp),ih,Lex.Hu hc];rfl
  ·rw [if_neg hc];rw [e] at ih ⊢;simp only;cases r with
   | nil=>show c::h=c::t;rw [<- ih];rfl
   | cons a b=>show c::(h ++ 46::Dc (a::b))=c::t;rw [<- ih];rfl
theorem Og:∀ (n r:List S),(∀ k ∈ n,Bi k=true)->(∀ k t,r=k::t->Bi k=false)->skip (n ++ r)=n.length
 | [],r,_,hr=>by
  cases r with
  | nil=>rfl
  | cons k t=>show skip (k::t)=0;rw [skip,hr k t rfl];rfl
 | k::n,r,hn,hr=>by
  rw [jah,skip,hn k jS,if_pos rfl,Og n r (λx hx=>hn x (by simp [hx])) hr];rfl
def Stop (r:List S):Prop:=∀ k t,r=k::t->k ≠ (2,[46])
theorem Adv {r:List S} (h:Stop r):more r=([],0):=by
 match r,h with
 | [],_=>rfl
 | [_],_=>rfl
 | d::a::t,h=>rw [more,if_neg (λe=>h d _ rfl e.1)]
theorem Aj9:∀ (q:List (List UInt8)) (r:List S),Stop r->q ≠ []->more ((2,[46])::(He q ++ r))=(46::Dc q,2*q.length)
 | [],r,_,h=>absurd rfl h
 | [p],r,hr,_=>by
  show more ((2,[46])::(0,p)::r)=_;rw [more,if_pos ⟨rfl,rfl⟩,Adv hr];simp [Dc]
 | p::a::b,r,hr,_=>by
  show more ((2,[46])::(0,p)::((2,[46])::(He (a::b) ++ r)))=_;rw [more,if_pos ⟨rfl,rfl⟩,Aj9 (a::b) r hr jS];simp only [jac];exact Prod.ext rfl (by show 2*(b.length+1)+2=_;omega)
theorem Ae4:∀ (q:List (List UInt8)),q ≠ []->(He q).length+1=2*q.length
 | [],h=>absurd rfl h
 | [p],_=>rfl
 | p::a::b,_=>by
  rw [Rb p jS];have:=Ae4 (a::b) jS;simp only [jac] at this ⊢;omega
theorem Ae2 {q:List (List UInt8)} (hq:q ≠ []) {r:List S} (hr:Stop r):words (He q ++ r)=some (Dc q,(He q).length):=by
 have hl:=Ae4 q hq;match q,hq with
 | [p],_ =>
  show words ((0,p)::r)=_;rw [words,if_pos rfl,Adv hr];simp [Dc,He]
 | p::a::b,_ =>
  show words ((0,p)::((2,[46])::(He (a::b) ++ r)))=_;rw [words,if_pos rfl,Aj9 (a::b) r hr jS];rw [Acz p jS];simp only [jac] at hl ⊢;congr 2;omega
inductive Says:List UInt8->List S->Prop
 | quote (x:List UInt8):Says x [(1,x)]
 | words {q:List (List UInt8)} (hq:q ≠ []):Says (Dc q) (He q)
inductive SaysD:List UInt8->List S->Prop
 | lit (x:List UInt8):SaysD (Lex.Co 5 x) [(5,x)]
 | words {q:List (List UInt8)} (hq:q ≠ []):SaysD (Dc q) (He q)
theorem M8 {q:List (List UInt8)} (hq:q ≠ []):∃ p t,He q=(0,p)::t:=by
 match q,hq with
 | [p],_=>exact ⟨p,[],rfl⟩
 | p::a::b,_=>exact ⟨p,_,rfl⟩
theorem Aeg {x:List UInt8} {P:List S} (h:Says x P):∃ k t,P=k::t/\Bi k=false/\(k.1=0\/k.1=1):=by
 cases h with
 | quote=>exact ⟨_,_,rfl,rfl,.inr rfl⟩
 | words hq=>obtain ⟨p,t,e⟩:=M8 hq;exact ⟨_,_,e,rfl,.inl rfl⟩
theorem Aac {x:List UInt8} {P:List S} (h:SaysD x P):∃ k t,P=k::t/\Bi k=false/\(k.1=0\/k.1=5):=by
 cases h with
 | lit=>exact ⟨_,_,rfl,rfl,.inr rfl⟩
 | words hq=>obtain ⟨p,t,e⟩:=M8 hq;exact ⟨_,_,e,rfl,.inl rfl⟩
theorem Awb {x:List UInt8} {P r:List S} (h:Says x P) (hr:Stop r):Cn (P ++ r)=some (x,P.length):=by
 cases h with
 | quote=>rfl
 | words hq =>
  have hw:=Ae2 hq hr;obtain ⟨p,t,e⟩:=M8 hq;rw [e,jah] at hw ⊢;rw [Cn,if_neg (by show ¬ ((0:Int)=1);decide)];exact hw
theorem Apt {x:List UInt8} {P r:List S} (h:SaysD x P) (hr:Stop r):I7 (P ++ r)=some (x,P.length):=by
 cases h with
 | lit=>rfl
 | words hq =>
  have hw:=Ae2 hq hr;obtain ⟨p,t,e⟩:=M8 hq;rw [e,jah] at hw ⊢;rw [I7,if_neg (by show ¬ ((0:Int)=5);decide)];exact hw
theorem Wj {n r:List S} (hn:∀ k ∈ n,Bi k=true) (hr:Stop r):Stop (n ++ r):=by
 cases n with
 | nil=>exact hr
 | cons k n =>
  intro j t e;rw [jah] at e;injection e with e1 e2
  rw [<- e1];intro e3;have:=hn k jS;rw [e3] at this;cases this
theorem Awu {n0 n1 n2 n3 P D r:List S} {x y:List UInt8} (h0:∀ k ∈ n0,Bi k=true) (h1:∀ k ∈ n1,Bi k=true) (h2:∀ k ∈ n2,Bi k=true) (h3:∀ k ∈ n3,Bi k=true) (hP:Says x P) (hD:SaysD y D)
  (hr:Stop r) (hr2:∀ k t,r=k::t->Bi k=false):take (n0 ++ (P ++ (n1 ++ ((2,[64])::(n2 ++ (D ++ (n3 ++ r)))))))=some (x,y,(n0 ++ (P ++ (n1 ++ ((2,[64])::(n2 ++ (D ++ n3)))))).length):=by
 obtain ⟨kp,tp,eP,np,-⟩:=Aeg hP;obtain ⟨kd,td,eD,nd,-⟩:=Aac hD;have hat:Stop ((2,[64])::(n2 ++ (D ++ (n3 ++ r)))):=λk t e=>by injection e with e1 _;rw [<- e1];decide
 have hatn:∀ k t,((2,[64])::(n2 ++ (D ++ (n3 ++ r))):List S)=k::t->Bi k=false:=λk t e=>by injection e with e1 _;rw [<- e1];rfl
 have s0:skip (n0 ++ (P ++ (n1 ++ ((2,[64])::(n2 ++ (D ++ (n3 ++ r)))))))=n0.length:=Og _ _ h0 (λk t e=>by rw [eP,jah] at e;injection e with e1 _;rw [<- e1];exact np);have l0:=Awb hP (r:=n1 ++ ((2,[64])::(n2 ++ (D ++ (n3 ++ r))))) (Wj h1 hat);have s1:skip (n1 ++ ((2,[64])::(n2 ++ (D ++ (n3 ++ r)))))=n1.length:=Og _ _ h1 hatn;have s2:skip (n2 ++ (D ++ (n3 ++ r)))=n2.length:=Og _ _ h2 (λk t e=>by rw [eD,jah] at e;injection e with e1 _;rw [<- e1];exact nd);have l1:=Apt hD (r:=n3 ++ r) (Wj h3 hr);have s3:skip (n3 ++ r)=n3.length:=Og _ _ h3 hr2;generalize hR3:n3 ++ r=R3 at *;generalize hR2:D ++ R3=R2 at *;generalize hR1:n2 ++ R2=R1 at *;generalize hRa:n1 ++ (2,[64])::R1=Ra at *;generalize hRp:P ++ Ra=Rp at *;have d0:(n0 ++ Rp).drop n0.length=Rp:=List.drop_left;have d1:(n0 ++ Rp).drop (n0.length+P.length)=Ra:=by rw [<- List.drop_drop,d0,<- hRp,List.drop_left]
 have d2:(n0 ++ Rp).drop (n0.length+P.length+n1.length)=(2,[64])::R1:=by rw [<- List.drop_drop,d1,<- hRa,List.drop_left]
 have d3:(n0 ++ Rp).drop (n0.length+P.length+n1.length+1)=R1:=by rw [<- List.drop_drop,d2];rfl
 have d4:(n0 ++ Rp).drop (n0.length+P.length+n1.length+1+n2.length)=R2:=by rw [<- List.drop_drop,d3,<- hR1,List.drop_left]
 have d5:(n0 ++ Rp).drop (n0.length+P.length+n1.length+1+n2.length+D.length)=R3:=by rw [<- List.drop_drop,d4,<- hR2,List.drop_left]
 unfold take;rw [s0,d0,l0];simp only;rw [d1,s1];unfold Ll;rw [d2,List.head?_cons,if_pos rfl,d3,s2,d4,l1];simp only;rw [d5,s3];simp only [jab,jac];congr 3;omega
end Mbx
end
section
open Utf
namespace Mbx
open Lex
def Qd (r:List UInt8):Prop:=∀ c t,r=c::t->Al c=false
theorem Tr {a:Nat} {p r:List UInt8} {ts:List Tok} (hp:Fg p=true) (hr:Qd r) (h:Cuts (a+p.length) r ts):Cuts a (p ++ r) (⟨0,p,a⟩::ts):=by
 unfold Fg at hp;rw [jag,jar] at hp;have hw:=Pn Al p r hp.2 hr;have h1:one (p ++ r)=(0,.fine p p.length):=by
  cases p with
  | nil=>cases hp.1
  | cons c p =>
   rw [jah] at hw ⊢;rw [Sl _ (hp.2 c jS),hw]
 exact .cons h1 (by rw [List.drop_left];exact h)
theorem Lk {a:Nat} {c:UInt8} {r:List UInt8} {ts:List Tok} (hc:D9 c.toNat=true) (h:Cuts (a+1) r ts):Cuts a (c::r) (⟨2,[c],a⟩::ts):=.cons (Jz r hc) h
theorem Ki {c:UInt8} {r:List UInt8} (h:Al c=false):Qd (c::r):=λd t e=>by injection e with e1 _;rw [<- e1];exact h
theorem Ais {r:List UInt8} {ts:List Tok} (hr:Qd r):∀ (q:List (List UInt8)) (a:Nat),q ≠ []->(∀ p ∈ q,Fg p=true)->Cuts (a+(Dc q).length) r ts->∃ ws:List Tok,Cuts a (Dc q ++ r) (ws ++ ts)/\ws.map Fi=He q
 | [],_,h,_,_=>absurd rfl h
 | [p],a,_,hp,h=>⟨[⟨0,p,a⟩],Tr (hp p jS) hr h,rfl⟩
 | p::x::y,a,_,hp,h=>by
  have hd:Dc (p::x::y)=p ++ 46::Dc (x::y):=rfl;rw [hd] at h ⊢;obtain ⟨ws,hw,hm⟩:=Ais hr (x::y) (a+p.length+1) jS (λz hz=>hp z (by simp [hz])) (by rw [jab,jac] at h;rw [show a+p.length+1+(Dc (x::y)).length=a+(p.length+((Dc (x::y)).length+1)) by omega];exact h);refine ⟨⟨0,p,a⟩::⟨2,[46],a+p.length⟩::ws,?_,?_⟩
  ·rw [jaq];exact Tr (hp p jS) (Ki jD) (Lk jD hw)
  ·rw [List.map_cons,List.map_cons,hm,Rb p jS];rfl
theorem Ae3 {r:List UInt8} {ts:List Tok} (hr:Qd r) {l:List UInt8} {a:Nat} (hl:Df l=true) (h:Cuts (a+l.length) r ts):∃ ws:List Tok,Cuts a (l ++ r) (ws ++ ts)/\ws.map Fi=He (I8 l):=by
 obtain ⟨x,y,e⟩:=N9 l;have hd:=Mc l;unfold Df at hl;rw [jar] at hl;have:=Ais hr (I8 l) a (by rw [e];simp) hl (by rw [hd];exact h);rwa [hd] at this
theorem Avh {a:Nat} {x r:List UInt8} {ts:List Tok} (hx:∀ b ∈ x,Aw b=true) (h:Cuts (a+(Co 1 x).length) r ts):Cuts a (Co 1 x ++ r) (⟨1,x,a⟩::ts):=by
 have hs:Co 1 x=34::(esc x ++ [34]):=rfl;have h1:one (Co 1 x ++ r)=(1,.fine x (Co 1 x).length):=by
  rw [hs,jah,jaq,Sm 34 _ rfl];show (1,(quo (esc x ++ 34::r)).top)=_;rw [Z3 x r hx];simp only [Cut.top,jac,jab,List.length_nil]
 exact .cons h1 (by rw [List.drop_left];exact h)
def Ur:List UInt8->Bool
 | []=>false
 | c::t=>decide (c.toNat=91) && match lit t with
  | .fine _ n=>decide (n=t.length)
  | _=>false
theorem Azu {y:List UInt8} (h:Ur y=true):∃ x,y=Co 5 x/\∀ r,lit (x ++ 93::r)=.fine x (x.length+1):=by
 cases y with
 | nil=>cases h
 | cons c t =>
  rw [Ur,jag,decide_eq_true_eq] at h;obtain ⟨hc,h⟩:=h;cases hl:lit t with
  | fine x n =>
   rw [hl] at h;obtain ⟨g1,g2,g3,g4⟩:=Nx t x n hl;have hn:n=t.length:=by simpa using h
   rw [hn,List.take_length] at g3;have hxl:n=x.length+1:=by rw [hn,<- g3];simp
   refine ⟨x,by rw [<- g3,Hu hc];rfl,λr=>?_⟩;have:=g4 r;rw [hn,List.take_length,<- g3,jaq] at this;rw [show x.length+1=(x ++ [(93:UInt8)]).length by simp];exact this
  | bad i=>rw [hl] at h;cases h
  | gap=>rw [hl] at h;cases h
  | deep i=>rw [hl] at h;cases h
theorem A30 {a:Nat} {y r:List UInt8} {ts:List Tok} (hy:Ur y=true) (h:Cuts (a+y.length) r ts):∃ x,y=Co 5 x/\Cuts a (y ++ r) (⟨5,x,a⟩::ts):=by
 obtain ⟨x,rfl,hl⟩:=Azu hy;refine ⟨x,rfl,?_⟩;have hs:Co 5 x=91::(x ++ [93]):=rfl;have h1:one (Co 5 x ++ r)=(5,.fine x (Co 5 x).length):=by
  rw [hs,jah,jaq,Xi 91 _ rfl];show (5,(lit (x ++ 93::r)).top)=_;rw [hl r];simp only [Cut.top,jac,jab,List.length_nil]
 exact .cons h1 (by rw [List.drop_left];exact h)
def Ef (x:List UInt8):List UInt8:=if Df x then x else Co 1 x
theorem At7 {a:Nat} {x r:List UInt8} {ts:List Tok} (hx:∀ b ∈ x,Aw b=true) (hr:Qd r) (h:Cuts (a+(Ef x).length) r ts):∃ (ws:List Tok) (P:List S),Cuts a (Ef x ++ r) (ws ++ ts)/\ws.map Fi=P/\Says x P:=by
 unfold Ef at h ⊢;cases hw:Df x with
 | true =>
  rw [hw] at h;obtain ⟨ws,h1,h2⟩:=Ae3 hr hw h;obtain ⟨p,q,e⟩:=N9 x;have hs:Says (Dc (I8 x)) (He (I8 x)):=.words (by rw [e];simp);rw [Mc] at hs;exact ⟨ws,_,h1,h2,hs⟩
 | false =>
  rw [hw] at h;exact ⟨[⟨1,x,a⟩],[(1,x)],Avh hx h,rfl,.quote x⟩
def Atb (y:List UInt8):Bool:=Df y || Ur y
theorem A27 {a:Nat} {y r:List UInt8} {ts:List Tok} (hy:Atb y=true) (hr:Qd r) (h:Cuts (a+y.length) r ts):∃ (ws:List Tok) (D:List S),Cuts a (y ++ r) (ws ++ ts)/\ws.map Fi=D/\SaysD y D:=by
 unfold Atb at hy;rw [Bool.or_eq_true] at hy;rcases hy with hw | hl
 ·obtain ⟨ws,h1,h2⟩:=Ae3 hr hw h;obtain ⟨p,q,e⟩:=N9 y;have hs:SaysD (Dc (I8 y)) (He (I8 y)):=.words (by rw [e];simp);rw [Mc] at hs;exact ⟨ws,_,h1,h2,hs⟩
 ·obtain ⟨x,hx,h1⟩:=A30 hl h;subst hx;exact ⟨[⟨5,x,a⟩],[(5,x)],h1,rfl,.lit x⟩
def Gap (n:List UInt8) (r:List UInt8):Prop:=∀ (a:Nat) (ts:List Tok),Cuts (a+n.length) r ts->∃ ws:List Tok,Cuts a (n ++ r) (ws ++ ts)/\∀ k ∈ ws.map Fi,Bi k=true
end Mbx
end
section
open Go.RowKit Utf
namespace Mbx
def Qr (x:Int):Bool:=!(decide (0<=x) && decide (x<128)) || Lex.Vq x.toNat
theorem Avx:∀ n,n<128->(Qr ((n:Nat):Int) || (!Lab.Cg ((n:Nat):Int) && !Ctx.Ci ((n:Nat):Int) && Wall.Bz ((n:Nat):Int) && !Bidi.Ce ((n:Nat):Int)))=true:=by decide +kernel
theorem Amw {x:Int} (h:Qr x=false):(Lab.Cg x=false/\Ctx.Ci x=false/\Wall.Bz x=true/\Bidi.Ce x=false)/\0<=x/\x<128/\Lex.Vq x.toNat=false:=by
 have h0:=h;unfold Qr at h;simp only [Bool.or_eq_false_iff,Bool.not_eq_false',jag,decide_eq_true_eq] at h;obtain ⟨⟨h1,h2⟩,h3⟩:=h;have:=Avx x.toNat jO;rw [show ((x.toNat:Nat):Int)=x by omega,h0] at this;simp only [Bool.false_or,jag,Bool.not_eq_true'] at this;exact ⟨⟨this.1.1.1,this.1.1.2,this.1.2,this.2⟩,h1,h2,h3⟩
theorem Lf (c:UInt8):Qr (c.toNat:Int)=true ↔ Lex.Al c=true:=by
 unfold Qr Lex.Al;by_cases h:c.toNat<128
 ·rw [decide_eq_true (show (0:Int)<=(c.toNat:Int) by omega),decide_eq_true (show (c.toNat:Int)<128 by omega)];simp
 ·rw [decide_eq_false (show ¬ (c.toNat:Int)<128 by omega)];unfold Lex.Vq;rw [decide_eq_true (show 128<=c.toNat by omega)];simp
theorem Atr {c:UInt8} (h:128<=c.toNat):Lex.Al c=true:=(Lf c).1 (by unfold Qr;rw [decide_eq_false (show ¬ (c.toNat:Int)<128 by omega)];simp)
theorem Ae1 {l:List Int} (h:Lab.Ev l=0):∀ x ∈ l,Qr x=true:=by
 have hb:Lab.Hc l=false:=by
  unfold Lab.Ev at h;split at h
  ·omega
  ·split at h
   ·omega
   ·split at h
    ·omega
    ·split at h
     ·omega
     ·rename_i h4
      simpa using h4
 intro x hx;obtain ⟨k,hk,rfl⟩:=List.getElem_of_mem hx;unfold Lab.Hc at hb;rw [List.any_eq_false] at hb;have h1:=hb k (List.mem_range.2 hk);rw [Bool.or_eq_true,not_or,getElem!_pos l k hk] at h1;cases hd:Qr l[k] with
 | true=>rfl
 | false =>
  exfalso;obtain ⟨hc,-⟩:=Amw hd;refine h1.2 ?_;rw [Ctx.Jb hk,getElem!_pos l k hk,hc.1,hc.2.1];rfl
theorem Atj {l:List Int} (h:Ae l=true) (hd:∀ x ∈ l,Qr x=true):∀ c ∈ Puny.Bq l,Lex.Al c=true:=by
 have hp:∀ x ∈ l,0<=x:=λx hx=>by
  have:=jar.1 (show l.all Aj=true from h) x hx;have:=(An x).1 this;omega
 intro c hc;unfold Puny.Bq at hc;rcases jap.1 hc with hc | hc
 ·rcases jap.1 hc with hc | hc
  ·unfold Puny.Bg at hc;obtain ⟨x,hx,rfl⟩:=List.mem_map.1 hc;have hm:x ∈ l/\x<128:=by
    unfold Puny.lt at hx;have:=List.mem_filter.1 hx;exact ⟨this.1,by simpa using this.2⟩
   have hx0:=hp x hm.1;refine (Lf _).1 ?_;have e:(((u x.toNat).toNat:Nat):Int)=x:=by rw [Bb jO];omega
   show Qr (((u x.toNat).toNat:Nat):Int)=true;rw [e];exact hd x hm.1
  ·unfold Puny.La at hc;split at hc
   ·cases hc
   ·rw [List.mem_singleton.1 hc];decide
 ·unfold Puny.Da at hc;obtain ⟨x,hx,rfl⟩:=List.mem_map.1 hc;obtain ⟨h0,h1⟩:=Puny.Md _ _ _ _ (Puny.Hh (Ew h)) x hx;have:∀ i:Nat,i<36->Lex.Al (Puny.J6 (i:Int))=true:=by decide +kernel
  have:=this x.toNat jO;rwa [show ((x.toNat:Nat):Int)=x by omega] at this
theorem An4 {L:List Int} (hr:Ae L=true) {a u:List UInt8} (h:Lab.Eo L=(0,a,u)):∀ x ∈ L,Qr x=true:=by
 unfold Lab.Eo at h;by_cases h1:Lab.Eb (Ah L)=false
 ·rw [if_pos h1] at h;by_cases h2:Lab.Ev L=0
  ·exact Ae1 h2
  ·rw [if_neg h2] at h;injection h with e1 e2
   exact absurd e1 h2
 ·rw [if_neg h1] at h;have ha:∀ c ∈ Ah L,c.toNat<128:=Lab.Du.1 (by simpa using h1);have hch:Lab.chars (Ah L)=L:=Lab.Jp (Lab.Di ha) hr (Dv _ ha)
  suffices hb:∀ c ∈ Ah L,Lex.Al c=true by
   intro x hx;rw [<- hch] at hx;obtain ⟨c,hc,rfl⟩:=List.mem_map.1 hx;exact (Lf c).2 (hb c hc)
  by_cases h3:(Ah L).take 4=Lab.sign
  ·rw [if_pos h3] at h;cases hd:Puny.Ig ((Ah L).drop 4) with
   | none =>
    rw [hd] at h;simp only at h;injection h with e1 e2
    exact absurd e1 jD
   | some l =>
    rw [hd] at h;simp only at h;by_cases h4:63<(Ah L).length
    ·rw [if_pos h4] at h;injection h with e1 e2
     exact absurd e1 jD
    ·rw [if_neg h4] at h;by_cases h5:Lab.Ev l ≠ 0
     ·rw [if_pos h5] at h;injection h with e1 e2
      exact absurd e1 h5
     ·rw [if_neg h5] at h;rw [Decidable.not_not] at h5;by_cases h6:Puny.Bq l ≠ (Ah L).drop 4
      ·rw [if_pos h6] at h;injection h with e1 e2
       exact absurd e1 jD
      ·rw [Decidable.not_not] at h6;obtain ⟨hrl,-,-⟩:=Puny.Afq hd;have hcat:Lab.sign ++ Puny.Bq l=Ah L:=by rw [h6,<- h3,List.take_append_drop]
       intro c hc;rw [<- hcat] at hc;rcases jap.1 hc with hc | hc
       ·exact (by decide:∀ c ∈ Lab.sign,Lex.Al c=true) c hc
       ·exact Atj hrl (Ae1 h5) c hc
  ·rw [if_neg h3] at h;by_cases h4:Lab.F9 (Ah L)=0
   ·unfold Lab.F9 at h4;split at h4
    ·omega
    ·split at h4
     ·omega
     ·split at h4
      ·omega
      ·rename_i h5
       intro c hc;refine (Lf c).1 ?_;cases hg:Qr (c.toNat:Int) with
       | true=>rfl
       | false =>
        exfalso;obtain ⟨⟨-,-,-,h6⟩,-⟩:=Amw hg;have h7:((Ah L).all λc=>Bidi.Ce (c.toNat:Int))=true:=by simpa using h5
        have:=jar.1 h7 c hc;rw [h6] at this;cases this
   ·rw [if_neg h4] at h;injection h with e1 e2
    exact absurd e1 h4
theorem Agb:∀ {L:List Int} {x:Int},x ∈ L->Dom.Ch x=false->∃ P ∈ Dom.cut L,x ∈ P
 | y::L,x,h,hx=>by
  obtain ⟨a,t,e⟩:=Dom.Fv L;rw [Dom.cut];by_cases hy:Dom.Ch y=true
  ·rw [if_pos hy];rcases jal.1 h with rfl | h
   ·rw [hx] at hy;cases hy
   ·obtain ⟨P,hP,hm⟩:=Agb h hx;exact ⟨P,List.mem_cons_of_mem _ hP,hm⟩
  ·rw [if_neg hy,e];rcases jal.1 h with rfl | h
   ·exact ⟨x::a,by simp,by simp⟩
   ·obtain ⟨P,hP,hm⟩:=Agb h hx;rw [e] at hP;rcases jal.1 hP with rfl | hP
    · exact ⟨y::P,by simp,by simp [hm]⟩
    · exact ⟨P,by simp [hP],hm⟩
theorem A1v:∀ l:List Int,(46 ∉ l)\/∃ q r,l=q ++ 46::r/\46 ∉ q
 | []=>.inl jS
 | x::l=>by
  by_cases hx:x=46
  ·exact .inr ⟨[],l,by rw [hx];rfl,by simp⟩
  ·rcases A1v l with h | ⟨q,r,e,h⟩
   · exact .inl (by simp only [jal,not_or];exact ⟨λe=>hx e.symm,h⟩)
   · exact .inr ⟨x::q,r,by rw [e];rfl,by simp only [jal,not_or];exact ⟨λe=>hx e.symm,h⟩⟩
theorem Acy:∀ {l:List UInt8},(∀ c ∈ l,c.toNat ≠ 46)->Lex.I8 l=[l]
 | [],_=>rfl
 | c::t,h=>by rw [Lex.I8,if_neg (h c jS),Acy (λb hb=>h b (by simp [hb]))]
theorem Air:∀ {p:List UInt8} (t:List UInt8),(∀ c ∈ p,c.toNat ≠ 46)->Lex.I8 (p ++ 46::t)=p::Lex.I8 t
 | [],t,_=>by rw [List.nil_append,Lex.I8,if_pos jD]
 | c::p,t,h=>by rw [jah,Lex.I8,if_neg (h c jS),Air t (λb hb=>h b (by simp [hb]))]
theorem Zv {q:List Int} (hr:Ae q=true) (h46:46 ∉ q) (h:∀ P ∈ Dom.cut (Fold.fold q),P ≠ []/\∀ x ∈ P,Qr x=true):Lex.Fg (Ah q)=true/\∀ c ∈ Ah q,c.toNat ≠ 46:=by
 constructor
 ·unfold Lex.Fg;rw [jag,jar];constructor
  ·cases q with
   | nil=>exact absurd rfl (h [] jD).1
   | cons x t =>
    have:0<(Ah (x::t)).length:=by
     have:=Gr (x::t);unfold Ah;rw [jao,jab];have:0<(enc x.toNat).length:=by unfold enc;split<;>(try split)<;>(try split)<;>simp
     omega
    cases he:Ah (x::t) with
    | nil=>rw [he] at this;cases this
    | cons a b=>rfl
  ·intro c hc;by_cases h128:c.toNat<128
   ·have hm:=Prec.Aff hr hc h128;rw [<- Lf];cases hg:Qr (c.toNat:Int) with
    | true=>rfl
    | false =>
     exfalso;obtain ⟨⟨-,-,hw,-⟩,-⟩:=Amw hg;obtain ⟨s,t,rfl⟩:=List.append_of_mem hm;have hfold:=Wall.Wz hw s t;have hd:Dom.Ch (c.toNat:Int)=false:=by
      unfold Dom.Ch;rw [Bool.or_eq_false_iff,beq_eq_false_iff_ne,beq_eq_false_iff_ne];exact ⟨λe=>h46 (by rw [e];simp),by omega⟩
     obtain ⟨P,hP,hx⟩:=Agb (L:=Fold.fold (s ++ (c.toNat:Int)::t)) (x:=(c.toNat:Int)) (by rw [hfold];simp) hd;have:=(h P hP).2 _ hx;rw [hg] at this;cases this
   ·exact Atr jO
 ·intro c hc e;have:=Prec.Aff hr hc jO;rw [e] at this;exact h46 this
theorem Aql (n:Nat):∀ l:List Int,l.length<=n->Ae l=true->(∀ P ∈ Dom.cut (Fold.fold l),P ≠ []/\∀ x ∈ P,Qr x=true)->Lex.Df (Ah l)=true:=by
 induction n with
 | zero =>
  intro l hl hr h;obtain rfl:l=[]:=List.eq_nil_of_length_eq_zero jO;exact absurd rfl (h [] jD).1
 | succ n ih =>
  intro l hl hr h;unfold Lex.Df;rcases A1v l with h46 | ⟨q,r,rfl,h46⟩
  ·obtain ⟨h1,h2⟩:=Zv hr h46 h;rw [Acy h2,List.all_cons,h1];rfl
  ·have hrq:Ae q=true/\Ae r=true:=by
    unfold Ae at hr ⊢;rw [List.all_append,List.all_cons,jag,jag] at hr;exact ⟨hr.1,hr.2.2⟩
   rw [Dom.Ai5,Dom.Afk] at h;obtain ⟨h1,h2⟩:=Zv hrq.1 h46 (λP hP=>h P (jap.2 (.inl hP)));have h3:=ih r (by rw [jab,jac] at hl;omega) hrq.2 (λP hP=>h P (jap.2 (.inr hP)));unfold Lex.Df at h3;rw [Dom.Aq9,Air _ h2,List.all_cons,h1,h3];rfl
theorem Atc {y a u:List UInt8} (h:Dom.Cu y=(0,a,u)):Lex.Df y=true:=by
 obtain ⟨l,hr,rfl,h0,h1,h2,-⟩:=Dom.Afe h;refine Aql _ l (jaa _) hr λP hP=>?_;have hrP:Ae P=true:=Dom.Ox (El hr) P hP;have hf:Fold.fold P=P:=Dom.Zw l P hP;have h3:=h2 P hP;constructor
 ·rintro rfl;exact absurd h3 (by decide +kernel)
 ·unfold Dom.Dp at h3;rw [Lab.Fm hrP,hf] at h3;obtain ⟨⟨e,b,v⟩,hb⟩:∃ p,Lab.Eo P=p:=⟨_,rfl⟩
  rw [hb] at h3;obtain rfl:e=0:=h3;exact An4 hrP hb
open Norm in
def M7 (r:Int):Bool:=decide ((Norm.pieces false (Fold.fo r)).length<=(enc r.toNat).length)
theorem Aud:∀ y ∈ lowers,∀ i ∈ List.range (y.hi - y.lo+1).toNat,M7 (y.lo+i)=true:=by decide +kernel
theorem Alr:∀ y ∈ splits,M7 y.rune=true:=by decide +kernel
theorem Aqe:∀ i ∈ List.range 94,M7 (65281+i)=true:=by decide +kernel
theorem Mf (n:Nat):0<(enc n).length:=by unfold enc;split<;>(try split)<;>(try split)<;>simp
theorem A2a {r:Int}:M7 r=true:=by
 cases hs:Norm.syl r with
 | true =>
  unfold M7;rw [Fold.Xc hs,decide_eq_true_eq];have e:Norm.pieces false r=Norm.C9 r:=by rw [Norm.Ba,hs];rfl
  have h2:44032<=r/\r<=55203:=by simpa [Norm.syl] using hs
  have h3:(enc r.toNat).length=3:=by
   unfold enc;rw [if_neg jO,if_neg jO,if_pos jO];rfl
  rw [e,h3];unfold Norm.C9;split<;>simp
 | false =>
  cases hw:Bp r with
  | true =>
   simp only [Bp,jag,decide_eq_true_eq] at hw;have:=Aqe (r - 65281).toNat (by rw [List.mem_range];omega);rwa [show (65281:Int)+((r - 65281).toNat:Int)=r by omega] at this
  | false =>
   cases hp:Ak r with
   | some y =>
    rcases Bn hp with ⟨hy,rfl⟩ | ⟨hw',-⟩
    ·exact Alr y hy
    ·rw [hw] at hw';cases hw'
   | none =>
    have hn:Fold.narrow r=r:=by unfold Fold.narrow;rw [hw];rfl
    cases hl:Mn r with
    | some y =>
     obtain ⟨h1,h2,h3⟩:=Dm hl;have:=Aud y h1 (r - y.lo).toNat (by rw [List.mem_range];omega);rwa [show y.lo+((r - y.lo).toNat:Int)=r by omega] at this
    | none =>
     have e:Norm.pieces false r=[r]:=by rw [Norm.Ba,hs,hp];rfl
     have hf:Fold.fo r=r:=by unfold Fold.fo Fx;rw [hn,hl]
     unfold M7;rw [hf,e,decide_eq_true_eq];exact Mf _
theorem Ael:∀ l:List Int,(Norm.split false (l.map Fold.fo)).length<=(Ah l).length
 | []=>by simp [Norm.split]
 | x::l=>by
  have ih:=Ael l;have hx:=A2a (r:=x);unfold M7 at hx;rw [decide_eq_true_eq] at hx;unfold Norm.split at ih ⊢
  unfold Ah at ih ⊢;rw [List.map_cons,jao,jao,jab,jab];omega
theorem Yj (l:List Int):(Norm.down false (l.map Fold.fo)).length<=(Ah l).length:=by
 have h1:=Ael l;have h2:=Ag1 (Norm.Ho (Norm.split false (l.map Fold.fo)));unfold Norm.down;omega
theorem Ant (l:List Int):(Fold.fold l).length<=(Ah l).length:=by
 have h1:=Yj l;have h3:=Adh (Norm.down false (l.map Fold.fo));unfold Fold.fold;omega
end Mbx
theorem Aj7 {s:ByteArray} (hs:s.size<=510):Cx s:=by
 refine ⟨by omega,λm hm=>?_⟩;obtain ⟨-,h2⟩:=Lab.Sx (s:=s.data.toList) (by rw [hm]);rw [hm] at h2;simp only at h2;have h3:=Mbx.Ant (ints m);have h5:=Mbx.Yj (ints m);have h4:s.data.toList=Ah (ints m):=h2;rw [<- h4] at h3 h5;have e:s.data.toList.length=s.size:=by simp
 have hml:m.length<=510:=by have:=(Eu hm).2.1;simp at this;omega
 have hil:(ints m).length=m.length:=by simp [ints]
 exact ⟨⟨by omega,hm,by omega,by omega⟩,by omega⟩
end
section
open Go.RowKit Utf
namespace Mbx
open Lex (Cuts Tok Aw Ee Co Df Fg ok esc Al Am)
def E7 (y:List UInt8):Bool:=y.head? == some 91
def Kg (y:List UInt8):Bool:=decide ((Au y).2=-1) && Ur y
def Ga (x y:List UInt8):Int :=
 if x=[] then 13 else if 64<x.length then 5 else if (Au x).2 ≠ -1 then 7 else if x.all Aw=false then 8
 else if E7 y=true then (if Kg y then 0 else 4) else (Dom.Cu y).1
def Fq (x y:List UInt8):List UInt8:=Ef x ++ 64::y
def A60 (x:List UInt8):List UInt8:=if (Prec.Arw x).1=0 then (Prec.Arw x).2 else x
def A66 (y:List UInt8):List UInt8:=if E7 y=true then y.map Af else if (Dom.Cu y).1=0 then (Dom.Cu y).2.1 else y
def A6u (x y:List UInt8):Int × List UInt8 × List UInt8 :=
 if Ao x ≠ -1 then (8,[],[]) else if E7 y=true then (if Ao y ≠ -1 then (8,[],[]) else (0,x,y))
 else if (Dom.Cu y).1=0 then (0,x,Dom.A6t y) else ((Dom.Cu y).1,[],[])
theorem Oc {x y:List UInt8} (h:Ga x y=0):x ≠ []/\x.length<=64/\ok x/\(∀ b ∈ x,Aw b=true)/\((E7 y=true/\Kg y=true)\/(E7 y=false/\(Dom.Cu y).1=0)):=by
 unfold Ga at h;by_cases h1:x=[]
 ·rw [if_pos h1] at h;exact absurd h jD
 rw [if_neg h1] at h;by_cases h2:64<x.length
 ·rw [if_pos h2] at h;exact absurd h jD
 rw [if_neg h2] at h;by_cases h3:(Au x).2 ≠ -1
 ·rw [if_pos h3] at h;exact absurd h jD
 rw [if_neg h3] at h;by_cases h4:x.all Aw=false
 ·rw [if_pos h4] at h;exact absurd h jD
 rw [if_neg h4] at h;refine ⟨h1,by omega,(show (Au x).2=-1 from Decidable.not_not.1 h3),jar.1 (by simpa using h4),?_⟩;by_cases h5:E7 y=true
 ·rw [if_pos h5] at h;by_cases h6:Kg y=true
  · exact .inl ⟨h5,h6⟩
  · rw [if_neg h6] at h;exact absurd h jD
 ·rw [if_neg h5] at h;exact .inr ⟨by simpa using h5,h⟩
theorem A5w {y:List UInt8} (h:(Dom.Cu y).1=0):ok y/\Df y=true:=by
 obtain ⟨⟨e,a,u⟩,hb⟩:∃ p,Dom.Cu y=p:=⟨_,rfl⟩
 rw [hb] at h;obtain rfl:e=0:=h;obtain ⟨l,hr,e,-⟩:=Dom.Afe hb;exact ⟨(Lex.Qx y).2 ⟨l,hr,e⟩,Atc hb⟩
theorem Aea {x y:List UInt8} (h:Ga x y=0):ok y/\Atb y=true:=by
 obtain ⟨-,-,-,-,h⟩:=Oc h;unfold Atb;rcases h with ⟨-,h⟩ | ⟨-,h⟩
 ·unfold Kg at h;rw [jag,decide_eq_true_eq] at h;exact ⟨h.1,by rw [h.2,Bool.or_true]⟩
 ·obtain ⟨h1,h2⟩:=A5w h;exact ⟨h1,by rw [h2];rfl⟩
theorem Aow:∀ (x pre:List UInt8),ok (pre ++ x)->ok (pre ++ esc x)
 | [],pre,h=>h
 | c::t,pre,h=>by
  by_cases hs:c.toNat=34\/c.toNat=92
  ·have hc:c.toNat<128:=jO
   obtain ⟨h1,h2⟩:=Lex.N6 hc h;rw [Lex.Afw hs];have h3:=Aow t [] h2;have h4:ok [92,c]:=Lex.D0 λb hb=>by
    simp only [jal,List.not_mem_nil,or_false] at hb;rcases hb with rfl | rfl
    · decide
    · exact hc
   exact Lex.Jw h1 (Lex.Jw h4 h3)
  ·rw [Lex.Uf hs];have:=Aow t (pre ++ [c]) (by rw [jaq];exact h);rw [jaq] at this;exact this
theorem Azw {x:List UInt8} (h:ok x):ok (Ef x):=by
 unfold Ef;split
 ·exact h
 ·have h1:ok (esc x):=Aow x [] h;have h2:ok [(34:UInt8)]:=Lex.D0 jD;exact Lex.Jw h2 (Lex.Jw h1 h2)
theorem Pe (x:List UInt8):(Ef x).length<=2*x.length+2:=by
 unfold Ef;split
 ·omega
 ·have:=Lex.Arb x;rw [Co,if_neg jD,if_neg jD,if_pos rfl];simp only [jac,jab,List.length_nil];omega
theorem Aii {s:List UInt8} {ts:List Tok} (hl:s.length<=2000) (ho:ok s) (h:Cuts 0 s ts):Ee s=(0,0,ts):=by
 have ho':(Au s).2=-1:=ho;unfold Ee;rw [if_neg jO,if_pos ho',Lex.A5c h _ (jaa _)]
theorem Wd (c:UInt8):Af (Af c)=Af c:=by
 have:=Lex.Dl (p:=λc=>Af (Af c) == Af c) (by decide +kernel) c;simpa using this
theorem A1u (c:UInt8):(Af c == 91)=(c == 91):=by
 have:=Lex.Dl (p:=λc=>(Af c == 91) == (c == 91)) (by decide +kernel) c;simpa using this
theorem Ae8 (y:List UInt8):E7 (y.map Af)=E7 y:=by
 cases y with
 | nil=>rfl
 | cons c t =>
  have:=A1u c;unfold E7;show (some (Af c) == some 91)=(some c == some 91)
  exact this
def Et (l:List S):List UInt8:=l.flatMap λk=>Co k.1 k.2
theorem U0:∀ ts:List Tok,Et (ts.map Lex.Fi)=Lex.outs ts
 | []=>rfl
 | k::ts=>by
  have ih:=U0 ts;unfold Et at ih ⊢;rw [List.map_cons,jao,ih];rfl
theorem A48 {k:Int} (h:k=0) (x:List UInt8):Co k x=x:=by subst h;rfl
theorem Aka:∀ l:List S,(more l).1.length<=(Et l).length/\(more l).2<=l.length
 | []=>⟨jaa _,jaa _⟩
 | [_]=>⟨Nat.zero_le _,Nat.zero_le _⟩
 | d::a::t=>by
  obtain ⟨h1,h2⟩:=Aka t;rw [more];by_cases h:d=(2,[46])/\a.1=0
  ·rw [if_pos h];unfold Et at h1 ⊢;rw [jao,jao,A48 h.2,h.1];simp only [jac,jab,show (Co 2 [46]).length=1 from rfl];omega
  ·rw [if_neg h];exact ⟨Nat.zero_le _,Nat.zero_le _⟩
theorem Vk {l:List S} {y:List UInt8} {n:Nat} (h:words l=some (y,n)):y.length<=(Et l).length/\n<=l.length/\0<n:=by
 cases l with
 | nil=>cases h
 | cons k t =>
  rw [words] at h;by_cases hk:k.1=0
  ·rw [if_pos hk] at h;injection h with h
   injection h with h1 h2
   subst h1 h2;obtain ⟨g1,g2⟩:=Aka t;unfold Et at g1 ⊢;rw [jao,A48 hk];simp only [jac,jab];omega
  ·rw [if_neg hk] at h;cases h
theorem Aq7 {l:List S} {y:List UInt8} {n:Nat} (h:I7 l=some (y,n)):y.length<=(Et l).length/\n<=l.length/\0<n:=by
 cases l with
 | nil=>cases h
 | cons k t =>
  rw [I7] at h;by_cases hk:k.1=5
  ·rw [if_pos hk] at h;injection h with h
   injection h with h1 h2
   subst h1 h2;unfold Et;rw [jao,hk];simp only [jac,jab];omega
  ·rw [if_neg hk] at h;exact Vk h
theorem Aob {l:List S} {y:List UInt8} {n:Nat} (h:Cn l=some (y,n)):n<=l.length/\0<n:=by
 cases l with
 | nil=>cases h
 | cons k t =>
  rw [Cn] at h;by_cases hk:k.1=1
  ·rw [if_pos hk] at h;injection h with h
   injection h with h1 h2
   subst h1 h2;simp only [jac];omega
  ·rw [if_neg hk] at h;exact (Vk h).2
theorem Aai:∀ l:List S,skip l<=l.length
 | []=>jaa _
 | k::t=>by
  have:=Aai t;rw [skip,jac];split<;>omega
theorem O0:∀ (l:List S) (n:Nat),(Et (l.drop n)).length<=(Et l).length
 | l,0=>jaa _
 | [],n+1=>jaa _
 | k::t,n+1=>by
  have:=O0 t n;rw [List.drop_succ_cons];unfold Et at this ⊢;rw [jao,jab];omega
theorem Aeo {l:List S} {x x' y:List UInt8} {b n:Nat} (h:Ll l x b=some (x',y,n)):x'=x/\y.length<=(Et l).length/\n<=l.length:=by
 unfold Ll at h;by_cases hh:(l.drop b).head? = some (2,[64])
 ·rw [if_pos hh] at h;cases hd:I7 (l.drop (b+1+skip (l.drop (b+1)))) with
  | none=>rw [hd] at h;cases h
  | some p =>
   obtain ⟨z,q⟩:=p;rw [hd] at h;simp only at h;injection h with h
   injection h with h1 h2
   injection h2 with h2 h3
   subst h1 h2 h3;obtain ⟨g1,g2,g3⟩:=Aq7 hd;have g4:=O0 l (b+1+skip (l.drop (b+1)));rw [jaj] at g2;have g5:=Aai (l.drop (b+1+skip (l.drop (b+1))+q));rw [jaj] at g5;exact ⟨rfl,by omega,by omega⟩
 ·rw [if_neg hh] at h;cases h
theorem take_len {l:List S} {x y:List UInt8} {n:Nat} (h:take l=some (x,y,n)):y.length<=(Et l).length/\n<=l.length:=by
 unfold take at h;cases hx:Cn (l.drop (skip l)) with
 | none=>rw [hx] at h;cases h
 | some p =>
  obtain ⟨z,q⟩:=p;rw [hx] at h;exact (Aeo h).2
end Mbx
end
section
open Go.RowKit Utf
namespace Mbx
open Lex (Co esc Cuts Tok)
theorem Jq:∀ x:List UInt8,x.length<=(esc x).length
 | []=>jaa _
 | c::t=>by
  have:=Jq t;rw [esc];split<;>simp only [jac]<;>omega
theorem A1y (k:Int) (x:List UInt8):x.length<=(Co k x).length:=by
 have:=Jq x;unfold Co;split
 ·simp only [jac,jab];omega
 ·split
  ·simp only [jac,jab];omega
  ·split
   · simp only [jac,jab];omega
   · exact jaa _
theorem Pm:∀ (l:List S) (k:S),k ∈ l->k.2.length<=(Et l).length
 | j::t,k,h=>by
  unfold Et;rw [jao,jab];rcases jal.1 h with rfl | h
  ·have:=A1y k.1 k.2;omega
  ·have:=Pm t k h;unfold Et at this;omega
theorem Aod {l:List S} {z:List UInt8} {q:Nat} (h:Cn l=some (z,q)):z.length<=(Et l).length:=by
 cases l with
 | nil=>cases h
 | cons k t =>
  rw [Cn] at h;by_cases hk:k.1=1
  ·rw [if_pos hk] at h;injection h with h
   injection h with h1 h2
   subst h1;exact Pm (k::t) k jS
  ·rw [if_neg hk] at h;exact (Vk h).1
theorem Awt {l:List S} {x y:List UInt8} {n:Nat} (h:take l=some (x,y,n)):x.length<=(Et l).length:=by
 unfold take at h;cases hx:Cn (l.drop (skip l)) with
 | none=>rw [hx] at h;cases h
 | some p =>
  obtain ⟨z,q⟩:=p;rw [hx] at h;rw [(Aeo h).1];exact Nat.le_trans (Aod hx) (O0 l _)
end Mbx
end
section
open Utf
namespace Mbx
open Lex (Cuts Tok Ee Co ok)
theorem Aju:∀ x r:List UInt8,x.all Nt=true->Lex.lit (x ++ 93::r)=.fine x (x.length+1)
 | [],r,_=>by rw [List.nil_append,Lex.lit,if_pos jD];rfl
 | c::x,r,h=>by
  rw [List.all_cons,jag] at h;have ih:=Aju x r h.2;have h1:=h.1;unfold Nt at h1;simp only [jag,bne_iff_ne,ne_eq] at h1;rw [jah,Lex.lit,if_neg h1.2,if_pos ⟨h1.1.1.1,h1.1.1.2,h1.1.2⟩,ih];rfl
theorem Arn:∀ (t x:List UInt8) (n:Nat),Lex.lit t=.fine x n->x.all Nt=true
 | [],x,n,h=>by cases h
 | c::t,x,n,h=>by
  rw [Lex.lit] at h;by_cases h93:c.toNat=93
  ·rw [if_pos h93] at h;injection h with h1 h2
   subst h1;rfl
  ·rw [if_neg h93] at h;by_cases hc:Lex.Em c.toNat=true/\c.toNat ≠ 91/\c.toNat ≠ 92
   ·rw [if_pos hc] at h;obtain ⟨x',n',h1,rfl,-⟩:=Lex.Gu h;have:=Arn t x' n' h1;rw [List.singleton_append,List.all_cons,this,Bool.and_true];unfold Nt;simp only [jag,bne_iff_ne,ne_eq];exact ⟨⟨⟨hc.1,hc.2.1⟩,hc.2.2⟩,h93⟩
   ·rw [if_neg hc] at h;cases h
theorem Ajv {t x:List UInt8} (h:Lex.lit t=.fine x t.length):t=x ++ [93]:=by
 obtain ⟨-,-,g,-⟩:=Lex.Nx t x _ h;rw [List.take_length] at g;exact g.symm
theorem Arm (t:List UInt8):Ur (91::t)=true ↔ ∃ x,Lex.lit t=.fine x t.length:=by
 rw [Ur,jag,decide_eq_true_eq];constructor
 ·rintro ⟨-,h⟩;cases hl:Lex.lit t with
  | fine x n =>
   rw [hl] at h;have:n=t.length:=by simpa using h
   subst this;exact ⟨x,rfl⟩
  | bad i=>rw [hl] at h;cases h
  | gap=>rw [hl] at h;cases h
  | deep i=>rw [hl] at h;cases h
 ·rintro ⟨x,h⟩;rw [h];exact ⟨by decide,by simp⟩
theorem Azr (x:List UInt8):Ur (91::(x ++ [93]))=x.all Nt:=by
 rw [Bool.eq_iff_iff,Arm];constructor
 ·rintro ⟨x',h⟩;have h1:=Arn _ _ _ h;have h2:=Ajv h;have:=List.append_cancel_right h2;rw [this];exact h1
 ·intro h;exact ⟨x,by rw [Aju x [] h];simp⟩
theorem A3y {t:List UInt8} (h:∀ x,t ≠ x ++ [93]):Ur (91::t)=false:=by
 rw [<- Bool.not_eq_true,Arm];rintro ⟨x,hx⟩;exact h x (Ajv hx)
theorem A6d (x:List UInt8):ok (91::(x ++ [93])) ↔ ok x:=by
 constructor
 ·intro h;have h1:ok (x ++ [93]):=(Lex.N6 (A:=[]) (c:=91) (B:=x ++ [93]) jD h).2;exact (Lex.N6 (A:=x) (c:=93) (B:=[]) jD h1).1
 ·intro h;have a1:ok [(91:UInt8)]:=Lex.D0 jD;have a2:ok [(93:UInt8)]:=Lex.D0 jD;exact Lex.Jw a1 (Lex.Jw h a2)
theorem At3 (x:List UInt8):Kg (91::(x ++ [93]))=(decide ((Au x).2=-1) && x.all Nt):=by
 unfold Kg;rw [Azr];congr 1;exact decide_eq_decide.2 (A6d x)
theorem Azq {t:List UInt8} (h:∀ x,t ≠ x ++ [93]):Kg (91::t)=false:=by
 unfold Kg;rw [A3y h,Bool.and_false]
theorem Asq {y:List UInt8} (h:E7 y=true):∃ t,y=91::t:=by
 cases y with
 | nil=>cases h
 | cons c t =>
  have:(some c == some (91:UInt8))=true:=h;have:c=91:=by simpa using this
  subst this;exact ⟨t,rfl⟩
end Mbx
end
