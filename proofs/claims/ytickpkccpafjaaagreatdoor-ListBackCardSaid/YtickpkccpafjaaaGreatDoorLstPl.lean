import Derived.Test.YtickpkccpafjaaaGreatDoorMbxPl
namespace Go.Proofs.YtickpkccpafjaaaGreatDoor
section
open Utf
namespace Lst
open Lex Mbx
abbrev Box:=List UInt8 × List UInt8
structure Ent where
 grp:Bool
 name:List UInt8
 boxes:List Box
def word (k:S):Bool:=k.1 == 0 || k.1 == 1
def glue:List (List UInt8)->List UInt8
 | []=>[]
 | [p]=>p
 | p::q::r=>p ++ 32::glue (q::r)
def pre (l:List S):List S:=l.takeWhile (λk=>Az k || word k)
def len (l:List S):Nat:=(pre l).length
def name (l:List S):List UInt8:=glue (((pre l).filter word).map (·.2))
def box (l:List S):Option (List UInt8 × Box × Nat) :=
 match take l with
 | some (x,y,n)=>some ([],(x,y),n)
 | none =>
  if (l.drop (len l)).head? = some (2,[60]) then
   match take (l.drop (len l+1)) with
   | none=>none
   | some (x,y,n)=>if (l.drop (len l+1+n)).head? = some (2,[62]) then some (name l,(x,y),len l+n+2+skip (l.drop (len l+n+2))) else none
  else none
def boxes:Nat->List S->Option (List Box × Nat)
 | 0,_=>none
 | f+1,l =>
  match box l with
  | none=>none
  | some (_,m,n) =>
   if (l.drop n).head? = some (2,[59]) then some ([m],n+1)
   else if (l.drop n).head? = some (2,[44]) then
    match boxes f (l.drop (n+1)) with
    | none=>none
    | some (r,k)=>some (m::r,n+1+k)
   else none
def inner (f:Nat) (l:List S):Option (List Box × Nat) :=
 if (l.drop (skip l)).head? = some (2,[59]) then some ([],skip l+1) else (boxes f (l.drop (skip l))).map λp=>(p.1,skip l+p.2)
def group (l:List S):Option (Ent × Nat) :=
 if name l ≠ []/\(l.drop (len l)).head? = some (2,[58]) then
  match inner (l.length+1) (l.drop (len l+1)) with
  | none=>none
  | some (r,k)=>some (⟨true,name l,r⟩,len l+1+k+skip (l.drop (len l+1+k)))
 else none
def ent (l:List S):Option (Ent × Nat) :=
 match box l with
 | some (s,m,n)=>some (⟨false,s,[m]⟩,n)
 | none=>group l
def Dg:Nat->List S->Option (List Ent)
 | 0,_=>none
 | f+1,l =>
  match ent l with
  | none=>none
  | some (e,n) =>
   if (l.drop n).isEmpty then some [e]
   else if (l.drop n).head? = some (2,[44]) then (Dg f (l.drop (n+1))).map (e::·) else none
inductive BoxS:Box->List S->Prop
 | mk {x y:List UInt8} {n0 P D:List S} (h0:∀ k ∈ n0,Az k=true) (hP:Says x P) (hD:SaysD y D):BoxS (x,y) (n0 ++ (P ++ ((2,[64])::D)))
inductive RowS:List Box->List S->Prop
 | one {m:Box} {M:List S} (h:BoxS m M):RowS [m] M
 | more {m:Box} {M R:List S} {r:List Box} (h:BoxS m M) (t:RowS r R):RowS (m::r) (M ++ (2,[44])::R)
def Ends (r:List S):Prop:=∀ k t,r=k::t->k=(2,[44])\/k=(2,[59])\/k=(2,[62])
theorem Avz:Ends []:=λ_ _ e=>by cases e
theorem Oc {k:S} {t:List S} (h:k=(2,[44])\/k=(2,[59])\/k=(2,[62])):Ends (k::t):=λj u e=>by
 injection e with e1 _
 rw [<- e1];exact h
theorem Arb {r:List S} (h:Ends r):Stop r:=λk t e=>by
 rcases h k t e with rfl | rfl | rfl<;>decide
theorem Ao1 {r:List S} (h:Ends r):∀ k t,r=k::t->Az k=false:=λk t e=>by
 rcases h k t e with rfl | rfl | rfl<;>rfl
theorem Ue {r:List S} (h:Ends r):skip r=0:=by
 cases r with
 | nil=>rfl
 | cons k t=>rw [skip,Ao1 h k t rfl];rfl
theorem Aj4 {x y:List UInt8} {M r:List S} (h:BoxS (x,y) M) (hr:Ends r):take (M ++ r)=some (x,y,M.length):=by
 cases h with
 | mk h0 hP hD =>
  rename_i n0 P D
  have no:∀ k ∈ ([]:List S),Az k=true:=λk hk=>by cases hk
  have:=At6 (n1:=[]) (n2:=[]) (n3:=[]) h0 no no no hP hD (Arb hr) (Ao1 hr);simpa only [List.nil_append,List.append_nil,jaq,jah] using this
theorem Azf {m:Box} {M:List S} (h:BoxS m M):0<M.length:=by
 cases h with
 | mk h0 hP hD=>simp only [jab,jac];omega
theorem Ad8 {m:Box} {M r:List S} (h:BoxS m M) (hr:Ends r):box (M ++ r)=some ([],m,M.length):=by
 obtain ⟨x,y⟩:=m;unfold box;rw [Aj4 h hr]
theorem Aqk {r:List Box} {R:List S} (h:RowS r R):∀ (t:List S) (f:Nat),R.length<f->boxes f (R ++ (2,[59])::t)=some (r,R.length+1):=by
 induction h with
 | one h =>
  intro t f hf;obtain ⟨f,rfl⟩:∃ g,f=g+1:=⟨f - 1,by omega⟩
  rw [boxes,Ad8 h (Oc (.inr (.inl rfl)))];simp only [List.drop_left,List.head?_cons,if_true]
 | more h hR ih =>
  rename_i m M R r
  intro t f hf;obtain ⟨f,rfl⟩:∃ g,f=g+1:=⟨f - 1,by omega⟩
  have hM:=Azf h;simp only [jab,jac] at hf;rw [jaq,jah,boxes,Ad8 h (Oc (.inl rfl))];have d1:(M ++ (2,[44])::(R ++ (2,[59])::t)).drop (M.length+1)=R ++ (2,[59])::t:=by rw [<- List.drop_drop,List.drop_left];rfl
  simp only [List.drop_left,List.head?_cons];rw [if_neg jD,if_pos trivial,d1,ih t f jO];simp only [jab,jac];congr 2;omega
theorem Ub {n0 w r:List S} {s:List UInt8} {c:UInt8} {j:Int} (hj:j=0\/j=1) (h0:∀ k ∈ n0,Az k=true) (hw:∀ k ∈ w,Az k=true) (hc:c ≠ 64) (hd:c ≠ 46) :
  take (n0 ++ (j,s)::(w ++ (2,[c])::r))=none/\len (n0 ++ (j,s)::(w ++ (2,[c])::r))=n0.length+1+w.length/\name (n0 ++ (j,s)::(w ++ (2,[c])::r))=s:=by
 have hp:pre (n0 ++ (j,s)::(w ++ (2,[c])::r))=n0 ++ (j,s)::w:=by
  unfold pre;rw [List.takeWhile_append_of_pos (λk hk=>by rw [h0 k hk];rfl),List.takeWhile_cons_of_pos (by rcases hj with rfl | rfl<;>rfl),List.takeWhile_append_of_pos (λk hk=>by rw [hw k hk];rfl),List.takeWhile_cons_of_neg (by show ¬ (Az (2,[c]) || word (2,[c]))=true;simp [Az,word])];rw [List.append_nil]
 have hwj:word (j,s)=true:=by rcases hj with rfl | rfl<;>rfl
 have hnj:Az (j,s)=false:=by rcases hj with rfl | rfl<;>rfl
 have fno:∀ l:List S,(∀ k ∈ l,Az k=true)->l.filter word=[]:=λl hl=>by
  rw [List.filter_eq_nil_iff];intro k hk;have:=hl k hk;unfold Az at this;unfold word;rw [Bool.or_eq_true,beq_iff_eq,beq_iff_eq] at this;rcases this with e | e<;>rw [e]<;>decide
 refine ⟨?_,?_,?_⟩
 ·have s0:skip (n0 ++ (j,s)::(w ++ (2,[c])::r))=n0.length:=Hy _ _ h0 (λk t e=>by injection e with e1 _;rw [<- e1];exact hnj);have s1:skip (w ++ (2,[c])::r)=w.length:=Hy _ _ hw (λk t e=>by injection e with e1 _;rw [<- e1];rfl);have hst:Stop (w ++ (2,[c])::r):=Nr hw (λk t e=>by injection e with e1 _;rw [<- e1];intro e2;injection e2 with _ e2;injection e2 with e2 _;exact hd e2);have hsay:Says s [(j,s)]:=by
   rcases hj with rfl | rfl
   · exact Says.words (q:=[s]) jS
   · exact .quote s
  have hloc:Ed ((j,s)::(w ++ (2,[c])::r))=some (s,1):=Ac7 hsay hst;unfold take;rw [s0,List.drop_left,hloc];simp only;have d1:(n0 ++ (j,s)::(w ++ (2,[c])::r)).drop (n0.length+1)=w ++ (2,[c])::r:=by rw [<- List.drop_drop,List.drop_left];rfl
  rw [d1,s1];unfold Zu;rw [if_neg];rw [<- List.drop_drop,d1,List.drop_left,List.head?_cons];intro e;injection e with e
  injection e with _ e
  injection e with e _
  exact hc e
 ·unfold len;rw [hp];simp only [jab,jac];omega
 ·unfold name;rw [hp,List.filter_append,fno _ h0,List.filter_cons_of_pos hwj,fno _ hw];rfl
inductive EntS:Ent->List S->Prop
 | plain {m:Box} {M:List S} (h:BoxS m M):EntS ⟨false,[],[m]⟩ M
 | named {m:Box} {M n0 w:List S} {s:List UInt8} {j:Int} (hj:j=0\/j=1) (h0:∀ k ∈ n0,Az k=true) (hw:∀ k ∈ w,Az k=true) (h:BoxS m M):EntS ⟨false,s,[m]⟩ (n0 ++ (j,s)::(w ++ (2,[60])::(M ++ [(2,[62])])))
 | none {n0:List S} {s:List UInt8} {j:Int} (hj:j=0\/j=1) (h0:∀ k ∈ n0,Az k=true) (hs:s ≠ []):EntS ⟨true,s,[]⟩ (n0 ++ [(j,s),(2,[58]),(2,[59])])
 | group {n0 R:List S} {s:List UInt8} {r:List Box} {j:Int} (hj:j=0\/j=1) (h0:∀ k ∈ n0,Az k=true) (hs:s ≠ []) (h:RowS r R):EntS ⟨true,s,r⟩ (n0 ++ (j,s)::(2,[58])::(R ++ [(2,[59])]))
theorem Ax6 {r:List Box} {R:List S} (h:RowS r R):∃ n0 P,R=n0 ++ P/\(∀ k ∈ n0,Az k=true)/\RowS r P/\∃ k t,P=k::t/\Az k=false/\(k.1=0\/k.1=1):=by
 have hb:∀ {m:Box} {M:List S},BoxS m M->∃ n0 P,M=n0 ++ P/\(∀ k ∈ n0,Az k=true)/\BoxS m P/\∃ k t,P=k::t/\Az k=false/\(k.1=0\/k.1=1):=by
  intro m M h;cases h with
  | mk h0 hP hD =>
   obtain ⟨k,t,e,h1,h2⟩:=Ac6 hP;exact ⟨_,_,rfl,h0,.mk (n0:=[]) (λk hk=>by cases hk) hP hD,k,_,by rw [e];rfl,h1,h2⟩
 cases h with
 | one h=>obtain ⟨n0,P,e,h0,hP,hk⟩:=hb h;exact ⟨n0,P,e,h0,.one hP,hk⟩
 | more h t =>
  obtain ⟨n0,P,e,h0,hP,k,u,e2,hk⟩:=hb h;exact ⟨n0,_,by rw [e,jaq],h0,.more hP t,k,_,by rw [e2];rfl,hk⟩
theorem Arn {r:List Box} {R t:List S} {f:Nat} (h:RowS r R) (hf:R.length<f):inner f (R ++ (2,[59])::t)=some (r,R.length+1):=by
 obtain ⟨n0,P,rfl,h0,hP,k,u,e,hk,hw⟩:=Ax6 h;have s0:skip ((n0 ++ P) ++ (2,[59])::t)=n0.length:=by
  rw [jaq];exact Hy _ _ h0 (λj v x=>by rw [e,jah] at x;injection x with x _;rw [<- x];exact hk)
 have d0:((n0 ++ P) ++ (2,[59])::t).drop n0.length=P ++ (2,[59])::t:=by rw [jaq];exact List.drop_left
 rw [jab] at hf;unfold inner;rw [s0,d0,Aqk hP t f jO,if_neg]
 ·rw [jab];simp only [Option.map_some];congr 2
 ·rw [e,jah,List.head?_cons];intro x;injection x with x
  rw [x] at hw;rcases hw with hw | hw<;>cases hw
theorem Ag8 {e:Ent} {E r:List S} (h:EntS e E) (hr:r=[]\/∃ t,r=(2,[44])::t):ent (E ++ r)=some (e,E.length):=by
 have hE:Ends r:=by
  rcases hr with rfl | ⟨t,rfl⟩
  ·exact Avz
  ·exact Oc (.inl rfl)
 cases h with
 | plain h=>unfold ent;rw [Ad8 h hE]
 | named hj h0 hw h =>
  rename_i m M n0 w s j
  obtain ⟨x,y⟩:=m;obtain ⟨q1,q2,q3⟩:=Ub (r:=M ++ (2,[62])::r) (s:=s) (c:=60) hj h0 hw jD jD;have eq:(n0 ++ (j,s)::(w ++ (2,[60])::(M ++ [(2,[62])]))) ++ r=n0 ++ (j,s)::(w ++ (2,[60])::(M ++ (2,[62])::r)):=by simp
  have d0:(n0 ++ (j,s)::(w ++ (2,[60])::(M ++ (2,[62])::r))).drop (n0.length+1+w.length)=(2,[60])::(M ++ (2,[62])::r):=by
   rw [<- List.drop_drop,<- List.drop_drop,List.drop_left];exact List.drop_left
  have d1:(n0 ++ (j,s)::(w ++ (2,[60])::(M ++ (2,[62])::r))).drop (n0.length+1+w.length+1)=M ++ (2,[62])::r:=by rw [<- List.drop_drop,d0];rfl
  have d2:(n0 ++ (j,s)::(w ++ (2,[60])::(M ++ (2,[62])::r))).drop (n0.length+1+w.length+1+M.length)=(2,[62])::r:=by rw [<- List.drop_drop,d1,List.drop_left]
  have d3:(n0 ++ (j,s)::(w ++ (2,[60])::(M ++ (2,[62])::r))).drop (n0.length+1+w.length+M.length+2)=r:=by
   rw [show n0.length+1+w.length+M.length+2=n0.length+1+w.length+1+M.length+1 by omega,<- List.drop_drop,d2];rfl
  unfold ent box;rw [eq,q1];simp only;rw [q2,d0,List.head?_cons,if_pos rfl,d1,Aj4 h (Oc (.inr (.inr rfl)))];simp only;rw [d2,List.head?_cons,if_pos rfl,d3,Ue hE,q3];simp only [jab,jac,List.length_nil];congr 2;omega
 | none hj h0 hs =>
  rename_i n0 s j
  obtain ⟨q1,q2,q3⟩:=Ub (w:=[]) (r:=(2,[59])::r) (s:=s) (c:=58) hj h0 (λk hk=>by cases hk) jD jD;simp only [List.nil_append,List.length_nil,Nat.add_zero] at q1 q2 q3;have eq:(n0 ++ [(j,s),(2,[58]),(2,[59])]) ++ r=n0 ++ (j,s)::(2,[58])::(2,[59])::r:=by simp
  have d0:(n0 ++ (j,s)::(2,[58])::(2,[59])::r).drop (n0.length+1)=(2,[58])::(2,[59])::r:=by rw [<- List.drop_drop,List.drop_left];rfl
  have d1:(n0 ++ (j,s)::(2,[58])::(2,[59])::r).drop (n0.length+1+1)=(2,[59])::r:=by rw [<- List.drop_drop,d0];rfl
  have d2:(n0 ++ (j,s)::(2,[58])::(2,[59])::r).drop (n0.length+1+1+1)=r:=by rw [<- List.drop_drop,d1];rfl
  have hi:inner ((n0 ++ (j,s)::(2,[58])::(2,[59])::r).length+1) ((2,[59])::r)=some ([],1):=rfl;unfold ent box;rw [eq,q1];simp only;rw [q2,d0,List.head?_cons,if_neg jD];unfold group;rw [q2,q3,d0,d1,hi,if_pos ⟨hs,rfl⟩];simp only;rw [d2,Ue hE];simp only [jab,jac,List.length_nil]
 | group hj h0 hs h =>
  rename_i n0 R s r' j
  obtain ⟨q1,q2,q3⟩:=Ub (w:=[]) (r:=R ++ (2,[59])::r) (s:=s) (c:=58) hj h0 (λk hk=>by cases hk) jD jD;simp only [List.nil_append,List.length_nil,Nat.add_zero] at q1 q2 q3;have eq:(n0 ++ (j,s)::(2,[58])::(R ++ [(2,[59])])) ++ r=n0 ++ (j,s)::(2,[58])::(R ++ (2,[59])::r):=by simp
  have d0:(n0 ++ (j,s)::(2,[58])::(R ++ (2,[59])::r)).drop (n0.length+1)=(2,[58])::(R ++ (2,[59])::r):=by rw [<- List.drop_drop,List.drop_left];rfl
  have d1:(n0 ++ (j,s)::(2,[58])::(R ++ (2,[59])::r)).drop (n0.length+1+1)=R ++ (2,[59])::r:=by rw [<- List.drop_drop,d0];rfl
  have d2:(n0 ++ (j,s)::(2,[58])::(R ++ (2,[59])::r)).drop (n0.length+1+1+(R.length+1))=r:=by
   rw [<- List.drop_drop,d1,<- List.drop_drop,List.drop_left];rfl
  have hi:=Arn (t:=r) (f:=(n0 ++ (j,s)::(2,[58])::(R ++ (2,[59])::r)).length+1) h (by simp only [jab,jac];omega);unfold ent box;rw [eq,q1];simp only;rw [q2,d0,List.head?_cons,if_neg jD];unfold group;rw [q2,q3,d0,d1,hi,if_pos ⟨hs,rfl⟩];simp only;rw [d2,Ue hE];simp only [jab,jac,List.length_nil];congr 2;omega
inductive ListS:List Ent->List S->Prop
 | one {e:Ent} {E:List S} (h:EntS e E):ListS [e] E
 | more {e:Ent} {E R:List S} {r:List Ent} (h:EntS e E) (t:ListS r R):ListS (e::r) (E ++ (2,[44])::R)
theorem Tg {r:List Ent} {R:List S} (h:ListS r R):∀ f,R.length<f->Dg f R=some r:=by
 induction h with
 | one h =>
  rename_i e E
  intro f hf;obtain ⟨f,rfl⟩:∃ g,f=g+1:=⟨f - 1,by omega⟩
  have:=Ag8 h (r:=[]) (.inl rfl);rw [List.append_nil] at this;rw [Dg,this];simp only [List.drop_length,List.isEmpty_nil,if_true]
 | more h t ih =>
  rename_i e E R r
  intro f hf;obtain ⟨f,rfl⟩:∃ g,f=g+1:=⟨f - 1,by omega⟩
  simp only [jab,jac] at hf;have d1:(E ++ (2,[44])::R).drop (E.length+1)=R:=by rw [<- List.drop_drop,List.drop_left];rfl
  rw [Dg,Ag8 h (.inr ⟨_,rfl⟩)];simp only [List.drop_left,List.head?_cons];rw [if_neg jS,if_pos trivial,d1,ih f jO];rfl
end Lst
end
section
open Utf
namespace Lst
open Lex Mbx
def Fi (m:Box):List UInt8:=Dt m.1 ++ 64::m.2
def rowP:List Box->List UInt8
 | []=>[]
 | [m]=>Fi m
 | m::n::r=>Fi m ++ 44::32::rowP (n::r)
def Hs (e:Ent):List UInt8 :=
 if e.grp then Bd 1 e.name ++ 58::(rowP e.boxes ++ [59])
 else if e.name=[] then rowP e.boxes else Bd 1 e.name ++ 32::60::(rowP e.boxes ++ [62])
def Mn:List Ent->List UInt8
 | []=>[]
 | [e]=>Hs e
 | e::f::r=>Hs e ++ 44::32::Mn (f::r)
def Aun (m:Box):Prop:=(∀ b ∈ m.1,Ao b=true)/\Avj m.2=true
def Ay5 (e:Ent):Prop:=(∀ b ∈ e.name,Ao b=true)/\(∀ m ∈ e.boxes,Aun m)/\(if e.grp then e.name ≠ [] else e.boxes.length=1)
def lead (b:Bool):List UInt8:=if b then [32] else []
def Uz (a:Nat) (b:Bool):List Tok:=if b then [⟨4,[32],a⟩] else []
theorem Ah3 {a:Nat} {c:UInt8} {r:List UInt8} {ts:List Tok} (b:Bool) (hc:As c=true\/c.toNat=34) (h:Cuts (a+(lead b).length) (c::r) ts):Cuts a (lead b ++ c::r) (Uz a b ++ ts):=by
 cases b with
 | false=>exact h
 | true =>
  have hw:An (c::r)=0:=by
   rcases hc with hc | hc
   ·have:=Af7 c hc;exact He this.2.2.1 this.2.2.2.1
   ·exact He (by rw [hc];decide) (by rw [hc];decide)
  have h1:An (32::c::r)=1:=by rw [Ib jD,hw]
  have ho:=Ku (c:=32) (t:=c::r) (by rw [h1];decide);rw [h1] at ho;exact .cons ho h
theorem V7 (a:Nat) (b:Bool):∀ k ∈ (Uz a b).map Cy,Az k=true:=by
 cases b with
 | false=>intro k hk;cases hk
 | true =>
  intro k hk;rw [show (Uz a true).map Cy=[(4,[32])] from rfl,List.mem_singleton] at hk;rw [hk];rfl
theorem Amf (x:List UInt8):∃ c t,Dt x=c::t/\(As c=true\/c.toNat=34):=by
 unfold Dt;by_cases hw:Ef x=true
 ·rw [if_pos hw];obtain ⟨p,q,e⟩:=Ni x;unfold Ef at hw;rw [e,List.all_cons,jag] at hw;have hp:=hw.1;have hd:=Jf x;rw [e] at hd;unfold Gm at hp;rw [jag] at hp;cases p with
  | nil=>exact absurd hp.1 jS
  | cons c t =>
   rw [List.all_cons,jag] at hp;cases q with
   | nil=>exact ⟨c,t,hd.symm,.inl hp.2.1⟩
   | cons u v=>exact ⟨c,t ++ 46::Cr (u::v),hd.symm,.inl hp.2.1⟩
 ·rw [if_neg hw];exact ⟨34,_,rfl,.inr rfl⟩
theorem N6 {a:Nat} {m:Box} {r:List UInt8} {ts:List Tok} (b:Bool) (hm:Aun m) (hr:Jc r) (h:Cuts (a+(lead b).length+(Fi m).length) r ts):∃ ws:List Tok,Cuts a (lead b ++ (Fi m ++ r)) (ws ++ ts)/\BoxS m (ws.map Cy):=by
 obtain ⟨x,y⟩:=m;have hl:(Fi (x,y)).length=(Dt x).length+1+y.length:=by simp only [Fi,jab,jac];omega
 rw [hl] at h;obtain ⟨wD,D,cD,mD,sD⟩:=Azm hm.2 hr (a:=a+(lead b).length+(Dt x).length+1) (by rw [show a+(lead b).length+(Dt x).length+1+y.length=a+(lead b).length+((Dt x).length+1+y.length) by omega];exact h);have cA:=El (a:=a+(lead b).length+(Dt x).length) (c:=64) jD cD;obtain ⟨wP,P,cP,mP,sP⟩:=Ar3 hm.1 (Dp jD) cA;obtain ⟨c,t,e,hc⟩:=Amf x;rw [e,jah] at cP;have c0:=Ah3 b hc cP;refine ⟨Uz a b ++ (wP ++ ⟨2,[64],a+(lead b).length+(Dt x).length⟩::wD),?_,?_⟩
 ·have e2:Fi (x,y) ++ r=c::(t ++ 64::(y ++ r)):=by show (Dt x ++ 64::y) ++ r=_;rw [e];simp
  rw [e2,e];simpa only [jaq,jah] using c0
 ·simp only [List.map_append,List.map_cons,mP,mD];exact .mk (V7 a b) sP sD
theorem Apu {r:List UInt8} {ts:List Tok} (hr:Jc r):∀ (l:List Box) (a:Nat) (b:Bool),l ≠ []->(∀ m ∈ l,Aun m)->Cuts (a+(lead b).length+(rowP l).length) r ts->∃ ws:List Tok,Cuts a (lead b ++ (rowP l ++ r)) (ws ++ ts)/\RowS l (ws.map Cy)
 | [],_,_,h,_,_=>absurd rfl h
 | [m],a,b,_,hm,h=>by
  obtain ⟨ws,h1,h2⟩:=N6 b (hm m jS) hr h;exact ⟨ws,h1,.one h2⟩
 | m::n::l,a,b,_,hm,h=>by
  have hl:(rowP (m::n::l)).length=(Fi m).length+1+((lead true).length+(rowP (n::l)).length):=by
   show (Fi m ++ 44::32::rowP (n::l)).length=_;simp only [jab,jac,lead,if_true,List.length_nil];omega
  obtain ⟨ws,h1,h2⟩:=Apu hr (n::l) (a+(lead b).length+(Fi m).length+1) true jS (λk hk=>hm k (by simp [jal.1 hk])) (by rw [show a+(lead b).length+(Fi m).length+1+(lead true).length+(rowP (n::l)).length=a+(lead b).length+(rowP (m::n::l)).length by omega];exact h);have hs:=El (a:=a+(lead b).length+(Fi m).length) (c:=44) jD h1;obtain ⟨wm,h3,h4⟩:=N6 b (hm m jS) (Dp jD) hs;refine ⟨wm ++ ⟨2,[44],a+(lead b).length+(Fi m).length⟩::ws,?_,?_⟩
  ·have e2:rowP (m::n::l) ++ r=Fi m ++ 44::(lead true ++ (rowP (n::l) ++ r)):=by
    show (Fi m ++ 44::32::rowP (n::l)) ++ r=_;simp [lead]
   rw [e2];simpa only [jaq,jah] using h3
  ·rw [List.map_append,List.map_cons];exact .more h4 h2
theorem P8 {a:Nat} {x r:List UInt8} {ts:List Tok} (b:Bool) (hx:∀ c ∈ x,Ao c=true) (h:Cuts (a+(lead b).length+(Bd 1 x).length) r ts):Cuts a (lead b ++ (Bd 1 x ++ r)) (Uz a b ++ ⟨1,x,a+(lead b).length⟩::ts):=by
 have:=Acs hx h;exact Ah3 b (.inr rfl) this
theorem Ao2 {a:Nat} {e:Ent} {r:List UInt8} {ts:List Tok} (b:Bool) (he:Ay5 e) (hr:Jc r) (h:Cuts (a+(lead b).length+(Hs e).length) r ts):∃ ws:List Tok,Cuts a (lead b ++ (Hs e ++ r)) (ws ++ ts)/\EntS e (ws.map Cy):=by
 obtain ⟨g,s,l⟩:=e;obtain ⟨h1,h2,h3⟩:=he;simp only at h1 h2 h3;cases g with
 | false =>
  rw [if_neg jD] at h3;obtain ⟨m,rfl⟩:∃ m,l=[m]:=by
   cases l with
   | nil=>cases h3
   | cons m u=>cases u with
    | nil=>exact ⟨m,rfl⟩
    | cons _ _=>simp only [jac] at h3;omega
  by_cases hs:s=[]
  ·subst hs;obtain ⟨ws,c1,c2⟩:=N6 b (h2 m jS) hr h;exact ⟨ws,c1,.plain c2⟩
  ·have eP:Hs ⟨false,s,[m]⟩=Bd 1 s ++ 32::60::(Fi m ++ [62]):=by simp [Hs,hs,rowP]
   rw [eP] at h ⊢;simp only [jab,jac,List.length_nil] at h;have cZ:=El (a:=a+(lead b).length+(Bd 1 s).length+2+(Fi m).length) (c:=62) jD (r:=r) (ts:=ts) (by rw [show a+(lead b).length+(Bd 1 s).length+2+(Fi m).length+1=a+(lead b).length+((Bd 1 s).length+((Fi m).length+(0+1)+1+1)) by omega];exact h);obtain ⟨wm,c1,c2⟩:=N6 (a:=a+(lead b).length+(Bd 1 s).length+2) false (h2 m jS) (Dp jD) cZ;have cO:=El (a:=a+(lead b).length+(Bd 1 s).length+1) (c:=60) jD c1;have hw1:An (32::60::(lead false ++ (Fi m ++ 62::r)))=1:=by rw [Ib jD,He jD jD]
   have ho:=Ku (c:=32) (t:=60::(lead false ++ (Fi m ++ 62::r))) (by rw [hw1];decide);rw [hw1] at ho;have cW:Cuts (a+(lead b).length+(Bd 1 s).length) (32::60::(lead false ++ (Fi m ++ 62::r))) _:=.cons ho cO;have cQ:=P8 b h1 cW;refine ⟨Uz a b ++ ⟨1,s,a+(lead b).length⟩::⟨4,[32],a+(lead b).length+(Bd 1 s).length⟩::⟨2,[60],a+(lead b).length+(Bd 1 s).length+1⟩::(wm ++ [⟨2,[62],a+(lead b).length+(Bd 1 s).length+2+(Fi m).length⟩]),?_,?_⟩
   ·have e2:(Bd 1 s ++ 32::60::(Fi m ++ [62])) ++ r=Bd 1 s ++ 32::60::(lead false ++ (Fi m ++ 62::r)):=by simp [lead]
    rw [e2];simpa only [jaq,jah,List.nil_append,List.take_succ_cons,List.take_zero] using cQ
   ·simp only [List.map_append,List.map_cons,List.map_nil];exact EntS.named (w:=[(4,[32])]) (.inr rfl) (V7 a b) (λk hk=>by rw [List.mem_singleton] at hk;rw [hk];rfl) c2
 | true =>
  rw [if_pos rfl] at h3;have eP:Hs ⟨true,s,l⟩=Bd 1 s ++ 58::(rowP l ++ [59]):=by simp [Hs]
  rw [eP] at h ⊢;simp only [jab,jac,List.length_nil] at h;have cZ:=El (a:=a+(lead b).length+(Bd 1 s).length+1+(rowP l).length) (c:=59) jD (r:=r) (ts:=ts) (by rw [show a+(lead b).length+(Bd 1 s).length+1+(rowP l).length+1=a+(lead b).length+((Bd 1 s).length+((rowP l).length+(0+1)+1)) by omega];exact h);by_cases hl:l=[]
  ·subst hl;have cO:=El (a:=a+(lead b).length+(Bd 1 s).length) (c:=58) jD cZ;have cQ:=P8 b h1 cO;refine ⟨Uz a b ++ [⟨1,s,a+(lead b).length⟩,⟨2,[58],a+(lead b).length+(Bd 1 s).length⟩,⟨2,[59],a+(lead b).length+(Bd 1 s).length+1⟩],?_,?_⟩
   ·simpa [rowP] using cQ
   ·simp only [List.map_append,List.map_cons,List.map_nil];exact .none (.inr rfl) (V7 a b) h3
  ·obtain ⟨ws,c1,c2⟩:=Apu (Dp jD) l (a+(lead b).length+(Bd 1 s).length+1) false hl h2 cZ;have cO:=El (a:=a+(lead b).length+(Bd 1 s).length) (c:=58) jD c1;have cQ:=P8 b h1 cO;refine ⟨Uz a b ++ ⟨1,s,a+(lead b).length⟩::⟨2,[58],a+(lead b).length+(Bd 1 s).length⟩::(ws ++ [⟨2,[59],a+(lead b).length+(Bd 1 s).length+1+(rowP l).length⟩]),?_,?_⟩
   ·have e2:(Bd 1 s ++ 58::(rowP l ++ [59])) ++ r=Bd 1 s ++ 58::(lead false ++ (rowP l ++ 59::r)):=by simp [lead]
    rw [e2];simpa only [jaq,jah,List.nil_append] using cQ
   ·simp only [List.map_append,List.map_cons,List.map_nil];exact .group (.inr rfl) (V7 a b) h3 c2
theorem Ah5:∀ (l:List Ent) (a:Nat) (b:Bool),l ≠ []->(∀ e ∈ l,Ay5 e)->∃ ws:List Tok,Cuts a (lead b ++ Mn l) ws/\ListS l (ws.map Cy)
 | [],_,_,h,_=>absurd rfl h
 | [e],a,b,_,he=>by
  obtain ⟨ws,h1,h2⟩:=Ao2 (r:=[]) (ts:=[]) b (he e jS) Yj (.nil _);rw [List.append_nil,List.append_nil] at h1;exact ⟨ws,h1,.one h2⟩
 | e::f::l,a,b,_,he=>by
  obtain ⟨ws,h1,h2⟩:=Ah5 (f::l) (a+(lead b).length+(Hs e).length+1) true jS (λk hk=>he k (by simp [jal.1 hk]));have hs:=El (a:=a+(lead b).length+(Hs e).length) (c:=44) jD h1;obtain ⟨wm,h3,h4⟩:=Ao2 b (he e jS) (Dp jD) hs;refine ⟨wm ++ ⟨2,[44],a+(lead b).length+(Hs e).length⟩::ws,h3,?_⟩;rw [List.map_append,List.map_cons];exact .more h4 h2
theorem Arz {l:List Ent} (hl:l ≠ []) (he:∀ e ∈ l,Ay5 e):∃ ts:List Tok,Cuts 0 (Mn l) ts/\∀ f,ts.length<f->Dg f (ts.map Cy)=some l:=by
 obtain ⟨ws,h1,h2⟩:=Ah5 l 0 false hl he;exact ⟨ws,h1,λf hf=>Tg h2 f (by rw [jai];exact hf)⟩
end Lst
end
section
open Utf
namespace Lst
open Lex Mbx
def rep:Nat->List UInt8
 | 0=>[97,64,98]
 | n+1=>rep n ++ [44,97,64,98]
theorem Ajf:∀ n,rep (n+1)=97::64::98::44::rep n
 | 0=>rfl
 | n+1=>by
  show rep (n+1) ++ [44,97,64,98]=97::64::98::44::(rep n ++ [44,97,64,98])
  rw [Ajf n];rfl
theorem Me:∀ n,(rep n).length=4*n+3
 | 0=>rfl
 | n+1=>by rw [rep,jab,Me n];simp only [jac,List.length_nil];omega
def It:Box:=([97],[98])
theorem Apq:Fi It=[97,64,98]:=by decide
theorem Yp:Aun It:=⟨by decide,by decide⟩
theorem Ae8 {r:List UInt8} {ts:List Tok} (hr:Jc r):∀ (n a:Nat),Cuts (a+(rep n).length) r ts->∃ ws:List Tok,Cuts a (rep n ++ r) (ws ++ ts)/\RowS (List.replicate (n+1) It) (ws.map Cy)/\ListS (List.replicate (n+1) ⟨false,[],[It]⟩) (ws.map Cy)
 | 0,a,h=>by
  obtain ⟨ws,h1,h2⟩:=N6 (a:=a) false Yp hr (by rw [Apq];exact h);exact ⟨ws,h1,.one h2,.one (.plain h2)⟩
 | n+1,a,h=>by
  obtain ⟨ws,h1,h2,h3⟩:=Ae8 hr n (a+4) (by rw [show a+4+(rep n).length=a+(rep (n+1)).length by rw [Me,Me];omega];exact h);have hs:=El (a:=a+3) (c:=44) jD h1;obtain ⟨wm,h4,h5⟩:=N6 (a:=a) false Yp (Dp jD) hs;refine ⟨wm ++ ⟨2,[44],a+3⟩::ws,?_,?_,?_⟩
  ·rw [Ajf];rw [Apq,show lead false=[] from rfl] at h4;simpa only [jaq,jah,List.nil_append] using h4
  ·rw [List.map_append,List.map_cons];exact .more h5 h2
  ·rw [List.map_append,List.map_cons];exact .more (.plain h5) h3
theorem Ab4 (n:Nat):∃ ts:List Tok,Cuts 0 (rep n) ts/\∀ f,ts.length<f->Dg f (ts.map Cy)=some (List.replicate (n+1) ⟨false,[],[It]⟩):=by
 obtain ⟨ws,h1,-,h3⟩:=Ae8 Yj n 0 (ts:=[]) (.nil _);rw [List.append_nil,List.append_nil] at h1;exact ⟨ws,h1,λf hf=>Tg h3 f (by rw [jai];exact hf)⟩
theorem Xq (n:Nat):∃ ts:List Tok,Cuts 0 (103::58::(rep n ++ [59])) ts/\∀ f,ts.length<f->Dg f (ts.map Cy)=some [⟨true,[103],List.replicate (n+1) It⟩]:=by
 have cZ:=El (a:=2+(rep n).length) (c:=59) (r:=[]) (ts:=[]) jD (.nil _);obtain ⟨ws,h1,h2,-⟩:=Ae8 (Dp jD) n 2 cZ;have cO:=El (a:=1) (c:=58) jD h1;have cP:=So (a:=0) (p:=[103]) jD (Dp jD) cO;refine ⟨_,cP,λf hf=>Tg (.one ?_) f (by rw [jai];exact hf)⟩;simp only [List.map_append,List.map_cons,List.map_nil];exact EntS.group (n0:=[]) (.inl rfl) (λk hk=>by cases hk) jD h2
end Lst
end
section
open Utf
namespace Lst
open Lex Mbx
def A2h (x:List UInt8):Prop:=(∀ b ∈ x,Ao b=true)/\ok x
def Whole (e:Ent):Prop:=A2h e.name/\(if e.grp then e.name ≠ [] else e.boxes.length=1)
end Lst
end
section
open Go.RowKit Utf
namespace Lst
open Lex Mbx
def Ka (x:List UInt8):Bool:=decide ((Aq x).2=-1)
def odd (e:Ent):Bool:=if e.grp then e.name.isEmpty else e.boxes.length != 1
def flat (l:List Ent):List Box:=l.flatMap (·.boxes)
def Fw:List Box->Int
 | []=>0
 | m::r=>if Dc m.1 m.2 ≠ 0 then Dc m.1 m.2 else Fw r
def Fk (l:List Ent):Int :=
 if l.isEmpty || l.any odd then 1 else if l.any (λe=>!Ka e.name) then 7 else if l.any (λe=>!e.name.all Ao) then 8
 else if 100<(flat l).length then 2 else Fw (flat l)
def Jm (E:Int) (ts:List Tok):Int × List Ent :=
 if E ≠ 0 then (E,[]) else match Dg (ts.length+1) (ts.map Cy) with
  | none=>(4,[])
  | some r=>if Fk r=0 then (0,r) else (Fk r,[])
def Cx (s:List UInt8):Int × List Ent:=Jm (Fm s).1 (Fm s).2.2
theorem Uu:∀ {l:List Box},Fw l=0->∀ m ∈ l,Dc m.1 m.2=0
 | [],_,m,hm=>by cases hm
 | a::r,h,m,hm=>by
  rw [Fw] at h;by_cases ha:Dc a.1 a.2 ≠ 0
  ·rw [if_pos ha] at h;exact absurd h ha
  ·rw [if_neg ha] at h;rcases jal.1 hm with rfl | hm
   · exact Decidable.not_not.1 ha
   · exact Uu h m hm
theorem Ab1:∀ {l:List Box},(∀ m ∈ l,Dc m.1 m.2=0)->Fw l=0
 | [],_=>rfl
 | a::r,h=>by rw [Fw,if_neg (λe=>e (h a jS))];exact Ab1 λm hm=>h m (by simp [hm])
theorem Afb {l:List Ent} (h:Fk l=0):l ≠ []/\(flat l).length<=100/\∀ e ∈ l,odd e=false/\ok e.name/\(∀ b ∈ e.name,Ao b=true)/\∀ m ∈ e.boxes,Dc m.1 m.2=0:=by
 unfold Fk at h;by_cases h1:(l.isEmpty || l.any odd)=true
 ·rw [if_pos h1] at h;cases h
 rw [if_neg h1] at h;by_cases h2:l.any (λe=>!Ka e.name)=true
 ·rw [if_pos h2] at h;cases h
 rw [if_neg h2] at h;by_cases h3:l.any (λe=>!e.name.all Ao)=true
 ·rw [if_pos h3] at h;cases h
 rw [if_neg h3] at h;by_cases h4:100<(flat l).length
 ·rw [if_pos h4] at h;cases h
 rw [if_neg h4] at h;rw [Bool.or_eq_true,not_or] at h1;refine ⟨λe=>h1.1 (by rw [e];rfl),by omega,λe he=>⟨?_,?_,?_,λm hm=>Uu h m (by unfold flat;rw [List.mem_flatMap];exact ⟨e,he,hm⟩)⟩⟩
 ·cases ho:odd e with
  | false=>rfl
  | true=>exact absurd (List.any_eq_true.2 ⟨e,he,ho⟩) h1.2
 ·cases ho:Ka e.name with
  | true=>unfold Ka at ho;exact (of_decide_eq_true ho:(Aq e.name).2=-1)
  | false=>exact absurd (List.any_eq_true.2 ⟨e,he,by rw [ho];rfl⟩) h2
 ·cases ho:e.name.all Ao with
  | true=>exact jar.1 ho
  | false=>exact absurd (List.any_eq_true.2 ⟨e,he,by rw [ho];rfl⟩) h3
theorem Ak4 {m:Box} (h:Dc m.1 m.2=0):Aun m/\ok (Fi m):=by
 obtain ⟨-,-,h3,h4,-⟩:=Aji h;obtain ⟨d1,d2⟩:=Atd h;refine ⟨⟨h4,d2⟩,?_⟩;exact Du (Aww h3) (Du (a:=[64]) (Cs jD) d1)
theorem Mg:∀ {l:List Box},(∀ m ∈ l,Dc m.1 m.2=0)->ok (rowP l)
 | [],_=>Axf
 | [m],h=>(Ak4 (h m jS)).2
 | m::n::r,h=>Du (Ak4 (h m jS)).2 (Du (a:=[44,32]) (Cs jD) (Mg (l:=n::r) λk hk=>h k (by simp [jal.1 hk])))
theorem Axs {x:List UInt8} (h:ok x):ok (Bd 1 x):=by
 have h1:ok (esc x):=Ae3 x [] h;exact Du (a:=[34]) (Cs jD) (Du h1 (Cs (l:=[34]) jD))
theorem Av1 {e:Ent} (h1:ok e.name) (h2:∀ m ∈ e.boxes,Dc m.1 m.2=0):ok (Hs e):=by
 unfold Hs;split
 ·exact Du (Axs h1) (Du (a:=[58]) (Cs jD) (Du (Mg h2) (Cs (l:=[59]) jD)))
 ·split
  · exact Mg h2
  · exact Du (Axs h1) (Du (a:=[32,60]) (Cs jD) (Du (Mg h2) (Cs (l:=[62]) jD)))
theorem Apd:∀ {l:List Ent},(∀ e ∈ l,ok e.name/\∀ m ∈ e.boxes,Dc m.1 m.2=0)->ok (Mn l)
 | [],_=>Axf
 | [e],h=>Av1 (h e jS).1 (h e jS).2
 | e::f::r,h=>Du (Av1 (h e jS).1 (h e jS).2) (Du (a:=[44,32]) (Cs jD) (Apd (l:=f::r) λk hk=>h k (by simp [jal.1 hk])))
theorem Ane {l:List Ent} (h:Fk l=0):l ≠ []/\∀ e ∈ l,Ay5 e:=by
 obtain ⟨h1,-,h2⟩:=Afb h;refine ⟨h1,λe he=>?_⟩;obtain ⟨o,-,n,b⟩:=h2 e he;refine ⟨n,λm hm=>(Ak4 (b m hm)).1,?_⟩;unfold odd at o;cases hg:e.grp with
 | true =>
  rw [hg,if_pos rfl] at o;rw [if_pos rfl];intro e0;rw [e0] at o;cases o
 | false =>
  rw [hg,if_neg jD] at o;rw [if_neg jD];simpa using o
theorem A1f {l:List Ent} (h:Fk l=0):Cx (Mn l)=if 2000<(Mn l).length then (5,[]) else (0,l):=by
 by_cases hl:2000<(Mn l).length
 ·rw [if_pos hl];unfold Cx Fm;rw [if_pos hl];rfl
 ·rw [if_neg hl];obtain ⟨h1,h2⟩:=Ane h;obtain ⟨ts,c,he⟩:=Arz h1 h2;have ho:ok (Mn l):=Apd λe he=>⟨((Afb h).2.2 e he).2.1,((Afb h).2.2 e he).2.2.2⟩
  have hx:=Qz jO ho c;unfold Cx;rw [hx];unfold Jm;rw [if_neg (show ¬ ((0:Int) ≠ 0) by decide)];simp only;rw [he (ts.length+1) jO];simp only;rw [if_pos h]
theorem A1g {s:List UInt8} {E:Int} {l:List Ent} (h:Cx s=(E,l)):(E=0->Fk l=0)/\(E ≠ 0->l=[]):=by
 unfold Cx Jm at h;split at h
 ·injection h with h1 h2;subst h1 h2;exact ⟨λe=>absurd e jA,λ_=>rfl⟩
 ·split at h
  ·injection h with h1 h2;subst h1 h2;exact ⟨λe=>(by cases e),λ_=>rfl⟩
  ·split at h
   · rename_i hr;injection h with h1 h2;subst h1 h2;exact ⟨λ_=>hr,λe=>absurd rfl e⟩
   · rename_i hr;injection h with h1 h2;subst h1 h2;exact ⟨λe=>absurd e hr,λ_=>rfl⟩
theorem Ate (x y:List UInt8):Fk [⟨false,[],[(x,y)]⟩]=Dc x y:=by
 show (if 100<1 then 2 else Fw [(x,y)])=_;rw [if_neg jD,Fw];split
 ·rfl
 ·rename_i h
  exact (Decidable.not_not.1 h).symm
theorem Axh {s x y:List UInt8} {E:Int} (h:Ty s=(E,x,y)):(E=0->Cx s=(0,[⟨false,[],[(x,y)]⟩]))/\(E ≠ 0->E=4\/Cx s=(E,[])):=by
 unfold Ty Mbx.Jm at h;unfold Cx Jm;generalize Fm s=q at h ⊢;obtain ⟨F,p,ts⟩:=q;simp only at h ⊢;by_cases hF:F ≠ 0
 ·rw [if_pos hF] at h ⊢;injection h with h1 h2
  subst h1;exact ⟨λe=>absurd e hF,λ_=>.inr rfl⟩
 rw [if_neg hF] at h ⊢;cases ht:take (ts.map Cy) with
 | none=>rw [ht] at h;injection h with h1 _;subst h1;exact ⟨λe=>(by cases e),λ_=>.inl rfl⟩
 | some k =>
  obtain ⟨u,v,n⟩:=k;rw [ht] at h;simp only at h;by_cases hn:n=ts.length
  ·rw [if_pos hn] at h;have he:Dg (ts.length+1) (ts.map Cy)=some [⟨false,[],[(u,v)]⟩]:=by
    rw [Dg];have:ent (ts.map Cy)=some (⟨false,[],[(u,v)]⟩,n):=by unfold ent box;rw [ht]
    rw [this];simp only;rw [if_pos];rw [List.drop_of_length_le (by rw [jai];omega)];rfl
   rw [he];simp only;rw [Ate];by_cases hr:Dc u v=0
   ·rw [if_pos hr] at h ⊢;injection h with h1 h2
    injection h2 with h2 h3
    subst h1 h2 h3;exact ⟨λ_=>rfl,λe=>absurd rfl e⟩
   ·rw [if_neg hr] at h ⊢;injection h with h1 _
    subst h1;exact ⟨λe=>absurd e hr,λ_=>.inr rfl⟩
  ·rw [if_neg hn] at h;injection h with h1 _
   subst h1;exact ⟨λe=>(by cases e),λ_=>.inl rfl⟩
theorem Rx:∀ n,∀ b ∈ rep n,b.toNat<128
 | 0=>by decide
 | n+1=>λb hb=>by
  rw [rep,jap] at hb;rcases hb with hb | hb
  · exact Rx n b hb
  · revert b;decide
theorem Aje (n:Nat):flat (List.replicate n ⟨false,[],[It]⟩)=List.replicate n It:=by
 induction n with
 | zero=>rfl
 | succ n ih=>rw [List.replicate_succ,List.replicate_succ,<- ih];rfl
theorem Asm:Dc [97] [98]=0:=by kernel_rfl
theorem Acv (n:Nat):Fw (List.replicate n It)=0:=Ab1 λm hm=>by
 rw [List.eq_of_mem_replicate hm];exact Asm
theorem As6 (n:Nat):Fk (List.replicate (n+1) ⟨false,[],[It]⟩)=if 100<n+1 then 2 else 0:=by
 unfold Fk;have ha:∀ (f:Ent->Bool),f ⟨false,[],[It]⟩=false->(List.replicate (n+1) (⟨false,[],[It]⟩:Ent)).any f=false:=λf hf=>by
  rw [List.any_eq_false];intro e he;rw [List.eq_of_mem_replicate he,hf];decide
 rw [ha odd rfl,ha _ (show (!Ka [])=false by decide),ha _ (show (!([]:List UInt8).all Ao)=false by decide),Aje,List.length_replicate,Acv];rfl
theorem Ahk (n:Nat):Fk [⟨true,[103],List.replicate (n+1) It⟩]=if 100<n+1 then 2 else 0:=by
 have h1:flat [⟨true,[103],List.replicate (n+1) It⟩]=List.replicate (n+1) It:=by unfold flat;simp
 unfold Fk;rw [h1,List.length_replicate,Acv];rfl
theorem Alz (n:Nat) (h:n<=300):Cx (rep n)=if 100<n+1 then (2,[]) else (0,List.replicate (n+1) ⟨false,[],[It]⟩):=by
 obtain ⟨ts,c,he⟩:=Ab4 n;have hx:=Qz (by rw [Me];omega) (Cs (Rx n)) c;unfold Cx;rw [hx];unfold Jm;rw [if_neg (show ¬ ((0:Int) ≠ 0) by decide)];simp only;rw [he (ts.length+1) jO];simp only;rw [As6];by_cases hn:100<n+1
 · rw [if_pos hn,if_neg jD,if_pos hn]
 · rw [if_neg hn,if_pos rfl,if_neg hn]
theorem Ahg (n:Nat) (h:n<=300):Cx (103::58::(rep n ++ [59]))=if 100<n+1 then (2,[]) else (0,[⟨true,[103],List.replicate (n+1) It⟩]):=by
 obtain ⟨ts,c,he⟩:=Xq n;have hx:=Qz (by simp only [jac,jab,Me,List.length_nil];omega) (Cs (λb hb=>by
  simp only [jal,jap,List.not_mem_nil,or_false] at hb;rcases hb with rfl | rfl | hb | rfl
  · decide
  · decide
  · exact Rx n b hb
  · decide)) c
 unfold Cx;rw [hx];unfold Jm;rw [if_neg (show ¬ ((0:Int) ≠ 0) by decide)];simp only;rw [he (ts.length+1) jO];simp only;rw [Ahk];by_cases hn:100<n+1
 ·rw [if_pos hn,if_neg jD,if_pos hn]
 ·rw [if_neg hn,if_pos rfl,if_neg hn]
end Lst
end
