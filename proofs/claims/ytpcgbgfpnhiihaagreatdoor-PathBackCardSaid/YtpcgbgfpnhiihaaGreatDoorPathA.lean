import Derived.Test.YtpcgbgfpnhiihaaGreatDoorMbxEnd
set_option maxRecDepth 100000
set_option maxHeartbeats 8000000
namespace Go.Proofs.YtpcgbgfpnhiihaaGreatDoor
section
open Go.RowKit Utf
namespace Pth
open Lex (Cuts Tok Az Em C9 Dy Eb ok Ao esc)
open Mbx (S take Bg Jn Ew D9 Jh Aa2 Anw Wc isS)
def pmB:List UInt8:=[112,111,115,116,109,97,115,116,101,114]
def Dl (n:Bool) (x y:List UInt8):Bool:=!n && (y == [] && x.map An == pmB)
def Cu (n:Bool) (x y:List UInt8):Int:=if n=true then (if x=[]/\y=[] then 0 else 1) else if Dl n x y=true then 0 else Jn x y
def Ls (n:Bool) (x y:List UInt8):List UInt8:=if n=true then [] else if Dl n x y=true then x else Ew x y
def Cm (n:Bool) (x y:List UInt8):List UInt8:=60::(Ls n x y ++ [62])
def Ud (n:Bool) (x y:List UInt8):List UInt8:=if n=true then [] else if Dl n x y=true then pmB else Aa2 x
def Ae5 (n:Bool) (x y:List UInt8):List UInt8:=if n=true then [] else if Dl n x y=true then [] else Anw y
def Om (n:Bool) (x y:List UInt8) (k:Bool) (u v:List UInt8):Bool:=Cu n x y == 0 && Cu k u v == 0 && (n == k && (Ud n x y == Ud k u v && Ae5 n x y == Ae5 k u v))
def Axm (n:Bool) (x y:List UInt8):Int × Bool × List UInt8 × List UInt8:=if n=true\/Dl n x y=true then (0,n,x,y) else ((Wc x y).1,false,(Wc x y).2.1,(Wc x y).2.2)
def mid (l:List S):List S:=(l.drop 1).take (l.length - 2)
def within (l:List S):Bool:=decide (2<=l.length) && (isS l 0 [60] && (isS l (l.length - 1) [62] && !(mid l).any Bg))
def F6 (m:List S):Option (Bool × List UInt8 × List UInt8) :=
 if m.length=0 then some (true,[],[])
 else if m.length=1/\(m.headD (0,[])).1=0 then (if Dl false (m.headD (0,[])).2 []=true then some (false,(m.headD (0,[])).2,[]) else none)
 else match take m with
  | none=>none
  | some (x,y,n)=>if n=m.length then some (false,x,y) else none
def Xk (l:List S):Int × Bool × List UInt8 × List UInt8 :=
 if within l=true then match F6 (mid l) with
  | none=>(4,false,[],[])
  | some (n,x,y)=>if Cu n x y=0 then (0,n,x,y) else (Cu n x y,false,[],[])
 else (4,false,[],[])
def Dv (s:List UInt8):Int × Bool × List UInt8 × List UInt8:=if (Em s).1 ≠ 0 then ((Em s).1,false,[],[]) else Xk ((Em s).2.2.map Lex.Dx)
theorem Sw {n:Bool} {x y:List UInt8}:Dl n x y=true ↔ n=false/\y=[]/\x.map An=pmB:=by
 unfold Dl
 rw [Bool.and_eq_true,Bool.and_eq_true,beq_iff_eq,beq_iff_eq]
 cases n<;>simp
theorem Age (b:UInt8) (h:An b ∈ pmB):Ao b=true/\b.toNat<128:=by
 have h1:=Lex.Nq (p:=λb=>!(pmB.contains (An b)) || (Ao b && decide (b.toNat<128))) (by decide +kernel) b
 rw [List.contains_iff_mem.2 h] at h1
 simpa using h1
theorem Q1 {x:List UInt8} (h:x.map An=pmB):x.length=10/\∀ b ∈ x,Ao b=true/\b.toNat<128 :=
 ⟨by have:=congrArg List.length h;rwa [List.length_map] at this,λb hb=>Age b (by rw [<- h];exact List.mem_map_of_mem hb)⟩
theorem right_ne {x y:List UInt8} (h:Jn x y=0):y ≠ []:=by
 rintro rfl
 obtain ⟨-,-,-,-,h⟩:=Mbx.Ahb h
 rcases h with ⟨h,-⟩ | ⟨-,h⟩
 ·cases h
 ·have:(Dom.Cj []).1=13:=by kernel_rfl
  rw [this] at h
  cases h
theorem Tr:∀ q:List (List UInt8),(Mbx.F7 q).any Bg=false
 | []=>rfl
 | [_]=>rfl
 | p::a::b=>by
  have h:=Tr (a::b)
  rw [Mbx.Lm p (by simp),List.any_cons,List.any_cons,h]
  rfl
theorem Aun {x:List UInt8} {P:List S} (h:Mbx.Says x P):P.any Bg=false:=by
 cases h with
 | quote=>rfl
 | words hq=>exact Tr _
theorem Aqk {x:List UInt8} {P:List S} (h:Mbx.SaysD x P):P.any Bg=false:=by
 cases h with
 | lit=>rfl
 | words hq=>exact Tr _
theorem Atj (M:List S) (a b:S):mid (a::(M ++ [b]))=M:=by
 unfold mid
 rw [List.drop_succ_cons,List.drop_zero,List.length_cons,List.length_append,List.length_singleton]
 exact List.take_left' rfl
theorem Arb {M:List S} (h:M.any Bg=false):within ((2,[60])::(M ++ [(2,[62])]))=true:=by
 unfold within
 rw [Atj,h]
 have e:isS ((2,[60])::(M ++ [(2,[62])])) (((2,[60])::(M ++ [(2,[62])]):List S).length - 1) [62]=true:=by
  unfold isS
  rw [decide_eq_true_eq,List.length_cons,List.length_append,List.length_singleton,Nat.add_sub_cancel,List.getElem?_cons_succ,List.getElem?_append_right (Nat.le_refl _),Nat.sub_self]
  rfl
 rw [e,show isS ((2,[60])::(M ++ [(2,[62])])) 0 [60]=true from by simp [isS]]
 simp
theorem Agu {s:List UInt8} {ts:List Tok} {M:List S} {n:Bool} {x y:List UInt8} (h:Em s=(0,0,ts)) (hm:ts.map Lex.Dx=(2,[60])::(M ++ [(2,[62])])) (hn:M.any Bg=false) (hr:F6 M=some (n,x,y)) (h0:Cu n x y=0):Dv s=(0,n,x,y):=by
 unfold Dv
 rw [h,if_neg (by simp)]
 show Xk (ts.map Lex.Dx)=_
 rw [hm]
 unfold Xk
 rw [if_pos (Arb hn),Atj,hr]
 show (if Cu n x y=0 then _ else _)=_
 rw [if_pos h0]
theorem Avs {x y:List UInt8} (hr:Jn x y=0) (hl:y.length<=1800) :
  ∃ (ts:List Tok) (M:List S),Em (60::(Ew x y ++ [62]))=(0,0,ts)/\ts.map Lex.Dx=(2,[60])::(M ++ [(2,[62])])/\M.any Bg=false/\3<=M.length/\take M=some (x,y,M.length):=by
 obtain ⟨h1,h2,h3,h4,-⟩:=Mbx.Ahb hr
 obtain ⟨h5,h6⟩:=Mbx.Ap3 hr
 have c8:=Mbx.Ki (a:=0+1+(D9 x).length+1+y.length) (c:=62) (by decide) (.nil _)
 obtain ⟨wD,D,cD,mD,sD⟩:=Mbx.Avy h6 (Mbx.F5 (by decide)) c8
 have cA:=Mbx.Ki (a:=0+1+(D9 x).length) (c:=64) (by decide) cD
 obtain ⟨wP,P,cP,mP,sP⟩:=Mbx.Aoq h4 (Mbx.F5 (by decide)) cA
 have c0:=Mbx.Ki (a:=0) (c:=60) (by decide) cP
 have hs:(60:UInt8)::(Ew x y ++ [62])=60::(D9 x ++ 64::(y ++ [62])):=by unfold Ew;simp
 have hlen:=Mbx.Kd x
 have c1:=Eq.mpr (congrArg (λs=>Cuts 0 s _) hs) c0
 have o1:ok [(60:UInt8)]:=Lex.Hl (by decide)
 have o2:ok [(62:UInt8)]:=Lex.Hl (by decide)
 have o3:ok [(64:UInt8)]:=Lex.Hl (by decide)
 have hL:=Mbx.Aey (by rw [hs];simp only [List.length_append,List.length_cons,List.length_nil];omega) (by rw [hs];exact Lex.It o1 (Lex.It (Mbx.Atd h3) (Lex.It (b:=y ++ [62]) o3 (Lex.It h5 o2)))) c1
 refine ⟨_,P ++ (2,[64])::D,hL,?_,?_,?_,?_⟩
 ·simp only [List.map_append,List.map_cons,mP,mD,List.map_nil,List.append_assoc,List.cons_append]
  rfl
 ·rw [List.any_append,List.any_cons,Aun sP,Aqk sD]
  rfl
 ·obtain ⟨k,t,rfl,-,-⟩:=Mbx.Tg sP
  obtain ⟨k2,t2,rfl,-,-⟩:=Mbx.Xx sD
  simp only [List.length_append,List.length_cons]
  omega
 ·have h:=Mbx.Aqy (n0:=[]) (n1:=[]) (n2:=[]) (n3:=[]) (r:=[]) (λk hk=>by cases hk) (λk hk=>by cases hk) (λk hk=>by cases hk) (λk hk=>by cases hk) sP sD (λk t e=>by cases e) (λk t e=>by cases e)
  simpa using h
theorem Aj2 {x:List UInt8} (hx:x.map An=pmB):Em (60::(x ++ [62]))=(0,0,[⟨2,[60],0⟩,⟨0,x,1⟩,⟨2,[62],1+x.length⟩]):=by
 obtain ⟨hl,hb⟩:=Q1 hx
 have c8:=Mbx.Ki (a:=0+1+x.length) (c:=62) (by decide) (.nil _)
 have hp:Eb x=true:=by
  unfold Eb
  rw [Bool.and_eq_true,List.all_eq_true]
  refine ⟨?_,λb h=>(hb b h).1⟩
  cases x with
  | nil=>cases hl
  | cons a b=>rfl
 have c1:=Mbx.Rx hp (Mbx.F5 (by decide)) c8
 have c0:=Mbx.Ki (a:=0) (c:=60) (by decide) c1
 refine Mbx.Aey (by simp;omega) (Lex.Hl λb h=>?_) c0
 simp only [List.mem_cons,List.mem_append,List.not_mem_nil,or_false] at h
 rcases h with rfl | h | rfl
 ·decide
 ·exact (hb b h).2
 ·decide
theorem Apd:Dv [60,62]=(0,true,[],[]):=by kernel_rfl
theorem Pg {n:Bool} {x y:List UInt8} (h:Cu n x y=0) (hl:y.length<=1800):Dv (Cm n x y)=(0,n,x,y):=by
 have h0:=h
 unfold Cu at h
 unfold Cm Ls
 cases n with
 | true =>
  rw [if_pos rfl] at h ⊢
  by_cases e:x=[]/\y=[]
  ·obtain ⟨rfl,rfl⟩:=e
   exact Apd
  ·rw [if_neg e] at h;cases h
 | false =>
  rw [if_neg (by decide)] at h ⊢
  by_cases hm:Dl false x y=true
  ·rw [if_pos hm]
   obtain ⟨-,rfl,hx⟩:=Sw.1 hm
   exact Agu (M:=[(0,x)]) (Aj2 hx) rfl rfl (by unfold F6;rw [if_neg (by simp),if_pos ⟨rfl,rfl⟩];exact if_pos hm) h0
  ·rw [if_neg hm] at h ⊢
   obtain ⟨ts,M,h1,h2,h3,h4,h5⟩:=Avs h hl
   refine Agu h1 h2 h3 ?_ h0
   unfold F6
   rw [if_neg (by omega),if_neg (λe=>by omega),h5]
   exact if_pos rfl
theorem Mt {s:List UInt8} {n:Bool} {x y:List UInt8} {E:Int} (h:Dv s=(E,n,x,y)):(E ≠ 0/\n=false/\x=[]/\y=[])\/(E=0/\Cu n x y=0/\F6 (mid ((Em s).2.2.map Lex.Dx))=some (n,x,y)/\within ((Em s).2.2.map Lex.Dx)=true/\(Em s).1=0):=by
 unfold Dv at h
 by_cases h1:(Em s).1 ≠ 0
 ·rw [if_pos h1] at h
  injection h with e1 h;injection h with e2 h;injection h with e3 e4
  exact .inl ⟨by rw [<- e1];exact h1,e2.symm,e3.symm,e4.symm⟩
 rw [if_neg h1] at h
 rw [Decidable.not_not] at h1
 unfold Xk at h
 by_cases h2:within ((Em s).2.2.map Lex.Dx)=true
 ·rw [if_pos h2] at h
  cases hr:F6 (mid ((Em s).2.2.map Lex.Dx)) with
  | none =>
   rw [hr] at h
   injection h with e1 h;injection h with e2 h;injection h with e3 e4
   exact .inl ⟨by rw [<- e1];decide,e2.symm,e3.symm,e4.symm⟩
  | some p =>
   obtain ⟨m,u,v⟩:=p
   rw [hr] at h
   replace h:(if Cu m u v=0 then ((0:Int),m,u,v) else (Cu m u v,false,[],[]))=(E,n,x,y):=h
   by_cases h3:Cu m u v=0
   ·rw [if_pos h3] at h
    injection h with e1 h;injection h with e2 h;injection h with e3 e4
    subst e1 e2 e3 e4
    exact .inr ⟨rfl,h3,rfl,h2,h1⟩
   ·rw [if_neg h3] at h
    injection h with e1 h;injection h with e2 h;injection h with e3 e4
    exact .inl ⟨by rw [<- e1];exact h3,e2.symm,e3.symm,e4.symm⟩
 ·rw [if_neg h2] at h
  injection h with e1 h;injection h with e2 h;injection h with e3 e4
  exact .inl ⟨by rw [<- e1];decide,e2.symm,e3.symm,e4.symm⟩
theorem Aw4 {x y:List UInt8}:Ls false x y ≠ []:=by
 unfold Ls
 rw [if_neg (by decide)]
 by_cases hm:Dl false x y=true
 ·rw [if_pos hm]
  obtain ⟨-,-,hx⟩:=Sw.1 hm
  rintro rfl
  cases hx
 ·rw [if_neg hm]
  unfold Ew
  simp
theorem Xs (n:Bool) (x y:List UInt8):(Cm n x y == [60,62])=n:=by
 cases n with
 | true=>rfl
 | false =>
  rw [beq_eq_false_iff_ne]
  intro e
  unfold Cm at e
  injection e with _ e
  cases hs:Ls false x y with
  | nil=>exact Aw4 hs
  | cons a b =>
   rw [hs] at e
   have:=congrArg List.length e
   simp at this
theorem Apn (n:Bool) (x y:List UInt8):Cm n x y=[60,62]\/(Cm n x y=60::(x ++ [62])/\x.length=10)\/Cm n x y=60::(Ew x y ++ [62]):=by
 unfold Cm Ls
 cases n with
 | true=>exact .inl rfl
 | false =>
  rw [if_neg (by decide)]
  by_cases hm:Dl false x y=true
  ·rw [if_pos hm]
   exact .inr (.inl ⟨rfl,(Q1 (Sw.1 hm).2.2).1⟩)
  ·rw [if_neg hm]
   exact .inr (.inr rfl)
theorem Alb {l:List S} (h:within l=true) (h0:(mid l).length=0):l=[(2,[60]),(2,[62])]:=by
 unfold within at h
 rw [Bool.and_eq_true,Bool.and_eq_true,Bool.and_eq_true,decide_eq_true_eq] at h
 obtain ⟨h1,h2,h3,-⟩:=h
 unfold mid at h0
 rw [List.length_take,List.length_drop] at h0
 match l,h1,h0,h2,h3 with
 | [a,b],_,_,h2,h3 =>
  unfold isS at h2 h3
  rw [decide_eq_true_eq] at h2 h3
  have e1:a=(2,[60]):=by simpa using h2
  have e2:b=(2,[62]):=by simpa using h3
  rw [e1,e2]
 | a::b::c::d,_,h0,_,_=>simp at h0
theorem Apw {m:List S} {x y:List UInt8} (h:F6 m=some (true,x,y)):m.length=0:=by
 unfold F6 at h
 by_cases h0:m.length=0
 ·exact h0
 rw [if_neg h0] at h
 by_cases h1:m.length=1/\(m.headD (0,[])).1=0
 ·rw [if_pos h1] at h
  split at h
  ·injection h with h;injection h with h;cases h
  ·cases h
 ·rw [if_neg h1] at h
  cases ht:take m with
  | none=>rw [ht] at h;cases h
  | some p =>
   obtain ⟨u,v,n⟩:=p
   rw [ht] at h
   replace h:(if n=m.length then some (false,u,v) else none)=some (true,x,y):=h
   split at h
   · injection h with h;injection h with h;cases h
   · cases h
theorem Akg {s x y:List UInt8} (h:Dv s=(0,true,x,y)):s=[60,62]:=by
 rcases Mt h with ⟨h,-⟩ | ⟨-,-,hr,hw,h0⟩
 ·exact absurd rfl h
 rcases Lex.Ig s with ⟨-,e⟩ | ⟨-,E,p,e,h1,-⟩ | ⟨-,us,e,hc,-⟩
 ·rw [e] at h0;cases h0
 ·rw [e] at h0
  have:E=0:=h0
  omega
 ·rw [e] at hr hw
  have h2:=Alb hw (Apw hr)
  replace h2:us.map Lex.Dx=[(2,[60]),(2,[62])]:=h2
  have h3:=Lex.Akf hc (λk hk e1=>by
   have:Lex.Dx k ∈ us.map Lex.Dx:=List.mem_map_of_mem hk
   rw [h2] at this
   simp only [List.mem_cons,List.not_mem_nil,or_false] at this
   unfold Lex.Dx at this
   rw [e1] at this
   rcases this with h | h<;>(injection h with h;cases h))
  rw [<- Mbx.Kf,h2] at h3
  rw [<- h3]
  rfl
theorem Ana {n k:Bool} {x y u v:List UInt8} (h:Dv (Cm n x y)=(0,k,u,v)):k=n:=by
 cases k with
 | true =>
  have h1:=Akg h
  have h2:=Xs n x y
  rw [h1] at h2
  exact h2
 | false =>
  cases n with
  | false=>rfl
  | true =>
   have h1:Cm true x y=Cm true [] []:=rfl
   rw [h1,Pg (n:=true) (x:=[]) (y:=[]) rfl (by simp)] at h
   injection h with _ h
   injection h with h _
   cases h
theorem Aqj {n:Bool} {x y:List UInt8} (h:Cu n x y=0):Om n x y n x y=true:=by
 unfold Om
 rw [h]
 simp
theorem Zv {a:Nat} {p r:List UInt8} {ts:List Tok} (hp:Eb p=true) (hr:Jh r) (h:Cuts a (p ++ r) ts):∃ tr,ts=⟨0,p,a⟩::tr/\Cuts (a+p.length) r tr:=by
 unfold Eb at hp
 rw [Bool.and_eq_true,List.all_eq_true] at hp
 have hw:=Lex.Kk Ao p r hp.2 hr
 have h1:Lex.one (p ++ r)=(0,.fine p p.length):=by
  cases p with
  | nil=>cases hp.1
  | cons c p =>
   rw [List.cons_append] at hw ⊢
   rw [Lex.Mr _ (hp.2 c (by simp)),hw]
 obtain ⟨s,hs⟩:∃ s,p ++ r=s:=⟨_,rfl⟩
 have hd:s.drop p.length=r:=by rw [<- hs];exact List.drop_left
 rw [hs] at h h1
 cases h with
 | nil=>rw [Lex.Awq] at h1;injection h1 with _ h1;cases h1
 | cons h2 h3 =>
  rw [h1] at h2
  injection h2 with e1 e2
  injection e2 with e2 e3
  subst e1 e2 e3
  rw [hd] at h3
  exact ⟨_,rfl,h3⟩
theorem X1 {a:Nat} {c:UInt8} {r:List UInt8} {ts:List Tok} (hc:Lex.Ey c.toNat=true) (h:Cuts a (c::r) ts):∃ tr,ts=⟨2,[c],a⟩::tr/\Cuts (a+1) r tr:=by
 cases h with
 | cons h2 h3 =>
  rw [Lex.Ms r hc] at h2
  injection h2 with e1 e2
  injection e2 with e2 e3
  subst e1 e2 e3
  exact ⟨_,rfl,h3⟩
theorem Ab4 {r:List UInt8} (hr:Jh r):∀ (q:List (List UInt8)) (a:Nat) (ts:List Tok),q ≠ []->(∀ p ∈ q,Eb p=true)->Cuts a (Mbx.Dd q ++ r) ts->∃ tr b,ts.map Lex.Dx=Mbx.F7 q ++ tr.map Lex.Dx/\Cuts b r tr
 | [],_,_,h,_,_=>absurd rfl h
 | [p],a,ts,_,hp,h=>by
  obtain ⟨tr,rfl,h1⟩:=Zv (hp p (by simp)) hr h
  exact ⟨tr,_,rfl,h1⟩
 | p::x::y,a,ts,_,hp,h=>by
  have hd:Mbx.Dd (p::x::y) ++ r=p ++ 46::(Mbx.Dd (x::y) ++ r):=by rw [Mbx.Sg p (by simp),List.append_assoc];rfl
  rw [hd] at h
  obtain ⟨t1,rfl,h1⟩:=Zv (hp p (by simp)) (Mbx.F5 (by decide)) h
  obtain ⟨t2,rfl,h2⟩:=X1 (by decide) h1
  obtain ⟨tr,b,h3,h4⟩:=Ab4 hr (x::y) _ _ (by simp) (λz hz=>hp z (by simp [hz])) h2
  refine ⟨tr,b,?_,h4⟩
  rw [List.map_cons,List.map_cons,h3,Mbx.Lm p (by simp)]
  rfl
theorem Aos {x r:List UInt8} {a:Nat} {ts:List Tok} (hr:Jh r) (h:Cuts a (D9 x ++ r) ts):∃ (P:List S) (tr:List Tok) (b:Nat),ts.map Lex.Dx=P ++ tr.map Lex.Dx/\Mbx.Says x P/\Cuts b r tr:=by
 unfold D9 at h
 by_cases hw:Dy x=true
 ·rw [if_pos hw] at h
  obtain ⟨p,q,e⟩:=Mbx.Mu x
  have hne:Lex.Ds x ≠ []:=by rw [e];simp
  have hs:Mbx.Says (Mbx.Dd (Lex.Ds x)) (Mbx.F7 (Lex.Ds x)):=.words hne
  have hx:Mbx.Dd (Lex.Ds x) ++ r=x ++ r:=by rw [Mbx.Gq]
  rw [<- hx] at h
  unfold Dy at hw
  rw [List.all_eq_true] at hw
  obtain ⟨tr,b,h1,h2⟩:=Ab4 hr _ _ _ hne hw h
  rw [Mbx.Gq] at hs
  exact ⟨_,tr,b,h1,hs,h2⟩
 ·rw [if_neg hw] at h
  have hs:C9 1 x ++ r=34::(esc x ++ 34::r):=by
   show 34::(esc x ++ [34]) ++ r=_
   simp
  rw [hs] at h
  by_cases hx:∀ b ∈ x,Az b=true
  ·have h1:Lex.one (34::(esc x ++ 34::r))=(1,.fine x ((esc x).length+1+1)):=by
    rw [Lex.N6 34 _ rfl,Lex.Rb x r hx]
    rfl
   cases h with
   | cons h2 h3 =>
    rw [h1] at h2
    injection h2 with e1 e2
    injection e2 with e2 e3
    subst e1 e2 e3
    have hd:(34::(esc x ++ 34::r)).drop ((esc x).length+1+1)=r:=by
     rw [List.drop_succ_cons,<- List.drop_drop,List.drop_left]
     rfl
    rw [hd] at h3
    exact ⟨[(1,x)],_,_,rfl,.quote x,h3⟩
  ·obtain ⟨i,hi⟩:=Lex.Ams x r (by
    have:=Classical.not_forall.1 hx
    obtain ⟨b,hb⟩:=this
    rw [Classical.not_imp] at hb
    exact ⟨b,hb.1,by simpa using hb.2⟩)
   cases h with
   | cons h2 h3 =>
    rw [Lex.N6 34 _ rfl,hi] at h2
    injection h2 with _ h2
    cases h2
theorem Ak7 {x:List UInt8} {P R:List S} (hP:Mbx.Says x P) (hR:Mbx.Stop R) {u v:List UInt8} {k:Nat} (h:take (P ++ R)=some (u,v,k)):v.length<=(Mbx.C8 (R.drop 1)).length:=by
 have hs0:Mbx.skip (P ++ R)=0:=by
  obtain ⟨kp,tp,rfl,np,-⟩:=Mbx.Tg hP
  rw [List.cons_append,Mbx.skip,np]
  rfl
 have hl:=Mbx.Abj hP hR
 unfold take at h
 rw [hs0,List.drop_zero,hl] at h
 simp only [Nat.zero_add] at h
 unfold Mbx.Yh at h
 split at h
 ·generalize hc:Mbx.skip ((P ++ R).drop P.length)=c at h
  generalize hd:Mbx.skip ((P ++ R).drop (P.length+c+1))=d at h
  have he:(P ++ R).drop (P.length+c+1+d)=(R.drop 1).drop (c+d):=by
   rw [show P.length+c+1+d=P.length+(c+1+d) by omega,<- List.drop_drop,List.drop_left,List.drop_drop,show 1+(c+d)=c+1+d by omega]
  rw [he] at h
  cases hy:Mbx.Oc ((R.drop 1).drop (c+d)) with
  | none=>rw [hy] at h;cases h
  | some p =>
   obtain ⟨y,q⟩:=p
   rw [hy] at h
   injection h with h
   injection h with _ h
   injection h with h _
   rw [<- h]
   exact Nat.le_trans (Mbx.Acp hy).1 (Mbx.J4 _ _)
 ·cases h
theorem Apm {x y u v:List UInt8} {ts:List Tok} {n:Bool} (h:Em (60::(Ew x y ++ [62]))=(0,0,ts)) (hr:F6 (mid (ts.map Lex.Dx))=some (n,u,v)):v.length<=y.length+1:=by
 have hs:(60:UInt8)::(Ew x y ++ [62])=60::(D9 x ++ 64::(y ++ [62])):=by unfold Ew;simp
 rw [hs] at h
 rcases Lex.Ig (60::(D9 x ++ 64::(y ++ [62]))) with ⟨-,e⟩ | ⟨-,E,p,e,h1,-⟩ | ⟨-,us,e,hc,-⟩
 ·rw [e] at h;injection h with h _;cases h
 ·rw [e] at h;injection h with h _;omega
 ·rw [e] at h
  injection h with _ h
  injection h with _ h
  subst h
  obtain ⟨t1,rfl,h1⟩:=X1 (by decide) hc
  obtain ⟨P,t2,b,h2,hP,h3⟩:=Aos (Mbx.F5 (by decide)) h1
  obtain ⟨t3,rfl,h4⟩:=X1 (by decide) h3
  have h5:=(Lex.Xi h4).1
  rw [<- Mbx.Kf,List.length_append,List.length_singleton] at h5
  rw [List.map_cons,h2,List.map_cons] at hr
  generalize t3.map Lex.Dx=T at h5 hr
  have hm:∃ R,mid (Lex.Dx ⟨2,[60],0⟩::(P ++ Lex.Dx ⟨2,[64],b⟩::T))=P ++ R/\Mbx.Stop R/\(Mbx.C8 (R.drop 1)).length<=(Mbx.C8 T).length:=by
   unfold mid
   rw [List.drop_succ_cons,List.drop_zero,List.length_cons,List.length_append,List.length_cons,show P.length+(T.length+1)+1 - 2=P.length+T.length by omega,List.take_append,show P.length+T.length - P.length=T.length by omega,List.take_of_length_le (by omega)]
   refine ⟨_,rfl,?_,?_⟩
   ·cases T with
    | nil=>intro k t e;cases e
    | cons k t=>intro j r e;rw [List.length_cons,List.take_succ_cons] at e;injection e with e _;rw [<- e];show ((2:Int),[(64:UInt8)]) ≠ (2,[46]);decide
   ·cases T with
    | nil=>exact Nat.le_refl _
    | cons k t =>
     rw [List.length_cons,List.take_succ_cons,List.drop_succ_cons,List.drop_zero]
     have:∀ (l:List S) (j:Nat),(Mbx.C8 (l.take j)).length<=(Mbx.C8 l).length:=λl=>by
      unfold Mbx.C8
      induction l with
      | nil=>intro j;simp
      | cons a l ih =>
       intro j
       cases j with
       | zero=>simp
       | succ j =>
        rw [List.take_succ_cons,List.flatMap_cons,List.flatMap_cons,List.length_append,List.length_append]
        have:=ih j
        omega
     exact this _ _
  obtain ⟨R,hm,hR,hl⟩:=hm
  rw [hm] at hr
  unfold F6 at hr
  by_cases h0:(P ++ R).length=0
  ·rw [if_pos h0] at hr
   injection hr with hr;injection hr with _ hr;injection hr with _ hr
   rw [<- hr];exact Nat.zero_le _
  rw [if_neg h0] at hr
  split at hr
  ·split at hr
   ·injection hr with hr;injection hr with _ hr;injection hr with _ hr
    rw [<- hr];exact Nat.zero_le _
   ·cases hr
  ·cases ht:take (P ++ R) with
   | none=>rw [ht] at hr;cases hr
   | some p =>
    obtain ⟨u',v',k⟩:=p
    rw [ht] at hr
    replace hr:(if k=(P ++ R).length then some (false,u',v') else none)=some (n,u,v):=hr
    split at hr
    ·injection hr with hr;injection hr with _ hr;injection hr with _ hr
     have:=Ak7 hP hR ht
     rw [<- hr]
     omega
    ·cases hr
end Pth
end
section
open Go.RowKit Utf
structure PAt (C:Nat) (n:Bool) (u v:ByteArray) (W:World):Prop where
 blk:W.heap[C]? = some (.cells #[.bool n,.string u,.string v] 53 (0,0))
structure TAt (B b0 b1 b2 b3:Nat) (W:World):Prop where
 blk:W.heap[B]? = some (.cells #[.slice (some ⟨b0,0,none⟩) 74 74,.slice (some ⟨b1,0,none⟩) 10 10,.slice (some ⟨b2,0,none⟩) 11 11,.slice (some ⟨b3,0,none⟩) 42 42] 31 (0,0))
section
variable {B C b0 b1 b2 b3:Nat} {n:Bool} {u v:ByteArray} {W W':World}
theorem PAt.lt (H:PAt C n u v W):C<W.heap.size:=(Array.getElem?_eq_some_iff.1 H.blk).1
theorem PAt.all (H:PAt C n u v W):W.cell? ⟨C,0,none⟩=some (.bool n)/\W.cell? ⟨C,1,none⟩=some (.string u)/\W.cell? ⟨C,2,none⟩=some (.string v):=by have:=H.blk;simp [World.cell?,this]
theorem PAt.fr (H:PAt C n u v W):W.frozen? ⟨C,0,none⟩=false/\W.frozen? ⟨C,1,none⟩=false/\W.frozen? ⟨C,2,none⟩=false:=by have:=H.blk;simp [World.frozen?,this]
theorem PAt.Ac (H:PAt C n u v W) (hb:Below W.heap.size W W'):PAt C n u v W':=⟨(hb.block C H.lt).trans H.blk⟩
theorem PAt.other (H:PAt C n u v W) {D:Nat} (hD:C ≠ D) (k:Nat) (z:Value):PAt C n u v (W.setCell ⟨D,k,none⟩ z):=⟨(Below.heap_setCell _ _ _ _ hD).trans H.blk⟩
theorem PAt.set (H:PAt C n u v W) (m:Bool) (x y:ByteArray):PAt C m x y (((W.setCell ⟨C,0,none⟩ (.bool m)).setCell ⟨C,1,none⟩ (.string x)).setCell ⟨C,2,none⟩ (.string y)) :=
 ⟨by have:=H.blk;simp [World.setCell,Array.getElem?_modify,this]⟩
theorem PAt.new (W:World) (n:Bool) (u v:ByteArray):PAt W.heap.size n u v (W.alloc (.cells #[.bool n,.string u,.string v] 53)):=⟨heap_alloc_new W _⟩
theorem TAt.lt (H:TAt B b0 b1 b2 b3 W):B<W.heap.size:=(Array.getElem?_eq_some_iff.1 H.blk).1
theorem TAt.all (H:TAt B b0 b1 b2 b3 W):W.cell? ⟨B,0,none⟩=some (.slice (some ⟨b0,0,none⟩) 74 74)/\W.cell? ⟨B,1,none⟩=some (.slice (some ⟨b1,0,none⟩) 10 10)/\W.cell? ⟨B,2,none⟩=some (.slice (some ⟨b2,0,none⟩) 11 11)/\W.cell? ⟨B,3,none⟩=some (.slice (some ⟨b3,0,none⟩) 42 42):=by have:=H.blk;simp [World.cell?,this]
theorem TAt.Ac (H:TAt B b0 b1 b2 b3 W) (hb:Below W.heap.size W W'):TAt B b0 b1 b2 b3 W':=⟨(hb.block B H.lt).trans H.blk⟩
theorem TAt.other (H:TAt B b0 b1 b2 b3 W) {D:Nat} (hD:B ≠ D) (k:Nat) (z:Value):TAt B b0 b1 b2 b3 (W.setCell ⟨D,k,none⟩ z):=⟨(Below.heap_setCell _ _ _ _ hD).trans H.blk⟩
theorem TAt.new (W:World) (b0 b1 b2 b3:Nat):TAt W.heap.size b0 b1 b2 b3 (W.alloc (.cells #[.slice (some ⟨b0,0,none⟩) 74 74,.slice (some ⟨b1,0,none⟩) 10 10,.slice (some ⟨b2,0,none⟩) 11 11,.slice (some ⟨b3,0,none⟩) 42 42] 31)):=⟨heap_alloc_new W _⟩
theorem Ax {w:World} {k:Nat} (h:Below k w W) (hk:k<=C) (x y z:Value):Below k w (((W.setCell ⟨C,0,none⟩ x).setCell ⟨C,1,none⟩ y).setCell ⟨C,2,none⟩ z) :=
 ((h.setCell (p:=⟨C,0,none⟩) hk x).setCell (p:=⟨C,1,none⟩) hk y).setCell (p:=⟨C,2,none⟩) hk z
end
theorem Ml (n:Bool) (x y:ByteArray) (w:World) (hx:x.size<=100000):Calls Tryz.prog 74 #[.agg #[.bool n,.string x,.string y]] w λe w'=>e=.returned (.bool (Pth.Dl n x.data.toList y.data.toList))/\Below w.heap.size w w':=by
 obtain ⟨R,hR⟩:∃ R,R=Pth.Dl n x.data.toList y.data.toList:=⟨_,rfl⟩
 rw [<- hR]
 unfold Pth.Dl at hR
 have B0:=jH (Ab w (.cells #[.bool n,.string x,.string y] 53))
 cases n
 case true =>
  have E:=jH (show R=false from hR)
  clear hR hx
  go_enter Tryz.func74,Tryz.ntmps74
  go_wp2
  go_ret
  exact ⟨by rw [E.out];rfl,B0.out⟩
 by_cases h0:y.size=0
 case neg =>
  have e1:(y.toList == [])=false:=by
   rw [ByteArray.toList_eq,beq_eq_false_iff_ne]
   intro e
   have hl:y.data.toList.length=y.size:=by simp
   rw [e] at hl
   exact h0 hl.symm
  have E:=jH (show R=false by rw [hR,<- ByteArray.toList_eq y,e1];rfl)
  clear hR hx h0
  go_enter Tryz.func74,Tryz.ntmps74
  go_wp2
  go_ret
  exact ⟨by rw [E.out];rfl,B0.out⟩
 obtain rfl:y=⟨#[]⟩:=ByteArray.ext (Array.eq_empty_of_size_eq_zero h0)
 have KP:=λW=>Tb x W hx
 obtain ⟨P,hP⟩:∃ P:ByteArray,P=⟨(x.data.toList.map An).toArray⟩:=⟨_,rfl⟩
 rw [<- hP] at KP
 have hRP:R=(P.toList == [112,111,115,116,109,97,115,116,101,114]):=by rw [hR,hP,ByteArray.toList_eq];rfl
 clear hR hP hx h0
 cases hq:(P.toList == [112,111,115,116,109,97,115,116,101,114])
 all_goals
  rw [hq] at hRP
  have E:=jH hRP
  have K:=jH KP
  clear hRP KP
  go_enter Tryz.func74,Tryz.ntmps74
  go_wp2_with fail
  refine (K.out _).mono ?_
  rintro e w1 ⟨rfl,hb⟩
  have B1:=jH (Aa B0.out hb)
  clear hb
  go_wp2
  go_ret
  exact ⟨by rw [E.out];rfl,B1.out⟩
theorem Q9 (k p:Int) (U T:ByteArray) (w:World):Calls Tryz.prog 111 #[.agg #[.int .i64 k,.string U,.int .i64 p],.string T] w λe w'=>e=.returned (.bool ((k == 2) && (U.toList == T.toList)))/\Below w.heap.size w w':=by
 cases hq:(k == 2)<;>cases ht:(U.toList == T.toList)
 all_goals
  go_enter Tryz.func111,Tryz.ntmps111
  go_wp2
  go_ret
  exact ⟨rfl,Ab _ _⟩
theorem Ae3 (k p:Int) (U:ByteArray) (w:World):Calls Tryz.prog 113 #[.agg #[.int .i64 k,.string U,.int .i64 p]] w λe w'=>e=.returned (.bool (k == 4 || k == 3))/\Below w.heap.size w w':=by
 cases h4:(k == 4)<;>cases h3:(k == 3)
 all_goals
  go_enter Tryz.func113,Tryz.ntmps113
  go_wp2
  go_ret
  exact ⟨rfl,Ab _ _⟩
theorem Ak9 (N:Nat) (v:Value) (l:List Mbx.S) (w:World) (H:Fc N v l w) (hN:N<=w.heap.size) (hl:l.length<=100000) :
  Calls Tryz.prog 173 #[v,.func (.func 113) #[] #[]] w λe w'=>(∃ z:Int,e=.returned (.int .i64 z)/\decide (0<=z)=l.any Mbx.Bg)/\Below w.heap.size w w':=by
 have eg:∀ args w,(callFunc 113 args).run Tryz.prog w=.ok (.enter 113 args) w:=enters_of Tryz.func113 (by kernel_rfl) rfl
 obtain ⟨r,hr⟩:∃ r,r=l.any Mbx.Bg:=⟨_,rfl⟩
 rw [<- hr]
 have hyes:∀ k (h:k<l.length),Mbx.Bg l[k]=true->r=true:=λk h e=>by rw [hr];exact List.any_eq_true.2 ⟨_,List.getElem_mem h,e⟩
 have hno:(∀ k (h:k<l.length),Mbx.Bg l[k]=false)->r=false:=λh=>by
  rw [hr,List.any_eq_false]
  intro x hx
  obtain ⟨j,hj,rfl⟩:=List.getElem_of_mem hx
  rw [h j hj]
  decide
 have HY:=jH hyes
 have HO:=jH hno
 clear hr hyes hno
 obtain ⟨A,c,rfl,hc,h⟩:=H.flat
 rcases Nat.eq_zero_or_pos l.length with h0 | h0
 ·have E:=jH (HO.out λk hk=>by omega)
  have hz:¬ (0:Int)<(l.length:Int):=by omega
  clear h H h0 HY HO hl
  generalize l.length=len at *
  go_enter Tryz.func173,Tryz.ntmps173
  go_wp2
  go_loopg [5,8] 1 (λgk _ s8 wr=>s8=.int .i64 0/\0<gk/\w=wr)
  case atStart=>exact ⟨rfl,by omega,rfl⟩
  case round =>
   obtain ⟨rfl,hg,rfl⟩:=hrel
   go_wp2
   go_ret
   exact ⟨⟨-1,rfl,by rw [E.out];rfl⟩,Below.refl _ _⟩
 obtain ⟨g,o,rfl,hg,h⟩:=h h0
 have HT:=jH (λi hi=>h i hi)
 have hgw:g<w.heap.size:=Nat.lt_of_lt_of_le hg hN
 clear h H h0 hg hN
 go_enter Tryz.func173,Tryz.ntmps173
 go_wp2
 go_loopg [5,8] (l.length+1) (λgk _ s8 wr=>∃ k:Nat,s8=.int .i64 k/\k<=l.length/\l.length - k<gk/\Hid ((∀ j (h:j<l.length),j<k->Mbx.Bg l[j]=false)/\Below w.heap.size w wr))
 case atStart=>exact ⟨0,rfl,Nat.zero_le _,by omega,jH ⟨λj _ hj=>absurd hj (Nat.not_lt_zero _),Below.refl _ _⟩⟩
 case round =>
  obtain ⟨k,rfl,hk,hg,I⟩:=hrel
  by_cases hlt:k<l.length
  ·have hkz:(k:Int)<(l.length:Int):=by omega
   obtain ⟨t0,t1,p,t2⟩:=HT.out k hlt
   have e:∀ j,wr.cell? ⟨g,j,none⟩=w.cell? ⟨g,j,none⟩:=λj=>I.out.2.cell (p:=⟨g,j,none⟩) hgw
   replace t0:=(e _).trans t0
   replace t1:=(e _).trans t1
   replace t2:=(e _).trans t2
   have hyk:=HY.out k hlt
   have hst:Mbx.Bg l[k]=false->Hid ((∀ j (h:j<l.length),j<k+1->Mbx.Bg l[j]=false)/\Below w.heap.size w wr):=λhq=>jH ⟨λj h hj=>by
    by_cases e:j=k
    · subst e;exact hq
    · exact I.out.1 j h (by omega),I.out.2⟩
   obtain ⟨⟨q,u⟩,hq⟩:∃ q,l[k]=q:=⟨_,rfl⟩
   rw [hq] at t0 t1 hyk hst
   simp only at t0 t1
   obtain ⟨U,hU⟩:∃ U:ByteArray,U=⟨u.toArray⟩:=⟨_,rfl⟩
   rw [<- hU] at t1
   have hn:Mbx.Bg (q,u)=(q == 4 || q == 3):=rfl
   rw [hn] at hyk hst
   have KD:=Ae3 q p U wr
   clear hq hU hn e
   cases hb:(q == 4 || q == 3)
   ·rw [hb] at KD
    have I2:=hst hb
    have KD:=jH KD
    clear hyk hst hb
    go_wp2_with fail
    refine KD.out.mono ?_
    rintro e w2 ⟨rfl,hb2⟩
    have I3:Hid ((∀ j (h:j<l.length),j<k+1->Mbx.Bg l[j]=false)/\Below w.heap.size w w2):=jH ⟨I2.out.1,Aa I2.out.2 hb2⟩
    clear hb2 t0 t1 t2
    go_wp2
    go_roundg (l.length - k)
    case measure=>omega
    case rel=>exact ⟨k+1,by go_num,by omega,by omega,I3⟩
   ·rw [hb] at KD
    have E:=jH (hyk hb)
    have KD:=jH KD
    clear hyk hst hb
    go_wp2_with fail
    refine KD.out.mono ?_
    rintro e w2 ⟨rfl,hb2⟩
    have B2:=jH (Aa I.out.2 hb2)
    clear hb2 t0 t1 t2
    go_wp2
    go_ret
    exact ⟨⟨(k:Int),rfl,by rw [E.out,decide_eq_true_eq];omega⟩,B2.out⟩
  ·obtain rfl:k=l.length:=by omega
   have E:=jH (HO.out λj hj=>I.out.1 j hj hj)
   have hkz:¬ (l.length:Int)<(l.length:Int):=by omega
   go_wp2
   go_ret
   exact ⟨⟨-1,rfl,by rw [E.out];rfl⟩,I.out.2⟩
theorem Zi (N:Nat) (v:Value) (l:List Mbx.S) (w:World) (H:Fc N v l w) (hN:N<=w.heap.size) (hl:l.length<=100000) :
  Calls Tryz.prog 112 #[v,.func (.func 113) #[] #[]] w λe w'=>e=.returned (.bool (l.any Mbx.Bg))/\Below w.heap.size w w':=by
 have K:=jH (Ak9 N v l w H hN hl)
 obtain ⟨A,c,rfl,-⟩:=H
 generalize l.any Mbx.Bg=r at K ⊢
 clear hN hl
 go_enter Tryz.func112,Tryz.ntmps112
 go_wp2_with fail
 refine K.out.mono ?_
 rintro e w2 ⟨⟨z,rfl,hz⟩,hb⟩
 have B2:=jH hb
 have HZ:=jH hz
 clear hb hz
 cases r
 ·have hz:decide (0<=z)=false:=HZ.out
  go_wp2
  go_ret
  exact ⟨rfl,B2.out⟩
 ·have hz:decide (0<=z)=true:=HZ.out
  go_wp2
  go_ret
  exact ⟨rfl,B2.out⟩
end
section
open Go.RowKit Utf
theorem Avc {w:World} {B:Nat} (hB:w.heap.size=B) (b0 b1 b2 b3:Nat) (n:Bool) (x y:ByteArray) {W:World} (hW:W=(w.alloc (.cells #[.slice (some ⟨b0,0,none⟩) 74 74,.slice (some ⟨b1,0,none⟩) 10 10,.slice (some ⟨b2,0,none⟩) 11 11,.slice (some ⟨b3,0,none⟩) 42 42] 31)).alloc (.cells #[.bool n,.string x,.string y] 53)):TAt B b0 b1 b2 b3 W/\PAt (B+1) n x y W/\Below w.heap.size w W/\W.heap.size=B+2:=by
 subst hB
 have hs:(w.alloc (.cells #[.slice (some ⟨b0,0,none⟩) 74 74,.slice (some ⟨b1,0,none⟩) 10 10,.slice (some ⟨b2,0,none⟩) 11 11,.slice (some ⟨b3,0,none⟩) 42 42] 31)).heap.size=w.heap.size+1:=by simp
 rw [hW]
 exact ⟨(TAt.new w b0 b1 b2 b3).Ac (Ab _ _),hs ▸ PAt.new _ _ _ _,Bd _ _ _,by simp⟩
theorem Nh {w:World} {B:Nat} (hB:w.heap.size=B) (b0 b1 b2 b3:Nat) (n m:Bool) (x y u v:ByteArray) {W:World} (hW:W=((w.alloc (.cells #[.slice (some ⟨b0,0,none⟩) 74 74,.slice (some ⟨b1,0,none⟩) 10 10,.slice (some ⟨b2,0,none⟩) 11 11,.slice (some ⟨b3,0,none⟩) 42 42] 31)).alloc (.cells #[.bool n,.string x,.string y] 53)).alloc (.cells #[.bool m,.string u,.string v] 53)):TAt B b0 b1 b2 b3 W/\PAt (B+1) n x y W/\PAt (B+2) m u v W/\Below w.heap.size w W/\W.heap.size=B+3:=by
 obtain ⟨h1,h2,h3,h4⟩:=Avc hB b0 b1 b2 b3 n x y rfl
 rw [hW]
 exact ⟨h1.Ac (Ab _ _),h2.Ac (Ab _ _),h4 ▸ PAt.new _ _ _ _,Aa h3 (Ab _ _),by rw [World.size_alloc,h4]⟩
theorem J5 {x:ByteArray} (h:¬ x.size=0):(x.toList == [])=false:=by
 rw [ByteArray.toList_eq,beq_eq_false_iff_ne]
 intro e
 have hl:x.data.toList.length=x.size:=by simp
 rw [e] at hl
 exact h hl.symm
theorem Qy {x:ByteArray} (h:¬ x.size=0):x.data.toList ≠ []:=λe=>by
 have hl:x.data.toList.length=x.size:=by simp
 rw [e] at hl
 exact h hl.symm
theorem Hd (t:Value) (n:Bool) (x y:ByteArray) (w:World) (hT:Table w t) (hx:x.size<=100000) (hy:Au y):Calls Tryz.prog 30 #[t,.agg #[.bool n,.string x,.string y]] w λe w'=>e=.returned (.int .i64 (Pth.Cu n x.data.toList y.data.toList))/\Below w.heap.size w w':=by
 obtain ⟨R,hR⟩:∃ R,R=Pth.Cu n x.data.toList y.data.toList:=⟨_,rfl⟩
 rw [<- hR]
 unfold Pth.Cu at hR
 have hT0:=hT
 obtain ⟨b0,b1,b2,b3,rfl,-,-,-,-⟩:=hT0
 obtain ⟨B,hB⟩:∃ B,w.heap.size=B:=⟨_,rfl⟩
 obtain ⟨W0,hW0⟩:∃ W0,W0=(w.alloc (.cells #[.slice (some ⟨b0,0,none⟩) 74 74,.slice (some ⟨b1,0,none⟩) 10 10,.slice (some ⟨b2,0,none⟩) 11 11,.slice (some ⟨b3,0,none⟩) 42 42] 31)).alloc (.cells #[.bool n,.string x,.string y] 53):=⟨_,rfl⟩
 obtain ⟨T0,P0,B0,-⟩:=Avc hB b0 b1 b2 b3 n x y hW0
 have HW0:=jH hW0.symm
 have KM:=λW=>Ml n x y W hx
 have KR:=jH (λW (h:Below w.heap.size w W)=>Akq _ x y W (hT.below h) hx hy)
 clear hT hy hW0
 cases n
 case true =>
  rw [if_pos rfl] at hR
  have BB:=jH B0
  clear KM KR T0 P0 B0
  by_cases hx0:x.size=0
  ·obtain rfl:x=⟨#[]⟩:=ByteArray.ext (Array.eq_empty_of_size_eq_zero hx0)
   by_cases hy0:y.size=0
   ·obtain rfl:y=⟨#[]⟩:=ByteArray.ext (Array.eq_empty_of_size_eq_zero hy0)
    have E:=jH (show R=0 by rw [hR];rfl)
    clear hR hx hx0 hy0
    go_enter Tryz.func30,Tryz.ntmps30
    go_wp2
    rw [HW0.out]
    go_ret
    exact ⟨by rw [E.out];rfl,BB.out⟩
   ·have e2:=J5 hy0
    have E:=jH (show R=1 by rw [hR,if_neg (λh=>Qy hy0 h.2)])
    clear hR hx hx0 hy0
    go_enter Tryz.func30,Tryz.ntmps30
    go_wp2
    rw [HW0.out]
    go_ret
    exact ⟨by rw [E.out];rfl,BB.out⟩
  ·have e1:=J5 hx0
   have E:=jH (show R=1 by rw [hR,if_neg (λh=>Qy hx0 h.1)])
   by_cases hy0:y.size=0
   ·obtain rfl:y=⟨#[]⟩:=ByteArray.ext (Array.eq_empty_of_size_eq_zero hy0)
    clear hR hx hx0 hy0
    go_enter Tryz.func30,Tryz.ntmps30
    go_wp2
    rw [HW0.out]
    go_ret
    exact ⟨by rw [E.out];rfl,BB.out⟩
   ·have e2:=J5 hy0
    clear hR hx hx0 hy0
    go_enter Tryz.func30,Tryz.ntmps30
    go_wp2
    rw [HW0.out]
    go_ret
    exact ⟨by rw [E.out];rfl,BB.out⟩
 rw [if_neg (by decide)] at hR
 generalize Pth.Dl false x.data.toList y.data.toList=m at KM hR
 generalize Mbx.Jn x.data.toList y.data.toList=G at KR hR
 have TT:=jH T0
 have PP:=jH P0
 have BB:=jH B0
 have KM:=jH KM
 clear T0 P0 B0 hx
 cases m
 ·have E:=jH (show R=G by rw [hR,if_neg (by decide)])
  clear hR
  go_enter Tryz.func30,Tryz.ntmps30
  go_wp2_with fail
  rw [HW0.out]
  refine (KM.out _).mono ?_
  rintro e w1 ⟨rfl,hb⟩
  replace TT:=jH (TT.out.Ac hb)
  replace PP:=jH (PP.out.Ac hb)
  replace BB:=jH (Aa BB.out hb)
  clear hb
  obtain ⟨t0,t1,t2,t3⟩:=TT.out.all
  obtain ⟨p0,p1,p2⟩:=PP.out.all
  go_wp2_with fail
  refine (KR.out _ BB.out).mono ?_
  rintro e w2 ⟨rfl,hb⟩
  replace TT:=jH (TT.out.Ac hb)
  replace PP:=jH (PP.out.Ac hb)
  replace BB:=jH (Aa BB.out hb)
  clear hb
  clear t0 t1 t2 t3 p0 p1 p2
  obtain ⟨t0,t1,t2,t3⟩:=TT.out.all
  obtain ⟨p0,p1,p2⟩:=PP.out.all
  go_wp2
  go_ret
  exact ⟨by rw [E.out];rfl,BB.out⟩
 ·have E:=jH (show R=0 by rw [hR,if_pos rfl])
  clear hR
  go_enter Tryz.func30,Tryz.ntmps30
  go_wp2_with fail
  rw [HW0.out]
  refine (KM.out _).mono ?_
  rintro e w1 ⟨rfl,hb⟩
  replace TT:=jH (TT.out.Ac hb)
  replace PP:=jH (PP.out.Ac hb)
  replace BB:=jH (Aa BB.out hb)
  clear hb
  obtain ⟨t0,t1,t2,t3⟩:=TT.out.all
  obtain ⟨p0,p1,p2⟩:=PP.out.all
  go_wp2
  go_ret
  exact ⟨by rw [E.out];rfl,BB.out⟩
theorem Hc (n:Bool) (x y:ByteArray) (w:World) (hx:x.size<=10000) (hy:y.size<=100000):Calls Tryz.prog 31 #[.agg #[.bool n,.string x,.string y]] w λe w'=>e=.returned (.string ⟨(Pth.Cm n x.data.toList y.data.toList).toArray⟩)/\Below w.heap.size w w':=by
 obtain ⟨S,hS⟩:∃ S:ByteArray,S=⟨(Pth.Ls n x.data.toList y.data.toList).toArray⟩:=⟨_,rfl⟩
 obtain ⟨T1,hT1⟩:∃ T:ByteArray,T=(⟨#[60]⟩:ByteArray) ++ S:=⟨_,rfl⟩
 obtain ⟨T2,hT2⟩:∃ T:ByteArray,T=T1 ++ (⟨#[62]⟩:ByteArray):=⟨_,rfl⟩
 have hSs:S.size<=200000:=by
  rw [hS]
  show (Pth.Ls n x.data.toList y.data.toList).toArray.size<=_
  rw [List.size_toArray]
  have hxl:x.data.toList.length=x.size:=by simp
  have hyl:y.data.toList.length=y.size:=by simp
  have:=Mbx.Kd x.data.toList
  unfold Pth.Ls Mbx.Ew
  split
  ·simp
  ·split
   · omega
   · rw [List.length_append,List.length_cons];omega
 have a1:∀ W,(Op.stringOp .add ⟨#[60]⟩ S).run Tryz.prog W=.ok (.string T1) W:=λW=>by rw [hT1];exact run_string_add_sum W _ _ (by show 1+S.size<=_;omega)
 have s1:T1.size=1+S.size:=by rw [hT1,ByteArray.size_append];rfl
 have a2:∀ W,(Op.stringOp .add T1 ⟨#[62]⟩).run Tryz.prog W=.ok (.string T2) W:=λW=>by rw [hT2];exact run_string_add_sum W _ _ (by rw [s1];show 1+S.size+1<=_;omega)
 have E:=jH (show (⟨(Pth.Cm n x.data.toList y.data.toList).toArray⟩:ByteArray)=T2 by
  rw [hT2,hT1,hS]
  apply ByteArray.ext
  unfold Pth.Cm
  simp [ByteArray.data_append])
 rw [E.out]
 unfold Pth.Ls at hS
 have KM:=λW=>Ml n x y W (by omega)
 have KP:=jH (λW=>Apl x y W hx hy rfl)
 obtain ⟨B,hB⟩:∃ B,w.heap.size=B:=⟨_,rfl⟩
 obtain ⟨W0,hW0⟩:∃ W0,W0=w.alloc (.cells #[.bool n,.string x,.string y] 53):=⟨_,rfl⟩
 have P0:PAt B n x y W0:=by rw [hW0,<- hB];exact PAt.new _ _ _ _
 have B0:Below w.heap.size w W0:=by rw [hW0];exact Ab _ _
 have HW0:=jH hW0.symm
 clear hT1 hT2 hSs s1 E hW0
 cases n
 case true =>
  rw [if_pos rfl] at hS
  obtain rfl:S=⟨#[]⟩:=hS
  have BB:=jH B0
  clear KM KP P0 B0 hx hy
  go_enter Tryz.func31,Tryz.ntmps31
  go_wp2
  go_ret
  exact ⟨rfl,by first | exact BB.out | (rw [HW0.out];exact BB.out)⟩
 rw [if_neg (by decide)] at hS
 have PP:=jH P0
 have BB:=jH B0
 clear P0 B0 hx hy
 cases hm:Pth.Dl false x.data.toList y.data.toList
 ·rw [hm,if_neg (by decide)] at hS
  rw [hm] at KM
  have KM:=jH KM
  have HS:=jH hS.symm
  clear hS hm
  go_enter Tryz.func31,Tryz.ntmps31
  go_wp2_with fail
  rw [HW0.out]
  refine (KM.out _).mono ?_
  rintro e w1 ⟨rfl,hb⟩
  replace PP:=jH (PP.out.Ac hb)
  replace BB:=jH (Aa BB.out hb)
  clear hb
  obtain ⟨p0,p1,p2⟩:=PP.out.all
  go_wp2_with fail
  refine (KP.out _).mono ?_
  rintro e w2 ⟨rfl,hb⟩
  replace PP:=jH (PP.out.Ac hb)
  replace BB:=jH (Aa BB.out hb)
  clear hb
  clear p0 p1 p2
  obtain ⟨p0,p1,p2⟩:=PP.out.all
  rw [HS.out]
  go_wp2
  go_ret
  exact ⟨rfl,BB.out⟩
 ·rw [hm,if_pos rfl] at hS
  rw [hm] at KM
  have KM:=jH KM
  obtain rfl:S=x:=hS
  clear hm
  go_enter Tryz.func31,Tryz.ntmps31
  go_wp2_with fail
  rw [HW0.out]
  refine (KM.out _).mono ?_
  rintro e w1 ⟨rfl,hb⟩
  replace PP:=jH (PP.out.Ac hb)
  replace BB:=jH (Aa BB.out hb)
  clear hb
  obtain ⟨p0,p1,p2⟩:=PP.out.all
  go_wp2
  go_ret
  exact ⟨rfl,BB.out⟩
theorem Jk (t:Value) (n:Bool) (x y:ByteArray) (w:World) (hT:Table w t) (hx:Au x) (hy:Au y):Calls Tryz.prog 33 #[t,.agg #[.bool n,.string x,.string y]] w λe w'=>e=.returned (.agg #[.bool n,.string ⟨(Pth.Ud n x.data.toList y.data.toList).toArray⟩,.string ⟨(Pth.Ae5 n x.data.toList y.data.toList).toArray⟩])/\Below w.heap.size w w':=by
 obtain ⟨U,hU⟩:∃ U:ByteArray,U=⟨(Pth.Ud n x.data.toList y.data.toList).toArray⟩:=⟨_,rfl⟩
 obtain ⟨V,hV⟩:∃ V:ByteArray,V=⟨(Pth.Ae5 n x.data.toList y.data.toList).toArray⟩:=⟨_,rfl⟩
 rw [<- hU,<- hV]
 unfold Pth.Ud at hU
 unfold Pth.Ae5 at hV
 have hT0:=hT
 obtain ⟨b0,b1,b2,b3,rfl,-,-,-,-⟩:=hT0
 obtain ⟨B,hB⟩:∃ B,w.heap.size=B:=⟨_,rfl⟩
 obtain ⟨W0,hW0⟩:∃ W0,W0=((w.alloc (.cells #[.slice (some ⟨b0,0,none⟩) 74 74,.slice (some ⟨b1,0,none⟩) 10 10,.slice (some ⟨b2,0,none⟩) 11 11,.slice (some ⟨b3,0,none⟩) 42 42] 31)).alloc (.cells #[.bool n,.string x,.string y] 53)).alloc (.cells #[.bool false,.string ⟨#[]⟩,.string ⟨#[]⟩] 53):=⟨_,rfl⟩
 obtain ⟨T0,P0,R0,B0,-⟩:=Nh hB b0 b1 b2 b3 n false x y ⟨#[]⟩ ⟨#[]⟩ hW0
 have HW0:=jH hW0.symm
 have KM:=λW=>Ml n x y W hx.1
 have KC:=jH (λW (h:Below w.heap.size w W)=>Ar4 _ x y W (hT.below h) hx hy rfl rfl)
 have TT:=jH T0
 have PP:=jH P0
 have RR:=jH R0
 have BB:=jH B0
 clear hT hx hy hW0 T0 P0 R0 B0
 cases n
 case true =>
  rw [if_pos rfl] at hU hV
  obtain rfl:U=⟨#[]⟩:=hU
  obtain rfl:V=⟨#[]⟩:=hV
  clear KM KC
  go_enter Tryz.func33,Tryz.ntmps33
  obtain ⟨r0,r1,r2⟩:=RR.out.all
  obtain ⟨f0,f1,f2⟩:=RR.out.fr
  obtain ⟨p0,p1,p2⟩:=PP.out.all
  go_upto_region 1 with (fail)
  rw [HW0.out]
  go_wp2
  refine bodyPost_ret (v:=.agg #[.bool true,.string ⟨#[]⟩,.string ⟨#[]⟩]) (by simp [results,Tryz.results33,go_sem,r0,r1,r2]) rfl ⟨rfl,?_⟩
  exact Ax (C:=B+2) BB.out (by omega) _ _ _
 rw [if_neg (by decide)] at hU hV
 cases hm:Pth.Dl false x.data.toList y.data.toList
 ·rw [hm,if_neg (by decide)] at hU hV
  rw [hm] at KM
  have KM:=jH KM
  have HU:=jH hU.symm
  have HV:=jH hV.symm
  clear hU hV hm
  go_enter Tryz.func33,Tryz.ntmps33
  go_wp2_with fail
  rw [HW0.out]
  refine (KM.out _).mono ?_
  rintro e w1 ⟨rfl,hb⟩
  replace TT:=jH (TT.out.Ac hb)
  replace PP:=jH (PP.out.Ac hb)
  replace RR:=jH (RR.out.Ac hb)
  replace BB:=jH (Aa BB.out hb)
  clear hb
  obtain ⟨t0,t1,t2,t3⟩:=TT.out.all
  obtain ⟨p0,p1,p2⟩:=PP.out.all
  obtain ⟨r0,r1,r2⟩:=RR.out.all
  obtain ⟨f0,f1,f2⟩:=RR.out.fr
  go_wp2_with fail
  refine (KC.out _ BB.out).mono ?_
  rintro e w2 ⟨rfl,hb⟩
  replace TT:=jH (TT.out.Ac hb)
  replace PP:=jH (PP.out.Ac hb)
  replace RR:=jH (RR.out.Ac hb)
  replace BB:=jH (Aa BB.out hb)
  clear hb
  clear r0 r1 r2 f0 f1 f2 t0 t1 t2 t3 p0 p1 p2
  obtain ⟨t0,t1,t2,t3⟩:=TT.out.all
  obtain ⟨p0,p1,p2⟩:=PP.out.all
  obtain ⟨r0,r1,r2⟩:=RR.out.all
  obtain ⟨f0,f1,f2⟩:=RR.out.fr
  rw [HU.out,HV.out]
  go_wp2
  refine bodyPost_ret (v:=.agg #[.bool false,.string U,.string V]) (by simp [results,Tryz.results33,go_sem,r0,r1,r2]) rfl ⟨rfl,?_⟩
  exact Ax (C:=B+2) BB.out (by omega) _ _ _
 ·rw [hm,if_pos rfl] at hU hV
  rw [hm] at KM
  have KM:=jH KM
  obtain rfl:U=⟨#[112,111,115,116,109,97,115,116,101,114]⟩:=hU
  obtain rfl:V=⟨#[]⟩:=hV
  clear hm
  go_enter Tryz.func33,Tryz.ntmps33
  go_wp2_with fail
  rw [HW0.out]
  refine (KM.out _).mono ?_
  rintro e w1 ⟨rfl,hb⟩
  replace TT:=jH (TT.out.Ac hb)
  replace PP:=jH (PP.out.Ac hb)
  replace RR:=jH (RR.out.Ac hb)
  replace BB:=jH (Aa BB.out hb)
  clear hb
  obtain ⟨t0,t1,t2,t3⟩:=TT.out.all
  obtain ⟨p0,p1,p2⟩:=PP.out.all
  obtain ⟨r0,r1,r2⟩:=RR.out.all
  obtain ⟨f0,f1,f2⟩:=RR.out.fr
  go_wp2
  refine bodyPost_ret (v:=.agg #[.bool false,.string ⟨#[112,111,115,116,109,97,115,116,101,114]⟩,.string ⟨#[]⟩]) (by simp [results,Tryz.results33,go_sem,r0,r1,r2]) rfl ⟨rfl,?_⟩
  exact Ax (C:=B+2) BB.out (by omega) _ _ _
theorem Xn (n:Bool) (x y:ByteArray) (w:World) (hx:x.size<=100000) (hy:y.size<=100000):Calls Tryz.prog 75 #[.agg #[.bool n,.string x,.string y]] w λe w'=>e=.returned (.agg #[.bool n,.string x,.string y])/\Below w.heap.size w w':=by
 obtain ⟨B,hB⟩:∃ B,w.heap.size=B:=⟨_,rfl⟩
 have KX:=jH (λW=>Bk x W hx)
 have KY:=jH (λW=>Bk y W hy)
 obtain ⟨W0,hW0⟩:∃ W0,W0=((w.alloc (.cells #[.bool n,.string x,.string y] 53)).alloc (.cells #[.bool false,.string ⟨#[]⟩,.string ⟨#[]⟩] 53)):=⟨_,rfl⟩
 have hs1:(w.alloc (.cells #[.bool n,.string x,.string y] 53)).heap.size=B+1:=by simp [hB]
 have P0:Hid (PAt B n x y W0):=jH (by rw [hW0,<- hB];exact (PAt.new w n x y).Ac (Ab _ _))
 have R0:Hid (PAt (B+1) false ⟨#[]⟩ ⟨#[]⟩ W0):=jH (by rw [hW0,<- hs1];exact PAt.new _ _ _ _)
 have B0:Hid (Below w.heap.size w W0):=jH (by rw [hW0];exact Bd _ _ _)
 obtain ⟨c0,c1,c2⟩:=P0.out.all
 clear hs1
 go_enter Tryz.func75,Tryz.ntmps75
 go_wp2
 rw [<- hW0]
 clear hW0
 go_region_held3 (λw'=>w'.cell? ⟨B,0,none⟩=some (.bool n)/\w'.cell? ⟨B,1,none⟩=some (.string x)/\w'.cell? ⟨B,2,none⟩=some (.string y)) (first | go_keep | exact (((P3.out.other (show B ≠ B+1 by omega) 0 (.bool n)).other (show B ≠ B+1 by omega) 1 (.string x)).other (show B ≠ B+1 by omega) 2 (.string y)).all) (first
  | (go_at_call 80;(with_reducible refine (KX.out _).mono ?_);rintro e w2 ⟨rfl,hb⟩;have hb:=Ag hb;have P2:=jH (P0.out.Ac hb);have R2:=jH (R0.out.Ac hb);have B2:=jH (Aa B0.out hb);obtain ⟨d0,d1,d2⟩:=P2.out.all;clear hb)
  | (go_at_call 80;(with_reducible refine (KY.out _).mono ?_);rintro e w3 ⟨rfl,hb⟩;have P3:=jH (P2.out.Ac hb);have R3:=jH (R2.out.Ac hb);have B3:=jH (Aa B2.out hb);obtain ⟨e0,e1,e2⟩:=P3.out.all;obtain ⟨r0,r1,r2⟩:=R3.out.all;obtain ⟨f0,f1,f2⟩:=R3.out.fr;clear hb))
 all_goals
  go_wp2
  refine bodyPost_ret (v:=.agg #[.bool n,.string x,.string y]) (by simp [results,Tryz.results75,go_sem,r0,r1,r2]) rfl ⟨rfl,?_⟩
  exact Ax (C:=B+1) B3.out (by omega) _ _ _
theorem Adh (t:Value) (n:Bool) (x y:ByteArray) (w:World) (hT:Table w t) (hx:x.size<=100000) (hy:Au y) {E:Int} {k:Bool} {u v:List UInt8} (hd:Pth.Axm n x.data.toList y.data.toList=(E,k,u,v)):Calls Tryz.prog 28 #[t,.agg #[.bool n,.string x,.string y]] w λe w'=>e=.returned (.tuple #[.agg #[.bool k,.string ⟨u.toArray⟩,.string ⟨v.toArray⟩],.int .i64 E])/\Below w.heap.size w w':=by
 have hT0:=hT
 obtain ⟨b0,b1,b2,b3,rfl,-,-,-,-⟩:=hT0
 obtain ⟨B,hB⟩:∃ B,w.heap.size=B:=⟨_,rfl⟩
 obtain ⟨W0,hW0⟩:∃ W0,W0=((w.alloc (.cells #[.slice (some ⟨b0,0,none⟩) 74 74,.slice (some ⟨b1,0,none⟩) 10 10,.slice (some ⟨b2,0,none⟩) 11 11,.slice (some ⟨b3,0,none⟩) 42 42] 31)).alloc (.cells #[.bool n,.string x,.string y] 53)).alloc (.cells #[.bool false,.string ⟨#[]⟩,.string ⟨#[]⟩] 53):=⟨_,rfl⟩
 obtain ⟨T0,P0,R0,B0,-⟩:=Nh hB b0 b1 b2 b3 n false x y ⟨#[]⟩ ⟨#[]⟩ hW0
 have HW0:=jH hW0.symm
 have KM:=λW=>Ml n x y W hx
 have KY:=jH (λW=>Xn n x y W hx hy.1)
 obtain ⟨⟨F,p,q⟩,hF⟩:∃ r,Mbx.Wc x.data.toList y.data.toList=r:=⟨_,rfl⟩
 have KD:=λW (h:Below w.heap.size w W)=>An0 _ x y W (hT.below h) hx hy hF
 have TT:=jH T0
 have PP:=jH P0
 have RR:=jH R0
 have BB:=jH B0
 unfold Pth.Axm at hd
 have HX:=jH (show (⟨x.data.toList.toArray⟩:ByteArray)=x from rfl)
 have HY:=jH (show (⟨y.data.toList.toArray⟩:ByteArray)=y from rfl)
 clear hT hx hy hW0 T0 P0 R0 B0
 cases n
 case true =>
  rw [if_pos (.inl rfl)] at hd
  injection hd with e1 hd;injection hd with e2 hd;injection hd with e3 e4
  subst e1 e2 e3 e4
  clear KM KD
  go_enter Tryz.func28,Tryz.ntmps28
  go_wp2_with fail
  rw [HW0.out]
  refine (KY.out _).mono ?_
  rintro e w1 ⟨rfl,hb⟩
  replace TT:=jH (TT.out.Ac hb)
  replace PP:=jH (PP.out.Ac hb)
  replace RR:=jH (RR.out.Ac hb)
  replace BB:=jH (Aa BB.out hb)
  clear hb
  obtain ⟨t0,t1,t2,t3⟩:=TT.out.all
  obtain ⟨p0,p1,p2⟩:=PP.out.all
  obtain ⟨r0,r1,r2⟩:=RR.out.all
  obtain ⟨f0,f1,f2⟩:=RR.out.fr
  go_wp2
  refine bodyPost_ret (v:=.tuple #[.agg #[.bool true,.string x,.string y],.int .i64 0]) (by simp [results,Tryz.results28,go_sem,r0,r1,r2]) rfl ⟨rfl,?_⟩
  exact Ax (C:=B+2) BB.out (by omega) _ _ _
 cases hm:Pth.Dl false x.data.toList y.data.toList
 ·rw [hm,if_neg (by simp)] at hd
  rw [hm] at KM
  injection hd with e1 hd;injection hd with e2 hd;injection hd with e3 e4
  rw [hF] at e1 e3 e4
  replace e1:F=E:=e1
  replace e3:p=u:=e3
  replace e4:q=v:=e4
  subst e1 e2 e3 e4
  obtain ⟨P,hP⟩:∃ P:ByteArray,P=⟨p.toArray⟩:=⟨_,rfl⟩
  obtain ⟨Q,hQ⟩:∃ Q:ByteArray,Q=⟨q.toArray⟩:=⟨_,rfl⟩
  rw [<- hP,<- hQ] at KD ⊢
  have KM:=jH KM
  have KD:=jH KD
  clear hm hF hP hQ KY
  go_enter Tryz.func28,Tryz.ntmps28
  go_wp2_with fail
  rw [HW0.out]
  refine (KM.out _).mono ?_
  rintro e w1 ⟨rfl,hb⟩
  replace TT:=jH (TT.out.Ac hb)
  replace PP:=jH (PP.out.Ac hb)
  replace RR:=jH (RR.out.Ac hb)
  replace BB:=jH (Aa BB.out hb)
  clear hb
  obtain ⟨t0,t1,t2,t3⟩:=TT.out.all
  obtain ⟨p0,p1,p2⟩:=PP.out.all
  obtain ⟨r0,r1,r2⟩:=RR.out.all
  obtain ⟨f0,f1,f2⟩:=RR.out.fr
  go_wp2_with fail
  refine (KD.out _ BB.out).mono ?_
  rintro e w2 ⟨rfl,hb⟩
  replace TT:=jH (TT.out.Ac hb)
  replace PP:=jH (PP.out.Ac hb)
  replace RR:=jH (RR.out.Ac hb)
  replace BB:=jH (Aa BB.out hb)
  clear hb
  clear r0 r1 r2 f0 f1 f2 t0 t1 t2 t3 p0 p1 p2
  obtain ⟨t0,t1,t2,t3⟩:=TT.out.all
  obtain ⟨p0,p1,p2⟩:=PP.out.all
  obtain ⟨r0,r1,r2⟩:=RR.out.all
  obtain ⟨f0,f1,f2⟩:=RR.out.fr
  obtain ⟨N,hN⟩:∃ N,w2.heap.size=N:=⟨_,rfl⟩
  have hb:=Ab w2 (.cells #[.string P,.string Q] 23)
  have ltTT:=TT.out.lt
  replace TT:=jH (TT.out.Ac hb)
  have ltPP:=PP.out.lt
  replace PP:=jH (PP.out.Ac hb)
  have ltRR:=RR.out.lt
  replace RR:=jH (RR.out.Ac hb)
  replace BB:=jH (Aa BB.out hb)
  clear hb
  have MM:=jH (show CAt N P Q (w2.alloc (.cells #[.string P,.string Q] 23)) from hN ▸ CAt.new w2 P Q)
  clear r0 r1 r2 f0 f1 f2 t0 t1 t2 t3 p0 p1 p2
  obtain ⟨t0,t1,t2,t3⟩:=TT.out.all
  obtain ⟨p0,p1,p2⟩:=PP.out.all
  obtain ⟨r0,r1,r2⟩:=RR.out.all
  obtain ⟨f0,f1,f2⟩:=RR.out.fr
  have m0:=MM.out.c0
  have m1:=MM.out.c1
  go_wp2
  refine bodyPost_ret (v:=.tuple #[.agg #[.bool false,.string P,.string Q],.int .i64 F]) (by simp [results,Tryz.results28,go_sem,r0,r1,r2]) rfl ⟨rfl,?_⟩
  exact Ax (C:=B+2) BB.out (by omega) _ _ _
 ·rw [hm,if_pos (.inr rfl)] at hd
  rw [hm] at KM
  injection hd with e1 hd;injection hd with e2 hd;injection hd with e3 e4
  subst e1 e2 e3 e4
  have KM:=jH KM
  clear hm KD
  go_enter Tryz.func28,Tryz.ntmps28
  go_wp2_with fail
  rw [HW0.out]
  refine (KM.out _).mono ?_
  rintro e w1 ⟨rfl,hb⟩
  replace TT:=jH (TT.out.Ac hb)
  replace PP:=jH (PP.out.Ac hb)
  replace RR:=jH (RR.out.Ac hb)
  replace BB:=jH (Aa BB.out hb)
  clear hb
  obtain ⟨t0,t1,t2,t3⟩:=TT.out.all
  obtain ⟨p0,p1,p2⟩:=PP.out.all
  obtain ⟨r0,r1,r2⟩:=RR.out.all
  obtain ⟨f0,f1,f2⟩:=RR.out.fr
  go_wp2_with fail
  refine (KY.out _).mono ?_
  rintro e w2 ⟨rfl,hb⟩
  replace TT:=jH (TT.out.Ac hb)
  replace PP:=jH (PP.out.Ac hb)
  replace RR:=jH (RR.out.Ac hb)
  replace BB:=jH (Aa BB.out hb)
  clear hb
  clear r0 r1 r2 f0 f1 f2 t0 t1 t2 t3 p0 p1 p2
  obtain ⟨t0,t1,t2,t3⟩:=TT.out.all
  obtain ⟨p0,p1,p2⟩:=PP.out.all
  obtain ⟨r0,r1,r2⟩:=RR.out.all
  obtain ⟨f0,f1,f2⟩:=RR.out.fr
  go_wp2
  refine bodyPost_ret (v:=.tuple #[.agg #[.bool false,.string x,.string y],.int .i64 0]) (by simp [results,Tryz.results28,go_sem,r0,r1,r2]) rfl ⟨rfl,?_⟩
  exact Ax (C:=B+2) BB.out (by omega) _ _ _
end
section
open Go.RowKit Utf
structure Ru (B b0 b1 b2 b3:Nat) (n:Bool) (x y:ByteArray) (k:Bool) (u v:ByteArray) (W:World):Prop where
 t:TAt B b0 b1 b2 b3 W
 p:PAt (B+1) n x y W
 q:PAt (B+2) k u v W
theorem Ru.Ac {B b0 b1 b2 b3:Nat} {n k:Bool} {x y u v:ByteArray} {W W':World} (h:Ru B b0 b1 b2 b3 n x y k u v W) (hb:Below W.heap.size W W'):Ru B b0 b1 b2 b3 n x y k u v W':=⟨h.t.Ac hb,h.p.Ac hb,h.q.Ac hb⟩
theorem Ru.all {B b0 b1 b2 b3:Nat} {n k:Bool} {x y u v:ByteArray} {W:World} (h:Ru B b0 b1 b2 b3 n x y k u v W):W.cell? ⟨B,0,none⟩=some (.slice (some ⟨b0,0,none⟩) 74 74)/\W.cell? ⟨B,1,none⟩=some (.slice (some ⟨b1,0,none⟩) 10 10)/\W.cell? ⟨B,2,none⟩=some (.slice (some ⟨b2,0,none⟩) 11 11)/\W.cell? ⟨B,3,none⟩=some (.slice (some ⟨b3,0,none⟩) 42 42)/\W.cell? ⟨B+1,0,none⟩=some (.bool n)/\W.cell? ⟨B+1,1,none⟩=some (.string x)/\W.cell? ⟨B+1,2,none⟩=some (.string y)/\W.cell? ⟨B+2,0,none⟩=some (.bool k)/\W.cell? ⟨B+2,1,none⟩=some (.string u)/\W.cell? ⟨B+2,2,none⟩=some (.string v) :=
 ⟨h.t.all.1,h.t.all.2.1,h.t.all.2.2.1,h.t.all.2.2.2,h.p.all.1,h.p.all.2.1,h.p.all.2.2,h.q.all.1,h.q.all.2.1,h.q.all.2.2⟩
theorem Adi (t:Value) (n:Bool) (x y:ByteArray) (k:Bool) (u v:ByteArray) (w:World) (hT:Table w t) (hx:Au x) (hy:Au y) (hu:Au u) (hv:Au v) :
  Calls Tryz.prog 34 #[t,.agg #[.bool n,.string x,.string y],.agg #[.bool k,.string u,.string v]] w λe w'=>e=.returned (.bool (Pth.Om n x.data.toList y.data.toList k u.data.toList v.data.toList))/\Below w.heap.size w w':=by
 have hT0:=hT
 obtain ⟨b0,b1,b2,b3,rfl,-,-,-,-⟩:=hT0
 obtain ⟨B,hB⟩:∃ B,w.heap.size=B:=⟨_,rfl⟩
 obtain ⟨W0,hW0⟩:∃ W0,W0=((w.alloc (.cells #[.slice (some ⟨b0,0,none⟩) 74 74,.slice (some ⟨b1,0,none⟩) 10 10,.slice (some ⟨b2,0,none⟩) 11 11,.slice (some ⟨b3,0,none⟩) 42 42] 31)).alloc (.cells #[.bool n,.string x,.string y] 53)).alloc (.cells #[.bool k,.string u,.string v] 53):=⟨_,rfl⟩
 have S0:Hid (Ru B b0 b1 b2 b3 n x y k u v W0):=jH (by obtain ⟨h1,h2,h3,-⟩:=Nh hB b0 b1 b2 b3 n k x y u v hW0;exact ⟨h1,h2,h3⟩)
 have B0:Hid (Below w.heap.size w W0):=jH (Nh hB b0 b1 b2 b3 n k x y u v hW0).2.2.2.1
 have HW0:=jH hW0.symm
 clear hW0
 have R1:=λW (h:Below w.heap.size w W)=>Hd _ n x y W (hT.below h) hx.1 hy
 have R2:=λW (h:Below w.heap.size w W)=>Hd _ k u v W (hT.below h) hu.1 hv
 have K1:=jH (λW (h:Below w.heap.size w W)=>Jk _ n x y W (hT.below h) hx hy)
 have K2:=jH (λW (h:Below w.heap.size w W)=>Jk _ k u v W (hT.below h) hu hv)
 obtain ⟨z,hz⟩:∃ z,z=Pth.Om n x.data.toList y.data.toList k u.data.toList v.data.toList:=⟨_,rfl⟩
 rw [<- hz]
 unfold Pth.Om at hz
 generalize Pth.Cu n x.data.toList y.data.toList=F at R1 hz
 generalize Pth.Cu k u.data.toList v.data.toList=G at R2 hz
 generalize Pth.Ud n x.data.toList y.data.toList=nx at K1 hz
 generalize Pth.Ud k u.data.toList v.data.toList=nu at K2 hz
 generalize Pth.Ae5 n x.data.toList y.data.toList=dy at K1 hz
 generalize Pth.Ae5 k u.data.toList v.data.toList=dv at K2 hz
 have R1:=jH R1
 have R2:=jH R2
 clear hT hx hy hu hv
 have s0:=S0.out.all
 obtain ⟨d0,d1,d2,d3,m0,m1,m2,c0,c1,c2⟩:=s0
 by_cases hF:F=0
 case neg =>
  have e0:(F == 0)=false:=by simpa using hF
  have E:=jH (show z=false by rw [hz,e0];rfl)
  clear hF hz
  go_enter Tryz.func34,Tryz.ntmps34
  go_wp2
  rw [HW0.out]
  refine wp_region_held_drew (S:=(λw':World=>w'.cell? ⟨B,0,none⟩=some (.slice (some ⟨b0,0,none⟩) 74 74)/\w'.cell? ⟨B,1,none⟩=some (.slice (some ⟨b1,0,none⟩) 10 10)/\w'.cell? ⟨B,2,none⟩=some (.slice (some ⟨b2,0,none⟩) 11 11)/\w'.cell? ⟨B,3,none⟩=some (.slice (some ⟨b3,0,none⟩) 42 42)/\w'.cell? ⟨B+1,0,none⟩=some (.bool n)/\w'.cell? ⟨B+1,1,none⟩=some (.string x)/\w'.cell? ⟨B+1,2,none⟩=some (.string y)/\w'.cell? ⟨B+2,0,none⟩=some (.bool k)/\w'.cell? ⟨B+2,1,none⟩=some (.string u)/\w'.cell? ⟨B+2,2,none⟩=some (.string v))) (by kernel_rfl) ?_ (λhHeld=>?_)
  ·(try dsimp only)
   exact ⟨d0,d1,d2,d3,m0,m1,m2,c0,c1,c2⟩
  refine Ai 0 7 (v:=?_) rfl rfl (by kernel_rfl) (by kernel_rfl) (by kernel_rfl) (λ_ _ _ h=>h) (Or.inl ⟨by rfl,?_⟩) (by assumption) ?_
  rotate_left
  ·intro w hSw
   (try dsimp only at hSw)
   go_simp
   first | done | with_reducible rfl
  simp only [Act.put,List.setIfInBounds_toArray,List.set_cons_zero,List.set_cons_succ]
  refine Ai 1 8 (v:=?_) rfl rfl (by kernel_rfl) (by kernel_rfl) (by kernel_rfl) (λ_ _ _ h=>h) (Or.inl ⟨by rfl,?_⟩) (by assumption) ?_
  rotate_left
  ·intro w hSw
   (try dsimp only at hSw)
   go_simp
   first | done | with_reducible rfl
  simp only [Act.put,List.setIfInBounds_toArray,List.set_cons_zero,List.set_cons_succ]
  refine wpAnyH_ready (rs:=[2]) (by kernel_rfl) (by simp) ?_
  refine AllReadyH.cons (o:={ dst:=some 9,op:=.call { callee:=.value (.func 30),args:=#[.tmp 7,.tmp 8],argTypes:=#[31,53] },type:=_,pos := "path.go:88", after:=_,guard:=none }) rfl (λK hK=>?_) AllReadyH.nil
  (try go_simp)
  go_at_call 30
  with_reducible refine (R1.out _ B0.out.drew).mono ?_
  rintro e w1 ⟨rfl,hb⟩
  have hb:=Ag hb
  have S1:=jH (S0.out.Ac hb)
  have B1:=jH (Aa B0.out hb)
  clear hb
  go_wp2_with fail
  clear hHeld
  refine hK.out _ _ ?_ (λhHeld=>?_)
  ·exact S1.out.all
  clear hK K
  refine Ai 3 10 (v:=?_) rfl rfl (by kernel_rfl) (by kernel_rfl) (by kernel_rfl) (λ_ _ _ h=>h) (Or.inl ⟨by rfl,?_⟩) (by assumption) ?_
  rotate_left
  ·intro w hSw
   (try dsimp only at hSw)
   go_simp
   first | done | with_reducible rfl
  simp only [Act.put,List.setIfInBounds_toArray,List.set_cons_zero,List.set_cons_succ]
  refine Ai 4 11 (v:=?_) rfl rfl (by kernel_rfl) (by kernel_rfl) (by kernel_rfl) (λ_ _ _ h=>h) (Or.inl ⟨by rfl,?_⟩) (by assumption) ?_
  rotate_left
  ·intro w hSw
   (try dsimp only at hSw)
   go_simp
   first | done | with_reducible rfl
  simp only [Act.put,List.setIfInBounds_toArray,List.set_cons_zero,List.set_cons_succ]
  refine Ai 5 12 (v:=undef) rfl rfl (by kernel_rfl) (by kernel_rfl) (by kernel_rfl) (λ_ _ _ h=>h) (Or.inr ⟨by rfl,rfl⟩) (by assumption) ?_
  simp only [Act.put,List.setIfInBounds_toArray,List.set_cons_zero,List.set_cons_succ]
  refine Ai 6 13 (v:=undef) rfl rfl (by kernel_rfl) (by kernel_rfl) (by kernel_rfl) (λ_ _ _ h=>h) (Or.inr ⟨by rfl,rfl⟩) (by assumption) ?_
  simp only [Act.put,List.setIfInBounds_toArray,List.set_cons_zero,List.set_cons_succ]
  refine Ai 7 14 (v:=undef) rfl rfl (by kernel_rfl) (by kernel_rfl) (by kernel_rfl) (λ_ _ _ h=>h) (Or.inr ⟨by rfl,rfl⟩) (by assumption) ?_
  simp only [Act.put,List.setIfInBounds_toArray,List.set_cons_zero,List.set_cons_succ]
  refine Ai 8 15 (v:=undef) rfl rfl (by kernel_rfl) (by kernel_rfl) (by kernel_rfl) (λ_ _ _ h=>h) (Or.inr ⟨by rfl,rfl⟩) (by assumption) ?_
  simp only [Act.put,List.setIfInBounds_toArray,List.set_cons_zero,List.set_cons_succ]
  refine Ai 9 16 (v:=?_) rfl rfl (by kernel_rfl) (by kernel_rfl) (by kernel_rfl) (λ_ _ _ h=>h) (Or.inl ⟨by rfl,?_⟩) (by assumption) ?_
  rotate_left
  ·intro w hSw
   (try dsimp only at hSw)
   go_simp
   first | done | with_reducible rfl
  simp only [Act.put,List.setIfInBounds_toArray,List.set_cons_zero,List.set_cons_succ]
  refine Ai 10 17 (v:=?_) rfl rfl (by kernel_rfl) (by kernel_rfl) (by kernel_rfl) (λ_ _ _ h=>h) (Or.inl ⟨by rfl,?_⟩) (by assumption) ?_
  rotate_left
  ·intro w hSw
   (try dsimp only at hSw)
   go_simp
   first | done | with_reducible rfl
  simp only [Act.put,List.setIfInBounds_toArray,List.set_cons_zero,List.set_cons_succ]
  refine Ai 11 18 (v:=undef) rfl rfl (by kernel_rfl) (by kernel_rfl) (by kernel_rfl) (λ_ _ _ h=>h) (Or.inr ⟨by rfl,rfl⟩) (by assumption) ?_
  simp only [Act.put,List.setIfInBounds_toArray,List.set_cons_zero,List.set_cons_succ]
  refine Ai 12 19 (v:=undef) rfl rfl (by kernel_rfl) (by kernel_rfl) (by kernel_rfl) (λ_ _ _ h=>h) (Or.inr ⟨by rfl,rfl⟩) (by assumption) ?_
  simp only [Act.put,List.setIfInBounds_toArray,List.set_cons_zero,List.set_cons_succ]
  refine Ai 13 20 (v:=undef) rfl rfl (by kernel_rfl) (by kernel_rfl) (by kernel_rfl) (λ_ _ _ h=>h) (Or.inr ⟨by rfl,rfl⟩) (by assumption) ?_
  simp only [Act.put,List.setIfInBounds_toArray,List.set_cons_zero,List.set_cons_succ]
  refine Ai 14 21 (v:=undef) rfl rfl (by kernel_rfl) (by kernel_rfl) (by kernel_rfl) (λ_ _ _ h=>h) (Or.inr ⟨by rfl,rfl⟩) (by assumption) ?_
  simp only [Act.put,List.setIfInBounds_toArray,List.set_cons_zero,List.set_cons_succ]
  refine Ai 15 22 (v:=undef) rfl rfl (by kernel_rfl) (by kernel_rfl) (by kernel_rfl) (λ_ _ _ h=>h) (Or.inr ⟨by rfl,rfl⟩) (by assumption) ?_
  simp only [Act.put,List.setIfInBounds_toArray,List.set_cons_zero,List.set_cons_succ]
  refine Ai 16 23 (v:=undef) rfl rfl (by kernel_rfl) (by kernel_rfl) (by kernel_rfl) (λ_ _ _ h=>h) (Or.inr ⟨by rfl,rfl⟩) (by assumption) ?_
  simp only [Act.put,List.setIfInBounds_toArray,List.set_cons_zero,List.set_cons_succ]
  refine Ai 17 24 (v:=undef) rfl rfl (by kernel_rfl) (by kernel_rfl) (by kernel_rfl) (λ_ _ _ h=>h) (Or.inr ⟨by rfl,rfl⟩) (by assumption) ?_
  simp only [Act.put,List.setIfInBounds_toArray,List.set_cons_zero,List.set_cons_succ]
  refine Ai 18 25 (v:=?_) rfl rfl (by kernel_rfl) (by kernel_rfl) (by kernel_rfl) (λ_ _ _ h=>h) (Or.inl ⟨by rfl,?_⟩) (by assumption) ?_
  rotate_left
  ·intro w hSw
   (try dsimp only at hSw)
   go_simp
   first | done | with_reducible rfl
  simp only [Act.put,List.setIfInBounds_toArray,List.set_cons_zero,List.set_cons_succ]
  refine Ai 19 6 (v:=?_) rfl rfl (by kernel_rfl) (by kernel_rfl) (by kernel_rfl) (λ_ _ _ h=>h) (Or.inl ⟨by rfl,?_⟩) (by assumption) ?_
  rotate_left
  ·intro w hSw
   (try dsimp only at hSw)
   go_simp
   first | done | with_reducible rfl
  simp only [Act.put,List.setIfInBounds_toArray,List.set_cons_zero,List.set_cons_succ]
  refine wpAnyH_done (by kernel_rfl) ?_ _
  go_wp2
  go_ret
  exact ⟨by rw [E.out];rfl,B1.out⟩
 subst hF
 by_cases hG:G=0
 case neg =>
  have e1:(G == 0)=false:=by simpa using hG
  have E:=jH (show z=false by rw [hz,e1];rfl)
  clear hG hz
  go_enter Tryz.func34,Tryz.ntmps34
  go_wp2
  rw [HW0.out]
  refine wp_region_held_drew (S:=(λw':World=>w'.cell? ⟨B,0,none⟩=some (.slice (some ⟨b0,0,none⟩) 74 74)/\w'.cell? ⟨B,1,none⟩=some (.slice (some ⟨b1,0,none⟩) 10 10)/\w'.cell? ⟨B,2,none⟩=some (.slice (some ⟨b2,0,none⟩) 11 11)/\w'.cell? ⟨B,3,none⟩=some (.slice (some ⟨b3,0,none⟩) 42 42)/\w'.cell? ⟨B+1,0,none⟩=some (.bool n)/\w'.cell? ⟨B+1,1,none⟩=some (.string x)/\w'.cell? ⟨B+1,2,none⟩=some (.string y)/\w'.cell? ⟨B+2,0,none⟩=some (.bool k)/\w'.cell? ⟨B+2,1,none⟩=some (.string u)/\w'.cell? ⟨B+2,2,none⟩=some (.string v))) (by kernel_rfl) ?_ (λhHeld=>?_)
  ·(try dsimp only)
   exact ⟨d0,d1,d2,d3,m0,m1,m2,c0,c1,c2⟩
  refine Ai 0 7 (v:=?_) rfl rfl (by kernel_rfl) (by kernel_rfl) (by kernel_rfl) (λ_ _ _ h=>h) (Or.inl ⟨by rfl,?_⟩) (by assumption) ?_
  rotate_left
  ·intro w hSw
   (try dsimp only at hSw)
   go_simp
   first | done | with_reducible rfl
  simp only [Act.put,List.setIfInBounds_toArray,List.set_cons_zero,List.set_cons_succ]
  refine Ai 1 8 (v:=?_) rfl rfl (by kernel_rfl) (by kernel_rfl) (by kernel_rfl) (λ_ _ _ h=>h) (Or.inl ⟨by rfl,?_⟩) (by assumption) ?_
  rotate_left
  ·intro w hSw
   (try dsimp only at hSw)
   go_simp
   first | done | with_reducible rfl
  simp only [Act.put,List.setIfInBounds_toArray,List.set_cons_zero,List.set_cons_succ]
  refine wpAnyH_ready (rs:=[2]) (by kernel_rfl) (by simp) ?_
  refine AllReadyH.cons (o:={ dst:=some 9,op:=.call { callee:=.value (.func 30),args:=#[.tmp 7,.tmp 8],argTypes:=#[31,53] },type:=_,pos := "path.go:88", after:=_,guard:=none }) rfl (λK hK=>?_) AllReadyH.nil
  (try go_simp)
  go_at_call 30
  with_reducible refine (R1.out _ B0.out.drew).mono ?_
  rintro e w1 ⟨rfl,hb⟩
  have hb:=Ag hb
  have S1:=jH (S0.out.Ac hb)
  have B1:=jH (Aa B0.out hb)
  clear hb
  go_wp2_with fail
  clear hHeld
  refine hK.out _ _ ?_ (λhHeld=>?_)
  ·exact S1.out.all
  clear hK K
  refine Ai 3 10 (v:=?_) rfl rfl (by kernel_rfl) (by kernel_rfl) (by kernel_rfl) (λ_ _ _ h=>h) (Or.inl ⟨by rfl,?_⟩) (by assumption) ?_
  rotate_left
  ·intro w hSw
   (try dsimp only at hSw)
   go_simp
   first | done | with_reducible rfl
  simp only [Act.put,List.setIfInBounds_toArray,List.set_cons_zero,List.set_cons_succ]
  refine Ai 4 11 (v:=?_) rfl rfl (by kernel_rfl) (by kernel_rfl) (by kernel_rfl) (λ_ _ _ h=>h) (Or.inl ⟨by rfl,?_⟩) (by assumption) ?_
  rotate_left
  ·intro w hSw
   (try dsimp only at hSw)
   go_simp
   first | done | with_reducible rfl
  simp only [Act.put,List.setIfInBounds_toArray,List.set_cons_zero,List.set_cons_succ]
  refine Ai 5 12 (v:=?_) rfl rfl (by kernel_rfl) (by kernel_rfl) (by kernel_rfl) (λ_ _ _ h=>h) (Or.inl ⟨by rfl,?_⟩) (by assumption) ?_
  rotate_left
  ·intro w hSw
   (try dsimp only at hSw)
   go_simp
   first | done | with_reducible rfl
  simp only [Act.put,List.setIfInBounds_toArray,List.set_cons_zero,List.set_cons_succ]
  refine Ai 6 13 (v:=?_) rfl rfl (by kernel_rfl) (by kernel_rfl) (by kernel_rfl) (λ_ _ _ h=>h) (Or.inl ⟨by rfl,?_⟩) (by assumption) ?_
  rotate_left
  ·intro w hSw
   (try dsimp only at hSw)
   go_simp
   first | done | with_reducible rfl
  simp only [Act.put,List.setIfInBounds_toArray,List.set_cons_zero,List.set_cons_succ]
  refine wpAnyH_ready (rs:=[7]) (by kernel_rfl) (by simp) ?_
  refine AllReadyH.cons (o:={ dst:=some 14,op:=.call { callee:=.value (.func 30),args:=#[.tmp 12,.tmp 13],argTypes:=#[31,53] },type:=_,pos := "path.go:88", after:=_,guard:=some (4,true) }) rfl (λK hK=>?_) AllReadyH.nil
  (try go_simp)
  go_at_call 30
  with_reducible refine (R2.out _ B1.out).mono ?_
  rintro e w2 ⟨rfl,hb⟩
  have S2:=jH (S1.out.Ac hb)
  have B2:=jH (Aa B1.out hb)
  clear hb
  go_wp2_with fail
  clear hHeld
  refine hK.out _ _ ?_ (λhHeld=>?_)
  ·exact S2.out.all
  clear hK K
  refine Ai 8 15 (v:=?_) rfl rfl (by kernel_rfl) (by kernel_rfl) (by kernel_rfl) (λ_ _ _ h=>h) (Or.inl ⟨by rfl,?_⟩) (by assumption) ?_
  rotate_left
  ·intro w hSw
   (try dsimp only at hSw)
   go_simp
   first | done | with_reducible rfl
  simp only [Act.put,List.setIfInBounds_toArray,List.set_cons_zero,List.set_cons_succ]
  refine Ai 9 16 (v:=?_) rfl rfl (by kernel_rfl) (by kernel_rfl) (by kernel_rfl) (λ_ _ _ h=>h) (Or.inl ⟨by rfl,?_⟩) (by assumption) ?_
  rotate_left
  ·intro w hSw
   (try dsimp only at hSw)
   go_simp
   first | done | with_reducible rfl
  simp only [Act.put,List.setIfInBounds_toArray,List.set_cons_zero,List.set_cons_succ]
  refine Ai 10 17 (v:=?_) rfl rfl (by kernel_rfl) (by kernel_rfl) (by kernel_rfl) (λ_ _ _ h=>h) (Or.inl ⟨by rfl,?_⟩) (by assumption) ?_
  rotate_left
  ·intro w hSw
   (try dsimp only at hSw)
   go_simp
   first | done | with_reducible rfl
  simp only [Act.put,List.setIfInBounds_toArray,List.set_cons_zero,List.set_cons_succ]
  refine Ai 11 18 (v:=undef) rfl rfl (by kernel_rfl) (by kernel_rfl) (by kernel_rfl) (λ_ _ _ h=>h) (Or.inr ⟨by rfl,rfl⟩) (by assumption) ?_
  simp only [Act.put,List.setIfInBounds_toArray,List.set_cons_zero,List.set_cons_succ]
  refine Ai 12 19 (v:=undef) rfl rfl (by kernel_rfl) (by kernel_rfl) (by kernel_rfl) (λ_ _ _ h=>h) (Or.inr ⟨by rfl,rfl⟩) (by assumption) ?_
  simp only [Act.put,List.setIfInBounds_toArray,List.set_cons_zero,List.set_cons_succ]
  refine Ai 13 20 (v:=undef) rfl rfl (by kernel_rfl) (by kernel_rfl) (by kernel_rfl) (λ_ _ _ h=>h) (Or.inr ⟨by rfl,rfl⟩) (by assumption) ?_
  simp only [Act.put,List.setIfInBounds_toArray,List.set_cons_zero,List.set_cons_succ]
  refine Ai 14 21 (v:=undef) rfl rfl (by kernel_rfl) (by kernel_rfl) (by kernel_rfl) (λ_ _ _ h=>h) (Or.inr ⟨by rfl,rfl⟩) (by assumption) ?_
  simp only [Act.put,List.setIfInBounds_toArray,List.set_cons_zero,List.set_cons_succ]
  refine Ai 15 22 (v:=undef) rfl rfl (by kernel_rfl) (by kernel_rfl) (by kernel_rfl) (λ_ _ _ h=>h) (Or.inr ⟨by rfl,rfl⟩) (by assumption) ?_
  simp only [Act.put,List.setIfInBounds_toArray,List.set_cons_zero,List.set_cons_succ]
  refine Ai 16 23 (v:=undef) rfl rfl (by kernel_rfl) (by kernel_rfl) (by kernel_rfl) (λ_ _ _ h=>h) (Or.inr ⟨by rfl,rfl⟩) (by assumption) ?_
  simp only [Act.put,List.setIfInBounds_toArray,List.set_cons_zero,List.set_cons_succ]
  refine Ai 17 24 (v:=undef) rfl rfl (by kernel_rfl) (by kernel_rfl) (by kernel_rfl) (λ_ _ _ h=>h) (Or.inr ⟨by rfl,rfl⟩) (by assumption) ?_
  simp only [Act.put,List.setIfInBounds_toArray,List.set_cons_zero,List.set_cons_succ]
  refine Ai 18 25 (v:=?_) rfl rfl (by kernel_rfl) (by kernel_rfl) (by kernel_rfl) (λ_ _ _ h=>h) (Or.inl ⟨by rfl,?_⟩) (by assumption) ?_
  rotate_left
  ·intro w hSw
   (try dsimp only at hSw)
   go_simp
   first | done | with_reducible rfl
  simp only [Act.put,List.setIfInBounds_toArray,List.set_cons_zero,List.set_cons_succ]
  refine Ai 19 6 (v:=?_) rfl rfl (by kernel_rfl) (by kernel_rfl) (by kernel_rfl) (λ_ _ _ h=>h) (Or.inl ⟨by rfl,?_⟩) (by assumption) ?_
  rotate_left
  ·intro w hSw
   (try dsimp only at hSw)
   go_simp
   first | done | with_reducible rfl
  simp only [Act.put,List.setIfInBounds_toArray,List.set_cons_zero,List.set_cons_succ]
  refine wpAnyH_done (by kernel_rfl) ?_ _
  go_wp2
  go_ret
  exact ⟨by rw [E.out];rfl,B2.out⟩
 subst hG
 have q1:((⟨nx.toArray⟩:ByteArray).toList == (⟨nu.toArray⟩:ByteArray).toList)=(nx == nu):=by rw [ByteArray.toList_eq,ByteArray.toList_eq]
 have q2:((⟨dy.toArray⟩:ByteArray).toList == (⟨dv.toArray⟩:ByteArray).toList)=(dy == dv):=by rw [ByteArray.toList_eq,ByteArray.toList_eq]
 have E:=jH (show z=(n == k && ((nx == nu) && (dy == dv))) by rw [hz];rfl)
 clear hz
 cases g0:(n == k)<;>cases g1:(nx == nu)<;>cases g2:(dy == dv)
 all_goals
  rw [g1] at q1 E
  rw [g2] at q2 E
  rw [g0] at E
  go_enter Tryz.func34,Tryz.ntmps34
  go_wp2
  rw [HW0.out]
  refine wp_region_held_drew (S:=(λw':World=>w'.cell? ⟨B,0,none⟩=some (.slice (some ⟨b0,0,none⟩) 74 74)/\w'.cell? ⟨B,1,none⟩=some (.slice (some ⟨b1,0,none⟩) 10 10)/\w'.cell? ⟨B,2,none⟩=some (.slice (some ⟨b2,0,none⟩) 11 11)/\w'.cell? ⟨B,3,none⟩=some (.slice (some ⟨b3,0,none⟩) 42 42)/\w'.cell? ⟨B+1,0,none⟩=some (.bool n)/\w'.cell? ⟨B+1,1,none⟩=some (.string x)/\w'.cell? ⟨B+1,2,none⟩=some (.string y)/\w'.cell? ⟨B+2,0,none⟩=some (.bool k)/\w'.cell? ⟨B+2,1,none⟩=some (.string u)/\w'.cell? ⟨B+2,2,none⟩=some (.string v))) (by kernel_rfl) ?_ (λhHeld=>?_)
  ·(try dsimp only)
   exact ⟨d0,d1,d2,d3,m0,m1,m2,c0,c1,c2⟩
  refine Ai 0 7 (v:=?_) rfl rfl (by kernel_rfl) (by kernel_rfl) (by kernel_rfl) (λ_ _ _ h=>h) (Or.inl ⟨by rfl,?_⟩) (by assumption) ?_
  rotate_left
  ·intro w hSw
   (try dsimp only at hSw)
   go_simp
   first | done | with_reducible rfl
  simp only [Act.put,List.setIfInBounds_toArray,List.set_cons_zero,List.set_cons_succ]
  refine Ai 1 8 (v:=?_) rfl rfl (by kernel_rfl) (by kernel_rfl) (by kernel_rfl) (λ_ _ _ h=>h) (Or.inl ⟨by rfl,?_⟩) (by assumption) ?_
  rotate_left
  ·intro w hSw
   (try dsimp only at hSw)
   go_simp
   first | done | with_reducible rfl
  simp only [Act.put,List.setIfInBounds_toArray,List.set_cons_zero,List.set_cons_succ]
  refine wpAnyH_ready (rs:=[2]) (by kernel_rfl) (by simp) ?_
  refine AllReadyH.cons (o:={ dst:=some 9,op:=.call { callee:=.value (.func 30),args:=#[.tmp 7,.tmp 8],argTypes:=#[31,53] },type:=_,pos := "path.go:88", after:=_,guard:=none }) rfl (λK hK=>?_) AllReadyH.nil
  (try go_simp)
  go_at_call 30
  with_reducible refine (R1.out _ B0.out.drew).mono ?_
  rintro e w1 ⟨rfl,hb⟩
  have hb:=Ag hb
  have S1:=jH (S0.out.Ac hb)
  have B1:=jH (Aa B0.out hb)
  clear hb
  go_wp2_with fail
  clear hHeld
  refine hK.out _ _ ?_ (λhHeld=>?_)
  ·exact S1.out.all
  clear hK K
  refine Ai 3 10 (v:=?_) rfl rfl (by kernel_rfl) (by kernel_rfl) (by kernel_rfl) (λ_ _ _ h=>h) (Or.inl ⟨by rfl,?_⟩) (by assumption) ?_
  rotate_left
  ·intro w hSw
   (try dsimp only at hSw)
   go_simp
   first | done | with_reducible rfl
  simp only [Act.put,List.setIfInBounds_toArray,List.set_cons_zero,List.set_cons_succ]
  refine Ai 4 11 (v:=?_) rfl rfl (by kernel_rfl) (by kernel_rfl) (by kernel_rfl) (λ_ _ _ h=>h) (Or.inl ⟨by rfl,?_⟩) (by assumption) ?_
  rotate_left
  ·intro w hSw
   (try dsimp only at hSw)
   go_simp
   first | done | with_reducible rfl
  simp only [Act.put,List.setIfInBounds_toArray,List.set_cons_zero,List.set_cons_succ]
  refine Ai 5 12 (v:=?_) rfl rfl (by kernel_rfl) (by kernel_rfl) (by kernel_rfl) (λ_ _ _ h=>h) (Or.inl ⟨by rfl,?_⟩) (by assumption) ?_
  rotate_left
  ·intro w hSw
   (try dsimp only at hSw)
   go_simp
   first | done | with_reducible rfl
  simp only [Act.put,List.setIfInBounds_toArray,List.set_cons_zero,List.set_cons_succ]
  refine Ai 6 13 (v:=?_) rfl rfl (by kernel_rfl) (by kernel_rfl) (by kernel_rfl) (λ_ _ _ h=>h) (Or.inl ⟨by rfl,?_⟩) (by assumption) ?_
  rotate_left
  ·intro w hSw
   (try dsimp only at hSw)
   go_simp
   first | done | with_reducible rfl
  simp only [Act.put,List.setIfInBounds_toArray,List.set_cons_zero,List.set_cons_succ]
  refine wpAnyH_ready (rs:=[7]) (by kernel_rfl) (by simp) ?_
  refine AllReadyH.cons (o:={ dst:=some 14,op:=.call { callee:=.value (.func 30),args:=#[.tmp 12,.tmp 13],argTypes:=#[31,53] },type:=_,pos := "path.go:88", after:=_,guard:=some (4,true) }) rfl (λK hK=>?_) AllReadyH.nil
  (try go_simp)
  go_at_call 30
  with_reducible refine (R2.out _ B1.out).mono ?_
  rintro e w2 ⟨rfl,hb⟩
  have S2:=jH (S1.out.Ac hb)
  have B2:=jH (Aa B1.out hb)
  clear hb
  go_wp2_with fail
  clear hHeld
  refine hK.out _ _ ?_ (λhHeld=>?_)
  ·exact S2.out.all
  clear hK K
  refine Ai 8 15 (v:=?_) rfl rfl (by kernel_rfl) (by kernel_rfl) (by kernel_rfl) (λ_ _ _ h=>h) (Or.inl ⟨by rfl,?_⟩) (by assumption) ?_
  rotate_left
  ·intro w hSw
   (try dsimp only at hSw)
   go_simp
   first | done | with_reducible rfl
  simp only [Act.put,List.setIfInBounds_toArray,List.set_cons_zero,List.set_cons_succ]
  refine Ai 9 16 (v:=?_) rfl rfl (by kernel_rfl) (by kernel_rfl) (by kernel_rfl) (λ_ _ _ h=>h) (Or.inl ⟨by rfl,?_⟩) (by assumption) ?_
  rotate_left
  ·intro w hSw
   (try dsimp only at hSw)
   go_simp
   first | done | with_reducible rfl
  simp only [Act.put,List.setIfInBounds_toArray,List.set_cons_zero,List.set_cons_succ]
  refine Ai 10 17 (v:=?_) rfl rfl (by kernel_rfl) (by kernel_rfl) (by kernel_rfl) (λ_ _ _ h=>h) (Or.inl ⟨by rfl,?_⟩) (by assumption) ?_
  rotate_left
  ·intro w hSw
   (try dsimp only at hSw)
   go_simp
   first | done | with_reducible rfl
  simp only [Act.put,List.setIfInBounds_toArray,List.set_cons_zero,List.set_cons_succ]
  refine Ai 11 18 (v:=?_) rfl rfl (by kernel_rfl) (by kernel_rfl) (by kernel_rfl) (λ_ _ _ h=>h) (Or.inl ⟨by rfl,?_⟩) (by assumption) ?_
  rotate_left
  ·intro w hSw
   (try dsimp only at hSw)
   go_simp
   first | done | with_reducible rfl
  simp only [Act.put,List.setIfInBounds_toArray,List.set_cons_zero,List.set_cons_succ]
  refine Ai 12 19 (v:=?_) rfl rfl (by kernel_rfl) (by kernel_rfl) (by kernel_rfl) (λ_ _ _ h=>h) (Or.inl ⟨by rfl,?_⟩) (by assumption) ?_
  rotate_left
  ·intro w hSw
   (try dsimp only at hSw)
   go_simp
   first | done | with_reducible rfl
  simp only [Act.put,List.setIfInBounds_toArray,List.set_cons_zero,List.set_cons_succ]
  refine Ai 14 21 (v:=?_) rfl rfl (by kernel_rfl) (by kernel_rfl) (by kernel_rfl) (λ_ _ _ h=>h) (Or.inl ⟨by rfl,?_⟩) (by assumption) ?_
  rotate_left
  ·intro w hSw
   (try dsimp only at hSw)
   go_simp
   first | done | with_reducible rfl
  simp only [Act.put,List.setIfInBounds_toArray,List.set_cons_zero,List.set_cons_succ]
  refine Ai 15 22 (v:=?_) rfl rfl (by kernel_rfl) (by kernel_rfl) (by kernel_rfl) (λ_ _ _ h=>h) (Or.inl ⟨by rfl,?_⟩) (by assumption) ?_
  rotate_left
  ·intro w hSw
   (try dsimp only at hSw)
   go_simp
   first | done | with_reducible rfl
  simp only [Act.put,List.setIfInBounds_toArray,List.set_cons_zero,List.set_cons_succ]
  refine wpAnyH_ready (rs:=[13]) (by kernel_rfl) (by simp) ?_
  refine AllReadyH.cons (o:={ dst:=some 20,op:=.call { callee:=.value (.func 33),args:=#[.tmp 18,.tmp 19],argTypes:=#[31,53] },type:=_,pos := "path.go:88", after:=_,guard:=some (10,true) }) rfl (λK hK=>?_) AllReadyH.nil
  (try go_simp)
  go_at_call 33
  with_reducible refine (K1.out _ B2.out).mono ?_
  rintro e w3 ⟨rfl,hb⟩
  have S3:=jH (S2.out.Ac hb)
  have B3:=jH (Aa B2.out hb)
  clear hb
  go_wp2_with fail
  clear hHeld
  refine hK.out _ _ ?_ (λhHeld=>?_)
  ·exact S3.out.all
  clear hK K
  refine wpAnyH_ready (rs:=[16]) (by kernel_rfl) (by simp) ?_
  refine AllReadyH.cons (o:={ dst:=some 23,op:=.call { callee:=.value (.func 33),args:=#[.tmp 21,.tmp 22],argTypes:=#[31,53] },type:=_,pos := "path.go:88", after:=_,guard:=some (10,true) }) rfl (λK hK=>?_) AllReadyH.nil
  (try go_simp)
  go_at_call 33
  with_reducible refine (K2.out _ B3.out).mono ?_
  rintro e w4 ⟨rfl,hb⟩
  have S4:=jH (S3.out.Ac hb)
  have B4:=jH (Aa B3.out hb)
  clear hb
  go_wp2_with fail
  clear hHeld
  refine hK.out _ _ ?_ (λhHeld=>?_)
  ·exact S4.out.all
  clear hK K
  refine Ai 17 24 (v:=?_) rfl rfl (by kernel_rfl) (by kernel_rfl) (by kernel_rfl) (λ_ _ _ h=>h) (Or.inl ⟨by rfl,?_⟩) (by assumption) ?_
  rotate_left
  ·intro w hSw
   (try dsimp only at hSw)
   go_simp
   first | done | with_reducible rfl
  simp only [Act.put,List.setIfInBounds_toArray,List.set_cons_zero,List.set_cons_succ]
  refine Ai 18 25 (v:=?_) rfl rfl (by kernel_rfl) (by kernel_rfl) (by kernel_rfl) (λ_ _ _ h=>h) (Or.inl ⟨by rfl,?_⟩) (by assumption) ?_
  rotate_left
  ·intro w hSw
   (try dsimp only at hSw)
   go_simp
   first | done | with_reducible rfl
  simp only [Act.put,List.setIfInBounds_toArray,List.set_cons_zero,List.set_cons_succ]
  refine Ai 19 6 (v:=?_) rfl rfl (by kernel_rfl) (by kernel_rfl) (by kernel_rfl) (λ_ _ _ h=>h) (Or.inl ⟨by rfl,?_⟩) (by assumption) ?_
  rotate_left
  ·intro w hSw
   (try dsimp only at hSw)
   go_simp
   first | done | with_reducible rfl
  simp only [Act.put,List.setIfInBounds_toArray,List.set_cons_zero,List.set_cons_succ]
  refine wpAnyH_done (by kernel_rfl) ?_ _
  go_wp2
  go_ret
  exact ⟨by rw [E.out];rfl,B4.out⟩
end
end Go.Proofs.YtpcgbgfpnhiihaaGreatDoor
