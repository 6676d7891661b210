import Derived.Test.YtpcgbgfpnhiihabGreatDoorMbxEnd
set_option maxRecDepth 100000
set_option maxHeartbeats 8000000
namespace Go.Proofs.YtpcgbgfpnhiihabGreatDoor
open Tryz
section
open Go.RowKit Utf
namespace Pth
open Lex (Cuts Tok A9 Ey Da Df Dt ok An esc)
open Mbx (S take Bi Fh D1 Ds Ji Aa7 Ux Md isS)
def pmB:List UInt8:=[112,111,115,116,109,97,115,116,101,114]
def Cx (n:Bool) (x y:List UInt8):Bool:=!n && (y == [] && x.map Am == pmB)
def Co (n:Bool) (x y:List UInt8):Int:=if n=true then (if x=[]/\y=[] then 0 else 1) else if Cx n x y=true then 0 else Fh x y
def Jf (n:Bool) (x y:List UInt8):List UInt8:=if n=true then [] else if Cx n x y=true then x else D1 x y
def Bn (n:Bool) (x y:List UInt8):List UInt8:=60::(Jf n x y ++ [62])
def Q3 (n:Bool) (x y:List UInt8):List UInt8:=if n=true then [] else if Cx n x y=true then pmB else Aa7 x
def Acv (n:Bool) (x y:List UInt8):List UInt8:=if n=true then [] else if Cx n x y=true then [] else Ux y
def Uj (n:Bool) (x y:List UInt8) (k:Bool) (u v:List UInt8):Bool:=Co n x y == 0 && Co k u v == 0 && (n == k && (Q3 n x y == Q3 k u v && Acv n x y == Acv k u v))
def Afh (n:Bool) (x y:List UInt8):Int × Bool × List UInt8 × List UInt8:=if n=true\/Cx n x y=true then (0,n,x,y) else ((Md x y).1,false,(Md x y).2.1,(Md x y).2.2)
def mid (l:List S):List S:=(l.drop 1).take (l.length - 2)
def within (l:List S):Bool:=decide (2<=l.length) && (isS l 0 [60] && (isS l (l.length - 1) [62] && !(mid l).any Bi))
def F9 (m:List S):Option (Bool × List UInt8 × List UInt8) :=
 if m.length=0 then some (true,[],[])
 else if m.length=1/\(m.headD (0,[])).1=0 then (if Cx false (m.headD (0,[])).2 []=true then some (false,(m.headD (0,[])).2,[]) else none)
 else match take m with
  | none=>none
  | some (x,y,n)=>if n=m.length then some (false,x,y) else none
def Xm (l:List S):Int × Bool × List UInt8 × List UInt8 :=
 if within l=true then match F9 (mid l) with
  | none=>(4,false,[],[])
  | some (n,x,y)=>if Co n x y=0 then (0,n,x,y) else (Co n x y,false,[],[])
 else (4,false,[],[])
def En (s:List UInt8):Int × Bool × List UInt8 × List UInt8:=if (Ey s).1 ≠ 0 then ((Ey s).1,false,[],[]) else Xm ((Ey s).2.2.map Lex.D6)
theorem Kd {n:Bool} {x y:List UInt8}:Cx n x y=true ↔ n=false/\y=[]/\x.map Am=pmB:=by
 unfold Cx;rw [jag,jag,beq_iff_eq,beq_iff_eq];cases n<;>simp
theorem Agn (b:UInt8) (h:Am b ∈ pmB):An b=true/\b.toNat<128:=by
 have h1:=Lex.Nr (p:=λb=>!(pmB.contains (Am b)) || (An b && decide (b.toNat<128))) (by decide +kernel) b;rw [List.contains_iff_mem.2 h] at h1;simpa using h1
theorem Lb {x:List UInt8} (h:x.map Am=pmB):x.length=10/\∀ b ∈ x,An b=true/\b.toNat<128 :=
 ⟨by have:=congrArg List.length h;rwa [jai] at this,λb hb=>Agn b (by rw [<- h];exact List.mem_map_of_mem hb)⟩
theorem Xv {x y:List UInt8} (h:Fh x y=0):y ≠ []:=by
 rintro rfl;obtain ⟨-,-,-,-,h⟩:=Mbx.Re h;rcases h with ⟨h,-⟩ | ⟨-,h⟩
 ·cases h
 ·have:(Dom.Cb []).1=13:=by kernel_rfl
  rw [this] at h;cases h
theorem Apd {x y:List UInt8} (h:Fh x y=0):Cx false x y=false:=by
 rw [<- Bool.not_eq_true];intro e;exact Xv h (Kd.1 e).2.1
theorem Tr:∀ q:List (List UInt8),(Mbx.Ga q).any Bi=false
 | []=>rfl
 | [_]=>rfl
 | p::a::b=>by
  have h:=Tr (a::b);rw [Mbx.Lm p jS,List.any_cons,List.any_cons,h];rfl
theorem Auy {x:List UInt8} {P:List S} (h:Mbx.Says x P):P.any Bi=false:=by
 cases h with
 | quote=>rfl
 | words hq=>exact Tr _
theorem Aqt {x:List UInt8} {P:List S} (h:Mbx.SaysD x P):P.any Bi=false:=by
 cases h with
 | lit=>rfl
 | words hq=>exact Tr _
theorem Atu (M:List S) (a b:S):mid (a::(M ++ [b]))=M:=by
 unfold mid;rw [List.drop_succ_cons,List.drop_zero,jac,jab,List.length_singleton];exact List.take_left' rfl
theorem Arn {M:List S} (h:M.any Bi=false):within ((2,[60])::(M ++ [(2,[62])]))=true:=by
 unfold within;rw [Atu,h];have e:isS ((2,[60])::(M ++ [(2,[62])])) (((2,[60])::(M ++ [(2,[62])]):List S).length - 1) [62]=true:=by
  unfold isS;rw [decide_eq_true_eq,jac,jab,List.length_singleton,Nat.add_sub_cancel,List.getElem?_cons_succ,List.getElem?_append_right (jaa _),Nat.sub_self];rfl
 rw [e,show isS ((2,[60])::(M ++ [(2,[62])])) 0 [60]=true from by simp [isS]];simp
theorem Ag2 {s:List UInt8} {ts:List Tok} {M:List S} {n:Bool} {x y:List UInt8} (h:Ey s=(0,0,ts)) (hm:ts.map Lex.D6=(2,[60])::(M ++ [(2,[62])])) (hn:M.any Bi=false) (hr:F9 M=some (n,x,y)) (h0:Co n x y=0):En s=(0,n,x,y):=by
 unfold En;rw [h,if_neg jS];show Xm (ts.map Lex.D6)=_;rw [hm];unfold Xm;rw [if_pos (Arn hn),Atu,hr];show (if Co n x y=0 then _ else _)=_;rw [if_pos h0]
theorem Av4 {x y:List UInt8} (hr:Fh x y=0) (hl:y.length<=1800) :
  ∃ (ts:List Tok) (M:List S),Ey (60::(D1 x y ++ [62]))=(0,0,ts)/\ts.map Lex.D6=(2,[60])::(M ++ [(2,[62])])/\M.any Bi=false/\3<=M.length/\take M=some (x,y,M.length):=by
 obtain ⟨h1,h2,h3,h4,-⟩:=Mbx.Re hr;obtain ⟨h5,h6⟩:=Mbx.Aqd hr;have c8:=Mbx.Ki (a:=0+1+(Ds x).length+1+y.length) (c:=62) jD (.nil _);obtain ⟨wD,D,cD,mD,sD⟩:=Mbx.Awa h6 (Mbx.F8 jD) c8;have cA:=Mbx.Ki (a:=0+1+(Ds x).length) (c:=64) jD cD;obtain ⟨wP,P,cP,mP,sP⟩:=Mbx.Aoy h4 (Mbx.F8 jD) cA;have c0:=Mbx.Ki (a:=0) (c:=60) jD cP;have hs:(60:UInt8)::(D1 x y ++ [62])=60::(Ds x ++ 64::(y ++ [62])):=by unfold D1;simp
 have hlen:=Mbx.N4 x;have c1:=Eq.mpr (congrArg (λs=>Cuts 0 s _) hs) c0;have o1:ok [(60:UInt8)]:=Lex.Hm jD;have o2:ok [(62:UInt8)]:=Lex.Hm jD;have o3:ok [(64:UInt8)]:=Lex.Hm jD;have hL:=Mbx.Ae4 (by rw [hs];simp only [jab,jac,List.length_nil];omega) (by rw [hs];exact Lex.Iu o1 (Lex.Iu (Mbx.Ato h3) (Lex.Iu (b:=y ++ [62]) o3 (Lex.Iu h5 o2)))) c1;refine ⟨_,P ++ (2,[64])::D,hL,?_,?_,?_,?_⟩
 ·simp only [List.map_append,List.map_cons,mP,mD,List.map_nil,jaq,jah];rfl
 ·rw [List.any_append,List.any_cons,Auy sP,Aqt sD];rfl
 ·obtain ⟨k,t,rfl,-,-⟩:=Mbx.Tg sP;obtain ⟨k2,t2,rfl,-,-⟩:=Mbx.X0 sD;simp only [jab,jac];omega
 ·have h:=Mbx.Aq8 (n0:=[]) (n1:=[]) (n2:=[]) (n3:=[]) (r:=[]) (λk hk=>by cases hk) (λk hk=>by cases hk) (λk hk=>by cases hk) (λk hk=>by cases hk) sP sD (λk t e=>by cases e) (λk t e=>by cases e);simpa using h
theorem Aj9 {x:List UInt8} (hx:x.map Am=pmB):Ey (60::(x ++ [62]))=(0,0,[⟨2,[60],0⟩,⟨0,x,1⟩,⟨2,[62],1+x.length⟩]):=by
 obtain ⟨hl,hb⟩:=Lb hx;have c8:=Mbx.Ki (a:=0+1+x.length) (c:=62) jD (.nil _);have hp:Dt x=true:=by
  unfold Dt;rw [jag,jar];refine ⟨?_,λb h=>(hb b h).1⟩;cases x with
  | nil=>cases hl
  | cons a b=>rfl
 have c1:=Mbx.Rw hp (Mbx.F8 jD) c8;have c0:=Mbx.Ki (a:=0) (c:=60) jD c1;refine Mbx.Ae4 (by simp;omega) (Lex.Hm λb h=>?_) c0;simp only [jal,jap,List.not_mem_nil,or_false] at h;rcases h with rfl | h | rfl
 ·decide
 ·exact (hb b h).2
 ·decide
theorem Apo:En [60,62]=(0,true,[],[]):=by kernel_rfl
theorem Aku {n:Bool} {x y:List UInt8} (h:Co n x y=0) (hl:y.length<=1800):En (Bn n x y)=(0,n,x,y):=by
 have h0:=h;unfold Co at h;unfold Bn Jf;cases n with
 | true =>
  rw [if_pos rfl] at h ⊢;by_cases e:x=[]/\y=[]
  ·obtain ⟨rfl,rfl⟩:=e;exact Apo
  ·rw [if_neg e] at h;cases h
 | false =>
  rw [if_neg jD] at h ⊢;by_cases hm:Cx false x y=true
  ·rw [if_pos hm];obtain ⟨-,rfl,hx⟩:=Kd.1 hm;exact Ag2 (M:=[(0,x)]) (Aj9 hx) rfl rfl (by unfold F9;rw [if_neg jS,if_pos ⟨rfl,rfl⟩];exact if_pos hm) h0
  ·rw [if_neg hm] at h ⊢;obtain ⟨ts,M,h1,h2,h3,h4,h5⟩:=Av4 h hl;refine Ag2 h1 h2 h3 ?_ h0;unfold F9;rw [if_neg jO,if_neg (λe=>by omega),h5];exact if_pos rfl
theorem Uf {s:List UInt8} {n:Bool} {x y:List UInt8} {E:Int} (h:En s=(E,n,x,y)):(E ≠ 0/\n=false/\x=[]/\y=[])\/(E=0/\Co n x y=0/\F9 (mid ((Ey s).2.2.map Lex.D6))=some (n,x,y)/\within ((Ey s).2.2.map Lex.D6)=true/\(Ey s).1=0):=by
 unfold En at h;by_cases h1:(Ey s).1 ≠ 0
 ·rw [if_pos h1] at h;injection h with e1 h;injection h with e2 h;injection h with e3 e4
  exact .inl ⟨by rw [<- e1];exact h1,e2.symm,e3.symm,e4.symm⟩
 rw [if_neg h1] at h;rw [Decidable.not_not] at h1;unfold Xm at h;by_cases h2:within ((Ey s).2.2.map Lex.D6)=true
 ·rw [if_pos h2] at h;cases hr:F9 (mid ((Ey s).2.2.map Lex.D6)) with
  | none =>
   rw [hr] at h;injection h with e1 h;injection h with e2 h;injection h with e3 e4
   exact .inl ⟨by rw [<- e1];decide,e2.symm,e3.symm,e4.symm⟩
  | some p =>
   obtain ⟨m,u,v⟩:=p;rw [hr] at h;replace h:(if Co m u v=0 then ((0:Int),m,u,v) else (Co m u v,false,[],[]))=(E,n,x,y):=h;by_cases h3:Co m u v=0
   ·rw [if_pos h3] at h;injection h with e1 h;injection h with e2 h;injection h with e3 e4
    subst e1 e2 e3 e4;exact .inr ⟨rfl,h3,rfl,h2,h1⟩
   ·rw [if_neg h3] at h;injection h with e1 h;injection h with e2 h;injection h with e3 e4
    exact .inl ⟨by rw [<- e1];exact h3,e2.symm,e3.symm,e4.symm⟩
 ·rw [if_neg h2] at h;injection h with e1 h;injection h with e2 h;injection h with e3 e4
  exact .inl ⟨by rw [<- e1];decide,e2.symm,e3.symm,e4.symm⟩
theorem Axj {x y:List UInt8}:Jf false x y ≠ []:=by
 unfold Jf;rw [if_neg jD];by_cases hm:Cx false x y=true
 ·rw [if_pos hm];obtain ⟨-,-,hx⟩:=Kd.1 hm;rintro rfl;cases hx
 ·rw [if_neg hm];unfold D1;simp
theorem Akt (n:Bool) (x y:List UInt8):(Bn n x y == [60,62])=n:=by
 cases n with
 | true=>rfl
 | false =>
  rw [beq_eq_false_iff_ne];intro e;unfold Bn at e;injection e with _ e
  cases hs:Jf false x y with
  | nil=>exact Axj hs
  | cons a b =>
   rw [hs] at e;have:=congrArg List.length e;simp at this
theorem Ay4 (n:Bool) (x y:List UInt8):Bn n x y=[60,62]\/(Bn n x y=60::(x ++ [62])/\x.length=10)\/Bn n x y=60::(D1 x y ++ [62]):=by
 unfold Bn Jf;cases n with
 | true=>exact .inl rfl
 | false =>
  rw [if_neg jD];by_cases hm:Cx false x y=true
  ·rw [if_pos hm];exact .inr (.inl ⟨rfl,(Lb (Kd.1 hm).2.2).1⟩)
  ·rw [if_neg hm];exact .inr (.inr rfl)
theorem Alk {l:List S} (h:within l=true) (h0:(mid l).length=0):l=[(2,[60]),(2,[62])]:=by
 unfold within at h;rw [jag,jag,jag,decide_eq_true_eq] at h;obtain ⟨h1,h2,h3,-⟩:=h;unfold mid at h0;rw [jak,jaj] at h0;match l,h1,h0,h2,h3 with
 | [a,b],_,_,h2,h3 =>
  unfold isS at h2 h3;rw [decide_eq_true_eq] at h2 h3;have e1:a=(2,[60]):=by simpa using h2
  have e2:b=(2,[62]):=by simpa using h3
  rw [e1,e2]
 | a::b::c::d,_,h0,_,_=>simp at h0
theorem Ap6 {m:List S} {x y:List UInt8} (h:F9 m=some (true,x,y)):m.length=0:=by
 unfold F9 at h;by_cases h0:m.length=0
 ·exact h0
 rw [if_neg h0] at h;by_cases h1:m.length=1/\(m.headD (0,[])).1=0
 ·rw [if_pos h1] at h;split at h
  ·injection h with h;injection h with h;cases h
  ·cases h
 ·rw [if_neg h1] at h;cases ht:take m with
  | none=>rw [ht] at h;cases h
  | some p =>
   obtain ⟨u,v,n⟩:=p;rw [ht] at h;replace h:(if n=m.length then some (false,u,v) else none)=some (true,x,y):=h;split at h
   · injection h with h;injection h with h;cases h
   · cases h
theorem Akn {s x y:List UInt8} (h:En s=(0,true,x,y)):s=[60,62]:=by
 rcases Uf h with ⟨h,-⟩ | ⟨-,-,hr,hw,h0⟩
 ·exact absurd rfl h
 rcases Lex.Kb s with ⟨-,e⟩ | ⟨-,E,p,e,h1,-⟩ | ⟨-,us,e,hc,-⟩
 ·rw [e] at h0;cases h0
 ·rw [e] at h0;have:E=0:=h0;omega
 ·rw [e] at hr hw;have h2:=Alk hw (Ap6 hr);replace h2:us.map Lex.D6=[(2,[60]),(2,[62])]:=h2;have h3:=Lex.Akm hc (λk hk e1=>by
   have:Lex.D6 k ∈ us.map Lex.D6:=List.mem_map_of_mem hk;rw [h2] at this;simp only [jal,List.not_mem_nil,or_false] at this;unfold Lex.D6 at this;rw [e1] at this;rcases this with h | h<;>(injection h with h;cases h))
  rw [<- Mbx.Ke,h2] at h3;rw [<- h3];rfl
theorem Ay2 {n k:Bool} {x y u v:List UInt8} (h:En (Bn n x y)=(0,k,u,v)):k=n:=by
 cases k with
 | true =>
  have h1:=Akn h;have h2:=Akt n x y;rw [h1] at h2;exact h2
 | false =>
  cases n with
  | false=>rfl
  | true =>
   have h1:Bn true x y=Bn true [] []:=rfl;rw [h1,Aku (n:=true) (x:=[]) (y:=[]) rfl jS] at h;injection h with _ h
   injection h with h _
   cases h
theorem Ac3 {c:UInt8}:∀ {x:List UInt8},(c ∈ x->c ∈ esc x)/\(c ∈ esc x->c=92\/c ∈ x)
 | []=>⟨id,λh=>.inr h⟩
 | d::t=>by
  have ih:=@Ac3 c t;rw [esc];split
  ·simp only [jal];exact ⟨λh=>.inr (h.imp id ih.1),λh=>by rcases h with h | h | h;exact .inl h;exact .inr (.inl h);exact (ih.2 h).imp id .inr⟩
  ·simp only [jal];exact ⟨λh=>h.imp id ih.1,λh=>by rcases h with h | h;exact .inr (.inl h);exact (ih.2 h).imp id .inr⟩
theorem Ao1 (x:List UInt8):(∀ c ∈ Ds x,c.toNat<128) ↔ ∀ c ∈ x,c.toNat<128:=by
 unfold Ds;split
 ·exact Iff.rfl
 ·have hs:Da 1 x=34::(esc x ++ [34]):=rfl;rw [hs];constructor
  ·intro h c hc;exact h c (by simp [Ac3.1 hc])
  ·intro h c hc;simp only [jal,jap,List.not_mem_nil,or_false] at hc;rcases hc with rfl | hc | rfl
   ·decide
   ·rcases Ac3.2 hc with rfl | hc
    · decide
    · exact h c hc
   ·decide
theorem Abc {x y:List UInt8}:Ao (60::(D1 x y ++ [62]))=-1 ↔ Ao x=-1/\Ao y=-1:=by
 have e:∀ l:List UInt8,Ao l=-1 ↔ ∀ c ∈ l,c.toNat<128:=λl=>by
  rw [<- Lab.Ei,Lab.Me,decide_eq_true_eq]
 rw [e,e,e,<- Ao1 x];unfold D1;constructor
 ·intro h;exact ⟨λc hc=>h c (by simp [hc]),λc hc=>h c (by simp [hc])⟩
 ·rintro ⟨h1,h2⟩ c hc;simp only [jal,jap,List.not_mem_nil,or_false] at hc;rcases hc with rfl | (hc | rfl | hc) | rfl
  · decide
  · exact h1 c hc
  · decide
  · exact h2 c hc
  · decide
theorem Abn {n:Bool} {x y:List UInt8} (h:Co n x y=0):Uj n x y n x y=true:=by
 unfold Uj;rw [h];simp
theorem Aoa {n k:Bool} {x y u v:List UInt8} {E:Int} (h:Co n x y=0) (hd:Afh n x y=(E,k,u,v)) :
  (E ≠ 0/\k=false/\u=[]/\v=[]/\0<=Ao (Bn n x y))\/(E=0/\u=x/\k=n/\Ao (Bn k u v)=-1/\Uj k u v n x y=true/\Co k u v=0/\(v=y\/v.length<=253)):=by
 unfold Afh at hd;cases n with
 | true =>
  rw [if_pos (.inl rfl)] at hd;injection hd with e1 hd;injection hd with e2 hd;injection hd with e3 e4
  subst e1 e2 e3 e4;exact .inr ⟨rfl,rfl,rfl,rfl,Abn h,h,.inl rfl⟩
 | false =>
  by_cases hm:Cx false x y=true
  ·rw [if_pos (.inr hm)] at hd;injection hd with e1 hd;injection hd with e2 hd;injection hd with e3 e4
   subst e1 e2 e3 e4;refine .inr ⟨rfl,rfl,rfl,?_,Abn h,h,.inl rfl⟩;obtain ⟨-,-,hx⟩:=Kd.1 hm;have hb:=(Lb hx).2;have:Lab.Dx (Bn false x y)=true:=by
    unfold Bn Jf;rw [if_neg jD,if_pos hm,Lab.Ei];intro c hc;simp only [jal,jap,List.not_mem_nil,or_false] at hc;rcases hc with rfl | hc | rfl
    ·decide
    ·exact (hb c hc).2
    ·decide
   rw [Lab.Me,decide_eq_true_eq] at this;exact this
  ·have hm':Cx false x y=false:=by simpa using hm
   rw [if_neg (λe=>by rcases e with e | e;cases e;exact hm e)] at hd;have h0:Fh x y=0:=by
    unfold Co at h;rwa [if_neg jD,if_neg hm] at h
   obtain ⟨⟨F,a,b⟩,hF⟩:∃ p,Md x y=p:=⟨_,rfl⟩
   rw [hF] at hd;injection hd with e1 hd;injection hd with e2 hd;injection hd with e3 e4
   replace e1:F=E:=e1;replace e3:a=u:=e3;replace e4:b=v:=e4;subst e1 e2 e3 e4;have hpr:Bn false x y=60::(D1 x y ++ [62]):=by
    unfold Bn Jf;rw [if_neg jD,if_neg hm]
   rcases Mbx.Awf hF with ⟨g1,rfl,rfl⟩ | ⟨rfl,rfl,g3,g4,g5,g6,g7,g8⟩
   ·refine .inl ⟨g1,rfl,rfl,rfl,?_⟩;rcases Lab.Eb (Bn false x y) with ⟨-,e⟩ | ⟨-,e⟩
    ·exfalso;rw [hpr,Abc] at e;unfold Md at hF;rw [if_neg (by rw [e.1];decide)] at hF;obtain ⟨-,-,-,-,hh⟩:=Mbx.Re h0;rcases hh with ⟨hh,-⟩ | ⟨hh,hh2⟩
     ·rw [if_pos hh,if_neg (by rw [e.2];decide)] at hF;injection hF with hF _
      exact g1 hF.symm
     ·rw [hh,if_neg jD,if_pos hh2] at hF;injection hF with hF _
      exact g1 hF.symm
    ·exact e
   ·have hv0:=g7 h0;have hmv:=Apd hv0;have hrv:Co false a b=0:=by
     unfold Co;rw [if_neg jD,hmv,if_neg jD,hv0]
    refine .inr ⟨rfl,rfl,rfl,?_,?_,hrv,g8⟩
    ·have:Bn false a b=60::(D1 a b ++ [62]):=by
      unfold Bn Jf;rw [if_neg jD,hmv,if_neg jD]
     rw [this,Abc];exact ⟨g3,g4⟩
    ·unfold Uj;rw [hrv,h];unfold Q3 Acv;rw [hmv,hm',g6];simp
theorem Zy {a:Nat} {p r:List UInt8} {ts:List Tok} (hp:Dt p=true) (hr:Ji r) (h:Cuts a (p ++ r) ts):∃ tr,ts=⟨0,p,a⟩::tr/\Cuts (a+p.length) r tr:=by
 unfold Dt at hp;rw [jag,jar] at hp;have hw:=Lex.Kk An p r hp.2 hr;have h1:Lex.one (p ++ r)=(0,.fine p p.length):=by
  cases p with
  | nil=>cases hp.1
  | cons c p =>
   rw [jah] at hw ⊢;rw [Lex.Ms _ (hp.2 c jS),hw]
 obtain ⟨s,hs⟩:∃ s,p ++ r=s:=⟨_,rfl⟩
 have hd:s.drop p.length=r:=by rw [<- hs];exact List.drop_left
 rw [hs] at h h1;cases h with
 | nil=>rw [Lex.Aw3] at h1;injection h1 with _ h1;cases h1
 | cons h2 h3 =>
  rw [h1] at h2;injection h2 with e1 e2
  injection e2 with e2 e3
  subst e1 e2 e3;rw [hd] at h3;exact ⟨_,rfl,h3⟩
theorem X6 {a:Nat} {c:UInt8} {r:List UInt8} {ts:List Tok} (hc:Lex.E7 c.toNat=true) (h:Cuts a (c::r) ts):∃ tr,ts=⟨2,[c],a⟩::tr/\Cuts (a+1) r tr:=by
 cases h with
 | cons h2 h3 =>
  rw [Lex.Mt r hc] at h2;injection h2 with e1 e2
  injection e2 with e2 e3
  subst e1 e2 e3;exact ⟨_,rfl,h3⟩
theorem Ab7 {r:List UInt8} (hr:Ji r):∀ (q:List (List UInt8)) (a:Nat) (ts:List Tok),q ≠ []->(∀ p ∈ q,Dt p=true)->Cuts a (Mbx.Cn q ++ r) ts->∃ tr b,ts.map Lex.D6=Mbx.Ga q ++ tr.map Lex.D6/\Cuts b r tr
 | [],_,_,h,_,_=>absurd rfl h
 | [p],a,ts,_,hp,h=>by
  obtain ⟨tr,rfl,h1⟩:=Zy (hp p jS) hr h;exact ⟨tr,_,rfl,h1⟩
 | p::x::y,a,ts,_,hp,h=>by
  have hd:Mbx.Cn (p::x::y) ++ r=p ++ 46::(Mbx.Cn (x::y) ++ r):=by rw [Mbx.Sf p jS,jaq];rfl
  rw [hd] at h;obtain ⟨t1,rfl,h1⟩:=Zy (hp p jS) (Mbx.F8 jD) h;obtain ⟨t2,rfl,h2⟩:=X6 jD h1;obtain ⟨tr,b,h3,h4⟩:=Ab7 hr (x::y) _ _ jS (λz hz=>hp z (by simp [hz])) h2;refine ⟨tr,b,?_,h4⟩;rw [List.map_cons,List.map_cons,h3,Mbx.Lm p jS];rfl
theorem Ao0 {x r:List UInt8} {a:Nat} {ts:List Tok} (hr:Ji r) (h:Cuts a (Ds x ++ r) ts):∃ (P:List S) (tr:List Tok) (b:Nat),ts.map Lex.D6=P ++ tr.map Lex.D6/\Mbx.Says x P/\Cuts b r tr:=by
 unfold Ds at h;by_cases hw:Df x=true
 ·rw [if_pos hw] at h;obtain ⟨p,q,e⟩:=Mbx.Kf x;have hne:Lex.Dq x ≠ []:=by rw [e];simp
  have hs:Mbx.Says (Mbx.Cn (Lex.Dq x)) (Mbx.Ga (Lex.Dq x)):=.words hne;have hx:Mbx.Cn (Lex.Dq x) ++ r=x ++ r:=by rw [Mbx.Gt]
  rw [<- hx] at h;unfold Df at hw;rw [jar] at hw;obtain ⟨tr,b,h1,h2⟩:=Ab7 hr _ _ _ hne hw h;rw [Mbx.Gt] at hs;exact ⟨_,tr,b,h1,hs,h2⟩
 ·rw [if_neg hw] at h;have hs:Da 1 x ++ r=34::(esc x ++ 34::r):=by
   show 34::(esc x ++ [34]) ++ r=_;simp
  rw [hs] at h;by_cases hx:∀ b ∈ x,A9 b=true
  ·have h1:Lex.one (34::(esc x ++ 34::r))=(1,.fine x ((esc x).length+1+1)):=by
    rw [Lex.N7 34 _ rfl,Lex.Rb x r hx];rfl
   cases h with
   | cons h2 h3 =>
    rw [h1] at h2;injection h2 with e1 e2
    injection e2 with e2 e3
    subst e1 e2 e3;have hd:(34::(esc x ++ 34::r)).drop ((esc x).length+1+1)=r:=by
     rw [List.drop_succ_cons,<- List.drop_drop,List.drop_left];rfl
    rw [hd] at h3;exact ⟨[(1,x)],_,_,rfl,.quote x,h3⟩
  ·obtain ⟨i,hi⟩:=Lex.Am2 x r (by
    have:=Classical.not_forall.1 hx;obtain ⟨b,hb⟩:=this;rw [Classical.not_imp] at hb;exact ⟨b,hb.1,by simpa using hb.2⟩)
   cases h with
   | cons h2 h3 =>
    rw [Lex.N7 34 _ rfl,hi] at h2;injection h2 with _ h2
    cases h2
theorem Alg {x:List UInt8} {P R:List S} (hP:Mbx.Says x P) (hR:Mbx.Stop R) {u v:List UInt8} {k:Nat} (h:take (P ++ R)=some (u,v,k)):v.length<=(Mbx.Dd (R.drop 1)).length:=by
 have hs0:Mbx.skip (P ++ R)=0:=by
  obtain ⟨kp,tp,rfl,np,-⟩:=Mbx.Tg hP;rw [jah,Mbx.skip,np];rfl
 have hl:=Mbx.Abo hP hR;unfold take at h;rw [hs0,List.drop_zero,hl] at h;simp only [Nat.zero_add] at h;unfold Mbx.Yk at h;split at h
 ·generalize hc:Mbx.skip ((P ++ R).drop P.length)=c at h;generalize hd:Mbx.skip ((P ++ R).drop (P.length+c+1))=d at h;have he:(P ++ R).drop (P.length+c+1+d)=(R.drop 1).drop (c+d):=by
   rw [show P.length+c+1+d=P.length+(c+1+d) by omega,<- List.drop_drop,List.drop_left,List.drop_drop,show 1+(c+d)=c+1+d by omega]
  rw [he] at h;cases hy:Mbx.Od ((R.drop 1).drop (c+d)) with
  | none=>rw [hy] at h;cases h
  | some p =>
   obtain ⟨y,q⟩:=p;rw [hy] at h;injection h with h
   injection h with _ h
   injection h with h _
   rw [<- h];exact Nat.le_trans (Mbx.Acw hy).1 (Mbx.J3 _ _)
 ·cases h
theorem Ay3 {x y u v:List UInt8} {ts:List Tok} {n:Bool} (h:Ey (60::(D1 x y ++ [62]))=(0,0,ts)) (hr:F9 (mid (ts.map Lex.D6))=some (n,u,v)):v.length<=y.length+1:=by
 have hs:(60:UInt8)::(D1 x y ++ [62])=60::(Ds x ++ 64::(y ++ [62])):=by unfold D1;simp
 rw [hs] at h;rcases Lex.Kb (60::(Ds x ++ 64::(y ++ [62]))) with ⟨-,e⟩ | ⟨-,E,p,e,h1,-⟩ | ⟨-,us,e,hc,-⟩
 ·rw [e] at h;injection h with h _;cases h
 ·rw [e] at h;injection h with h _;omega
 ·rw [e] at h;injection h with _ h
  injection h with _ h
  subst h;obtain ⟨t1,rfl,h1⟩:=X6 jD hc;obtain ⟨P,t2,b,h2,hP,h3⟩:=Ao0 (Mbx.F8 jD) h1;obtain ⟨t3,rfl,h4⟩:=X6 jD h3;have h5:=(Lex.Xk h4).1;rw [<- Mbx.Ke,jab,List.length_singleton] at h5;rw [List.map_cons,h2,List.map_cons] at hr;generalize t3.map Lex.D6=T at h5 hr;have hm:∃ R,mid (Lex.D6 ⟨2,[60],0⟩::(P ++ Lex.D6 ⟨2,[64],b⟩::T))=P ++ R/\Mbx.Stop R/\(Mbx.Dd (R.drop 1)).length<=(Mbx.Dd T).length:=by
   unfold mid;rw [List.drop_succ_cons,List.drop_zero,jac,jab,jac,show P.length+(T.length+1)+1 - 2=P.length+T.length by omega,List.take_append,show P.length+T.length - P.length=T.length by omega,List.take_of_length_le jO];refine ⟨_,rfl,?_,?_⟩
   ·cases T with
    | nil=>intro k t e;cases e
    | cons k t=>intro j r e;rw [jac,List.take_succ_cons] at e;injection e with e _;rw [<- e];show ((2:Int),[(64:UInt8)]) ≠ (2,[46]);decide
   ·cases T with
    | nil=>exact jaa _
    | cons k t =>
     rw [jac,List.take_succ_cons,List.drop_succ_cons,List.drop_zero];have:∀ (l:List S) (j:Nat),(Mbx.Dd (l.take j)).length<=(Mbx.Dd l).length:=λl=>by
      unfold Mbx.Dd;induction l with
      | nil=>intro j;simp
      | cons a l ih =>
       intro j;cases j with
       | zero=>simp
       | succ j =>
        rw [List.take_succ_cons,jao,jao,jab,jab];have:=ih j;omega
     exact this _ _
  obtain ⟨R,hm,hR,hl⟩:=hm;rw [hm] at hr;unfold F9 at hr;by_cases h0:(P ++ R).length=0
  ·rw [if_pos h0] at hr;injection hr with hr;injection hr with _ hr;injection hr with _ hr
   rw [<- hr];exact Nat.zero_le _
  rw [if_neg h0] at hr;split at hr
  ·split at hr
   ·injection hr with hr;injection hr with _ hr;injection hr with _ hr
    rw [<- hr];exact Nat.zero_le _
   ·cases hr
  ·cases ht:take (P ++ R) with
   | none=>rw [ht] at hr;cases hr
   | some p =>
    obtain ⟨u',v',k⟩:=p;rw [ht] at hr;replace hr:(if k=(P ++ R).length then some (false,u',v') else none)=some (n,u,v):=hr;split at hr
    ·injection hr with hr;injection hr with _ hr;injection hr with _ hr
     have:=Alg hP hR ht;rw [<- hr];omega
    ·cases hr
end Pth
end
section
open Go.RowKit Utf
structure PAt (C:Nat) (n:Bool) (u v:ByteArray) (W:World):Prop where
 blk:W.heap[C]? = some (.cells #[.bool n,.string u,.string v] 25 (0,0))
structure TAt (B b0 b1 b2 b3:Nat) (W:World):Prop where
 blk:W.heap[B]? = some (.cells #[.slice (some ⟨b0,0,none⟩) 74 74,.slice (some ⟨b1,0,none⟩) 10 10,.slice (some ⟨b2,0,none⟩) 11 11,.slice (some ⟨b3,0,none⟩) 42 42] 33 (0,0))
section
variable {B C b0 b1 b2 b3:Nat} {n:Bool} {u v:ByteArray} {W W':World}
theorem PAt.lt (H:PAt C n u v W):C<W.heap.size:=(Array.getElem?_eq_some_iff.1 H.blk).1
theorem PAt.all (H:PAt C n u v W):W.cell? ⟨C,0,none⟩=some (.bool n)/\W.cell? ⟨C,1,none⟩=some (.string u)/\W.cell? ⟨C,2,none⟩=some (.string v):=by have:=H.blk;simp [World.cell?,this]
theorem PAt.fr (H:PAt C n u v W):W.frozen? ⟨C,0,none⟩=false/\W.frozen? ⟨C,1,none⟩=false/\W.frozen? ⟨C,2,none⟩=false:=by have:=H.blk;simp [World.frozen?,this]
theorem PAt.Ac (H:PAt C n u v W) (hb:Below W.heap.size W W'):PAt C n u v W':=⟨(hb.block C H.lt).trans H.blk⟩
theorem PAt.other (H:PAt C n u v W) {D:Nat} (hD:C ≠ D) (k:Nat) (z:Value):PAt C n u v (W.setCell ⟨D,k,none⟩ z):=⟨(Below.heap_setCell _ _ _ _ hD).trans H.blk⟩
theorem PAt.set (H:PAt C n u v W) (m:Bool) (x y:ByteArray):PAt C m x y (((W.setCell ⟨C,0,none⟩ (.bool m)).setCell ⟨C,1,none⟩ (.string x)).setCell ⟨C,2,none⟩ (.string y)) :=
 ⟨by have:=H.blk;simp [World.setCell,Array.getElem?_modify,this]⟩
theorem PAt.new (W:World) (n:Bool) (u v:ByteArray):PAt W.heap.size n u v (W.alloc (.cells #[.bool n,.string u,.string v] 25)):=⟨heap_alloc_new W _⟩
theorem TAt.lt (H:TAt B b0 b1 b2 b3 W):B<W.heap.size:=(Array.getElem?_eq_some_iff.1 H.blk).1
theorem TAt.all (H:TAt B b0 b1 b2 b3 W):W.cell? ⟨B,0,none⟩=some (.slice (some ⟨b0,0,none⟩) 74 74)/\W.cell? ⟨B,1,none⟩=some (.slice (some ⟨b1,0,none⟩) 10 10)/\W.cell? ⟨B,2,none⟩=some (.slice (some ⟨b2,0,none⟩) 11 11)/\W.cell? ⟨B,3,none⟩=some (.slice (some ⟨b3,0,none⟩) 42 42):=by have:=H.blk;simp [World.cell?,this]
theorem TAt.Ac (H:TAt B b0 b1 b2 b3 W) (hb:Below W.heap.size W W'):TAt B b0 b1 b2 b3 W':=⟨(hb.block B H.lt).trans H.blk⟩
theorem TAt.other (H:TAt B b0 b1 b2 b3 W) {D:Nat} (hD:B ≠ D) (k:Nat) (z:Value):TAt B b0 b1 b2 b3 (W.setCell ⟨D,k,none⟩ z):=⟨(Below.heap_setCell _ _ _ _ hD).trans H.blk⟩
theorem TAt.new (W:World) (b0 b1 b2 b3:Nat):TAt W.heap.size b0 b1 b2 b3 (W.alloc (.cells #[.slice (some ⟨b0,0,none⟩) 74 74,.slice (some ⟨b1,0,none⟩) 10 10,.slice (some ⟨b2,0,none⟩) 11 11,.slice (some ⟨b3,0,none⟩) 42 42] 33)):=⟨heap_alloc_new W _⟩
theorem Ay {w:World} {k:Nat} (h:Below k w W) (hk:k<=C) (x y z:Value):Below k w (((W.setCell ⟨C,0,none⟩ x).setCell ⟨C,1,none⟩ y).setCell ⟨C,2,none⟩ z) :=
 ((h.setCell (p:=⟨C,0,none⟩) hk x).setCell (p:=⟨C,1,none⟩) hk y).setCell (p:=⟨C,2,none⟩) hk z
end
theorem Ml (n:Bool) (x y:ByteArray) (w:World) (hx:x.size<=100000):Calls prog 17 #[.agg #[.bool n,.string x,.string y]] w λe w'=>e=.returned (.bool (Pth.Cx n x.data.toList y.data.toList))/\Below w.heap.size w w':=by
 obtain ⟨R,hR⟩:∃ R,R=Pth.Cx n x.data.toList y.data.toList:=⟨_,rfl⟩
 rw [<- hR];unfold Pth.Cx at hR;have B0:=jH (Ab w (.cells #[.bool n,.string x,.string y] 25));cases n
 case true =>
  have E:=jH (show R=false from hR);clear hR hx;go_enter func17,ntmps17;go_wp2;go_ret;exact ⟨by rw [E.out];rfl,B0.out⟩
 by_cases h0:y.size=0
 case neg =>
  have e1:(y.toList == [])=false:=by
   rw [ByteArray.toList_eq,beq_eq_false_iff_ne];intro e;have hl:y.data.toList.length=y.size:=by simp
   rw [e] at hl;exact h0 hl.symm
  have E:=jH (show R=false by rw [hR,<- ByteArray.toList_eq y,e1];rfl);clear hR hx h0;go_enter func17,ntmps17;go_wp2;go_ret;exact ⟨by rw [E.out];rfl,B0.out⟩
 obtain rfl:y=⟨#[]⟩:=ByteArray.ext (Array.eq_empty_of_size_eq_zero h0);have KP:=λW=>Tb x W hx;obtain ⟨P,hP⟩:∃ P:ByteArray,P=⟨(x.data.toList.map Am).toArray⟩:=⟨_,rfl⟩
 rw [<- hP] at KP;have hRP:R=(P.toList == [112,111,115,116,109,97,115,116,101,114]):=by rw [hR,hP,ByteArray.toList_eq];rfl
 clear hR hP hx h0;cases hq:(P.toList == [112,111,115,116,109,97,115,116,101,114])
 all_goals
  rw [hq] at hRP;have E:=jH hRP;have K:=jH KP;clear hRP KP;go_enter func17,ntmps17;go_wp2_with fail;refine (K.out _).mono ?_;rintro e w1 ⟨rfl,hb⟩;have B1:=jH (Aa B0.out hb);clear hb;go_wp2;go_ret;exact ⟨by rw [E.out];rfl,B1.out⟩
theorem Q9 (k p:Int) (U T:ByteArray) (w:World):Calls prog 41 #[.agg #[.int .i64 k,.string U,.int .i64 p],.string T] w λe w'=>e=.returned (.bool ((k == 2) && (U.toList == T.toList)))/\Below w.heap.size w w':=by
 cases hq:(k == 2)<;>cases ht:(U.toList == T.toList)
 all_goals
  go_enter func41,ntmps41;go_wp2;go_ret;exact ⟨rfl,Ab _ _⟩
theorem Ae9 (k p:Int) (U:ByteArray) (w:World):Calls prog 43 #[.agg #[.int .i64 k,.string U,.int .i64 p]] w λe w'=>e=.returned (.bool (k == 4 || k == 3))/\Below w.heap.size w w':=by
 cases h4:(k == 4)<;>cases h3:(k == 3)
 all_goals
  go_enter func43,ntmps43;go_wp2;go_ret;exact ⟨rfl,Ab _ _⟩
theorem Ali (N:Nat) (v:Value) (l:List Mbx.S) (w:World) (H:Fi N v l w) (hN:N<=w.heap.size) (hl:l.length<=100000) :
  Calls prog 68 #[v,.func (.func 43) #[] #[]] w λe w'=>(∃ z:Int,e=.returned (.int .i64 z)/\decide (0<=z)=l.any Mbx.Bi)/\Below w.heap.size w w':=by
 have eg:∀ args w,(callFunc 43 args).run prog w=.ok (.enter 43 args) w:=enters_of func43 jK rfl;obtain ⟨r,hr⟩:∃ r,r=l.any Mbx.Bi:=⟨_,rfl⟩
 rw [<- hr];have hyes:∀ k (h:k<l.length),Mbx.Bi l[k]=true->r=true:=λk h e=>by rw [hr];exact List.any_eq_true.2 ⟨_,List.getElem_mem h,e⟩
 have hno:(∀ k (h:k<l.length),Mbx.Bi l[k]=false)->r=false:=λh=>by
  rw [hr,List.any_eq_false];intro x hx;obtain ⟨j,hj,rfl⟩:=List.getElem_of_mem hx;rw [h j hj];decide
 have HY:=jH hyes;have HO:=jH hno;clear hr hyes hno;obtain ⟨A,c,rfl,hc,h⟩:=H.flat;rcases Nat.eq_zero_or_pos l.length with h0 | h0
 ·have E:=jH (HO.out λk hk=>by omega);have hz:¬ (0:Int)<(l.length:Int):=jO
  clear h H h0 HY HO hl;generalize l.length=len at *;go_enter func68,ntmps68;go_wp2;go_loopg [5,8] 1 (λgk _ s8 wr=>s8=.int .i64 0/\0<gk/\w=wr)
  case atStart=>exact ⟨rfl,by omega,rfl⟩
  case round =>
   obtain ⟨rfl,hg,rfl⟩:=hrel;go_wp2;go_ret;exact ⟨⟨-1,rfl,by rw [E.out];rfl⟩,jan _ _⟩
 obtain ⟨g,o,rfl,hg,h⟩:=h h0;have HT:=jH (λi hi=>h i hi);have hgw:g<w.heap.size:=jas hg hN;clear h H h0 hg hN;go_enter func68,ntmps68;go_wp2;go_loopg [5,8] (l.length+1) (λgk _ s8 wr=>∃ k:Nat,s8=.int .i64 k/\k<=l.length/\l.length - k<gk/\Hid ((∀ j (h:j<l.length),j<k->Mbx.Bi l[j]=false)/\Below w.heap.size w wr))
 case atStart=>exact ⟨0,rfl,Nat.zero_le _,by omega,jH ⟨λj _ hj=>absurd hj (Nat.not_lt_zero _),jan _ _⟩⟩
 case round =>
  obtain ⟨k,rfl,hk,hg,I⟩:=hrel;by_cases hlt:k<l.length
  ·have hkz:(k:Int)<(l.length:Int):=jO
   obtain ⟨t0,t1,p,t2⟩:=HT.out k hlt;have e:∀ j,wr.cell? ⟨g,j,none⟩=w.cell? ⟨g,j,none⟩:=λj=>I.out.2.cell (p:=⟨g,j,none⟩) hgw;replace t0:=(e _).trans t0;replace t1:=(e _).trans t1;replace t2:=(e _).trans t2;have hyk:=HY.out k hlt;have hst:Mbx.Bi l[k]=false->Hid ((∀ j (h:j<l.length),j<k+1->Mbx.Bi l[j]=false)/\Below w.heap.size w wr):=λhq=>jH ⟨λj h hj=>by
    by_cases e:j=k
    · subst e;exact hq
    · exact I.out.1 j h jO,I.out.2⟩
   obtain ⟨⟨q,u⟩,hq⟩:∃ q,l[k]=q:=⟨_,rfl⟩
   rw [hq] at t0 t1 hyk hst;simp only at t0 t1;obtain ⟨U,hU⟩:∃ U:ByteArray,U=⟨u.toArray⟩:=⟨_,rfl⟩
   rw [<- hU] at t1;have hn:Mbx.Bi (q,u)=(q == 4 || q == 3):=rfl;rw [hn] at hyk hst;have KD:=Ae9 q p U wr;clear hq hU hn e;cases hb:(q == 4 || q == 3)
   ·rw [hb] at KD;have I2:=hst hb;have KD:=jH KD;clear hyk hst hb;go_wp2_with fail;refine KD.out.mono ?_;rintro e w2 ⟨rfl,hb2⟩;have I3:Hid ((∀ j (h:j<l.length),j<k+1->Mbx.Bi l[j]=false)/\Below w.heap.size w w2):=jH ⟨I2.out.1,Aa I2.out.2 hb2⟩;clear hb2 t0 t1 t2;go_wp2;go_roundg (l.length - k)
    case measure=>omega
    case rel=>exact ⟨k+1,by go_num,by omega,by omega,I3⟩
   ·rw [hb] at KD;have E:=jH (hyk hb);have KD:=jH KD;clear hyk hst hb;go_wp2_with fail;refine KD.out.mono ?_;rintro e w2 ⟨rfl,hb2⟩;have B2:=jH (Aa I.out.2 hb2);clear hb2 t0 t1 t2;go_wp2;go_ret;exact ⟨⟨(k:Int),rfl,by rw [E.out,decide_eq_true_eq];omega⟩,B2.out⟩
  ·obtain rfl:k=l.length:=jO
   have E:=jH (HO.out λj hj=>I.out.1 j hj hj);have hkz:¬ (l.length:Int)<(l.length:Int):=jO
   go_wp2;go_ret;exact ⟨⟨-1,rfl,by rw [E.out];rfl⟩,I.out.2⟩
theorem Zl (N:Nat) (v:Value) (l:List Mbx.S) (w:World) (H:Fi N v l w) (hN:N<=w.heap.size) (hl:l.length<=100000) :
  Calls prog 42 #[v,.func (.func 43) #[] #[]] w λe w'=>e=.returned (.bool (l.any Mbx.Bi))/\Below w.heap.size w w':=by
 have K:=jH (Ali N v l w H hN hl);obtain ⟨A,c,rfl,-⟩:=H;generalize l.any Mbx.Bi=r at K ⊢;clear hN hl;go_enter func42,ntmps42;go_wp2_with fail;refine K.out.mono ?_;rintro e w2 ⟨⟨z,rfl,hz⟩,hb⟩;have B2:=jH hb;have HZ:=jH hz;clear hb hz;cases r
 ·have hz:decide (0<=z)=false:=HZ.out;go_wp2;go_ret;exact ⟨rfl,B2.out⟩
 ·have hz:decide (0<=z)=true:=HZ.out;go_wp2;go_ret;exact ⟨rfl,B2.out⟩
end
section
open Go.RowKit Utf
theorem Avn {w:World} {B:Nat} (hB:w.heap.size=B) (b0 b1 b2 b3:Nat) (n:Bool) (x y:ByteArray) {W:World} (hW:W=(w.alloc (.cells #[.slice (some ⟨b0,0,none⟩) 74 74,.slice (some ⟨b1,0,none⟩) 10 10,.slice (some ⟨b2,0,none⟩) 11 11,.slice (some ⟨b3,0,none⟩) 42 42] 33)).alloc (.cells #[.bool n,.string x,.string y] 25)):TAt B b0 b1 b2 b3 W/\PAt (B+1) n x y W/\Below w.heap.size w W/\W.heap.size=B+2:=by
 subst hB;have hs:(w.alloc (.cells #[.slice (some ⟨b0,0,none⟩) 74 74,.slice (some ⟨b1,0,none⟩) 10 10,.slice (some ⟨b2,0,none⟩) 11 11,.slice (some ⟨b3,0,none⟩) 42 42] 33)).heap.size=w.heap.size+1:=by simp
 rw [hW];exact ⟨(TAt.new w b0 b1 b2 b3).Ac (Ab _ _),hs ▸ PAt.new _ _ _ _,Bf _ _ _,by simp⟩
theorem Ni {w:World} {B:Nat} (hB:w.heap.size=B) (b0 b1 b2 b3:Nat) (n m:Bool) (x y u v:ByteArray) {W:World} (hW:W=((w.alloc (.cells #[.slice (some ⟨b0,0,none⟩) 74 74,.slice (some ⟨b1,0,none⟩) 10 10,.slice (some ⟨b2,0,none⟩) 11 11,.slice (some ⟨b3,0,none⟩) 42 42] 33)).alloc (.cells #[.bool n,.string x,.string y] 25)).alloc (.cells #[.bool m,.string u,.string v] 25)):TAt B b0 b1 b2 b3 W/\PAt (B+1) n x y W/\PAt (B+2) m u v W/\Below w.heap.size w W/\W.heap.size=B+3:=by
 obtain ⟨h1,h2,h3,h4⟩:=Avn hB b0 b1 b2 b3 n x y rfl;rw [hW];exact ⟨h1.Ac (Ab _ _),h2.Ac (Ab _ _),h4 ▸ PAt.new _ _ _ _,Aa h3 (Ab _ _),by rw [World.size_alloc,h4]⟩
theorem Sg {x:ByteArray} (h:¬ x.size=0):(x.toList == [])=false:=by
 rw [ByteArray.toList_eq,beq_eq_false_iff_ne];intro e;have hl:x.data.toList.length=x.size:=by simp
 rw [e] at hl;exact h hl.symm
theorem Agd {x:ByteArray} (h:¬ x.size=0):x.data.toList ≠ []:=λe=>by
 have hl:x.data.toList.length=x.size:=by simp
 rw [e] at hl;exact h hl.symm
theorem Hf (t:Value) (n:Bool) (x y:ByteArray) (w:World) (hT:Table w t) (hx:x.size<=100000) (hy:Av y):Calls prog 7 #[t,.agg #[.bool n,.string x,.string y]] w λe w'=>e=.returned (.int .i64 (Pth.Co n x.data.toList y.data.toList))/\Below w.heap.size w w':=by
 obtain ⟨R,hR⟩:∃ R,R=Pth.Co n x.data.toList y.data.toList:=⟨_,rfl⟩
 rw [<- hR];unfold Pth.Co at hR;have hT0:=hT;obtain ⟨b0,b1,b2,b3,rfl,-,-,-,-⟩:=hT0;obtain ⟨B,hB⟩:∃ B,w.heap.size=B:=⟨_,rfl⟩
 obtain ⟨W0,hW0⟩:∃ W0,W0=(w.alloc (.cells #[.slice (some ⟨b0,0,none⟩) 74 74,.slice (some ⟨b1,0,none⟩) 10 10,.slice (some ⟨b2,0,none⟩) 11 11,.slice (some ⟨b3,0,none⟩) 42 42] 33)).alloc (.cells #[.bool n,.string x,.string y] 25):=⟨_,rfl⟩
 obtain ⟨T0,P0,B0,-⟩:=Avn hB b0 b1 b2 b3 n x y hW0;have HW0:=jH hW0.symm;have KM:=λW=>Ml n x y W hx;have KR:=jH (λW (h:Below w.heap.size w W)=>Akz _ x y W (hT.below h) hx hy);clear hT hy hW0;cases n
 case true =>
  rw [if_pos rfl] at hR;have BB:=jH B0;clear KM KR T0 P0 B0;by_cases hx0:x.size=0
  ·obtain rfl:x=⟨#[]⟩:=ByteArray.ext (Array.eq_empty_of_size_eq_zero hx0);by_cases hy0:y.size=0
   ·obtain rfl:y=⟨#[]⟩:=ByteArray.ext (Array.eq_empty_of_size_eq_zero hy0);have E:=jH (show R=0 by rw [hR];rfl);clear hR hx hx0 hy0;go_enter func7,ntmps7;go_wp2;rw [HW0.out];go_ret;exact ⟨by rw [E.out];rfl,BB.out⟩
   ·have e2:=Sg hy0;have E:=jH (show R=1 by rw [hR,if_neg (λh=>Agd hy0 h.2)]);clear hR hx hx0 hy0;go_enter func7,ntmps7;go_wp2;rw [HW0.out];go_ret;exact ⟨by rw [E.out];rfl,BB.out⟩
  ·have e1:=Sg hx0;have E:=jH (show R=1 by rw [hR,if_neg (λh=>Agd hx0 h.1)]);by_cases hy0:y.size=0
   ·obtain rfl:y=⟨#[]⟩:=ByteArray.ext (Array.eq_empty_of_size_eq_zero hy0);clear hR hx hx0 hy0;go_enter func7,ntmps7;go_wp2;rw [HW0.out];go_ret;exact ⟨by rw [E.out];rfl,BB.out⟩
   ·have e2:=Sg hy0;clear hR hx hx0 hy0;go_enter func7,ntmps7;go_wp2;rw [HW0.out];go_ret;exact ⟨by rw [E.out];rfl,BB.out⟩
 rw [if_neg jD] at hR;generalize Pth.Cx false x.data.toList y.data.toList=m at KM hR;generalize Mbx.Fh x.data.toList y.data.toList=G at KR hR;have TT:=jH T0;have PP:=jH P0;have BB:=jH B0;have KM:=jH KM;clear T0 P0 B0 hx;cases m
 ·have E:=jH (show R=G by rw [hR,if_neg jD]);clear hR;go_enter func7,ntmps7;go_wp2_with fail;rw [HW0.out];refine (KM.out _).mono ?_;rintro e w1 ⟨rfl,hb⟩;replace TT:=jH (TT.out.Ac hb);replace PP:=jH (PP.out.Ac hb);replace BB:=jH (Aa BB.out hb);clear hb;obtain ⟨t0,t1,t2,t3⟩:=TT.out.all;obtain ⟨p0,p1,p2⟩:=PP.out.all;go_wp2_with fail;refine (KR.out _ BB.out).mono ?_;rintro e w2 ⟨rfl,hb⟩;replace TT:=jH (TT.out.Ac hb);replace PP:=jH (PP.out.Ac hb);replace BB:=jH (Aa BB.out hb);clear hb;clear t0 t1 t2 t3 p0 p1 p2;obtain ⟨t0,t1,t2,t3⟩:=TT.out.all;obtain ⟨p0,p1,p2⟩:=PP.out.all;go_wp2;go_ret;exact ⟨by rw [E.out];rfl,BB.out⟩
 ·have E:=jH (show R=0 by rw [hR,if_pos rfl]);clear hR;go_enter func7,ntmps7;go_wp2_with fail;rw [HW0.out];refine (KM.out _).mono ?_;rintro e w1 ⟨rfl,hb⟩;replace TT:=jH (TT.out.Ac hb);replace PP:=jH (PP.out.Ac hb);replace BB:=jH (Aa BB.out hb);clear hb;obtain ⟨t0,t1,t2,t3⟩:=TT.out.all;obtain ⟨p0,p1,p2⟩:=PP.out.all;go_wp2;go_ret;exact ⟨by rw [E.out];rfl,BB.out⟩
theorem Jl (n:Bool) (x y:ByteArray) (w:World) (hx:x.size<=10000) (hy:y.size<=100000):Calls prog 10 #[.agg #[.bool n,.string x,.string y]] w λe w'=>e=.returned (.string ⟨(Pth.Bn n x.data.toList y.data.toList).toArray⟩)/\Below w.heap.size w w':=by
 obtain ⟨S,hS⟩:∃ S:ByteArray,S=⟨(Pth.Jf n x.data.toList y.data.toList).toArray⟩:=⟨_,rfl⟩
 obtain ⟨T1,hT1⟩:∃ T:ByteArray,T=(⟨#[60]⟩:ByteArray) ++ S:=⟨_,rfl⟩
 obtain ⟨T2,hT2⟩:∃ T:ByteArray,T=T1 ++ (⟨#[62]⟩:ByteArray):=⟨_,rfl⟩
 have hSs:S.size<=200000:=by
  rw [hS];show (Pth.Jf n x.data.toList y.data.toList).toArray.size<=_;rw [List.size_toArray];have hxl:x.data.toList.length=x.size:=by simp
  have hyl:y.data.toList.length=y.size:=by simp
  have:=Mbx.N4 x.data.toList;unfold Pth.Jf Mbx.D1;split
  ·simp
  ·split
   · omega
   · rw [jab,jac];omega
 have a1:∀ W,(Op.stringOp .add ⟨#[60]⟩ S).run prog W=.ok (.string T1) W:=λW=>by rw [hT1];exact run_string_add_sum W _ _ (by show 1+S.size<=_;omega)
 have s1:T1.size=1+S.size:=by rw [hT1,ByteArray.size_append];rfl
 have a2:∀ W,(Op.stringOp .add T1 ⟨#[62]⟩).run prog W=.ok (.string T2) W:=λW=>by rw [hT2];exact run_string_add_sum W _ _ (by rw [s1];show 1+S.size+1<=_;omega)
 have E:=jH (show (⟨(Pth.Bn n x.data.toList y.data.toList).toArray⟩:ByteArray)=T2 by
  rw [hT2,hT1,hS];apply ByteArray.ext;unfold Pth.Bn;simp [ByteArray.data_append])
 rw [E.out];unfold Pth.Jf at hS;have KM:=λW=>Ml n x y W jO;have KP:=jH (λW=>Apy x y W hx hy rfl);obtain ⟨B,hB⟩:∃ B,w.heap.size=B:=⟨_,rfl⟩
 obtain ⟨W0,hW0⟩:∃ W0,W0=w.alloc (.cells #[.bool n,.string x,.string y] 25):=⟨_,rfl⟩
 have P0:PAt B n x y W0:=by rw [hW0,<- hB];exact PAt.new _ _ _ _
 have B0:Below w.heap.size w W0:=by rw [hW0];exact Ab _ _
 have HW0:=jH hW0.symm;clear hT1 hT2 hSs s1 E hW0;cases n
 case true =>
  rw [if_pos rfl] at hS;obtain rfl:S=⟨#[]⟩:=hS;have BB:=jH B0;clear KM KP P0 B0 hx hy;go_enter func10,ntmps10;go_wp2;go_ret;exact ⟨rfl,by first | exact BB.out | (rw [HW0.out];exact BB.out)⟩
 rw [if_neg jD] at hS;have PP:=jH P0;have BB:=jH B0;clear P0 B0 hx hy;cases hm:Pth.Cx false x.data.toList y.data.toList
 ·rw [hm,if_neg jD] at hS;rw [hm] at KM;have KM:=jH KM;have HS:=jH hS.symm;clear hS hm;go_enter func10,ntmps10;go_wp2_with fail;rw [HW0.out];refine (KM.out _).mono ?_;rintro e w1 ⟨rfl,hb⟩;replace PP:=jH (PP.out.Ac hb);replace BB:=jH (Aa BB.out hb);clear hb;obtain ⟨p0,p1,p2⟩:=PP.out.all;go_wp2_with fail;refine (KP.out _).mono ?_;rintro e w2 ⟨rfl,hb⟩;replace PP:=jH (PP.out.Ac hb);replace BB:=jH (Aa BB.out hb);clear hb;clear p0 p1 p2;obtain ⟨p0,p1,p2⟩:=PP.out.all;rw [HS.out];go_wp2;go_ret;exact ⟨rfl,BB.out⟩
 ·rw [hm,if_pos rfl] at hS;rw [hm] at KM;have KM:=jH KM;obtain rfl:S=x:=hS;clear hm;go_enter func10,ntmps10;go_wp2_with fail;rw [HW0.out];refine (KM.out _).mono ?_;rintro e w1 ⟨rfl,hb⟩;replace PP:=jH (PP.out.Ac hb);replace BB:=jH (Aa BB.out hb);clear hb;obtain ⟨p0,p1,p2⟩:=PP.out.all;go_wp2;go_ret;exact ⟨rfl,BB.out⟩
theorem Jk (t:Value) (n:Bool) (x y:ByteArray) (w:World) (hT:Table w t) (hx:Av x) (hy:Av y):Calls prog 22 #[t,.agg #[.bool n,.string x,.string y]] w λe w'=>e=.returned (.agg #[.bool n,.string ⟨(Pth.Q3 n x.data.toList y.data.toList).toArray⟩,.string ⟨(Pth.Acv n x.data.toList y.data.toList).toArray⟩])/\Below w.heap.size w w':=by
 obtain ⟨U,hU⟩:∃ U:ByteArray,U=⟨(Pth.Q3 n x.data.toList y.data.toList).toArray⟩:=⟨_,rfl⟩
 obtain ⟨V,hV⟩:∃ V:ByteArray,V=⟨(Pth.Acv n x.data.toList y.data.toList).toArray⟩:=⟨_,rfl⟩
 rw [<- hU,<- hV];unfold Pth.Q3 at hU;unfold Pth.Acv at hV;have hT0:=hT;obtain ⟨b0,b1,b2,b3,rfl,-,-,-,-⟩:=hT0;obtain ⟨B,hB⟩:∃ B,w.heap.size=B:=⟨_,rfl⟩
 obtain ⟨W0,hW0⟩:∃ W0,W0=((w.alloc (.cells #[.slice (some ⟨b0,0,none⟩) 74 74,.slice (some ⟨b1,0,none⟩) 10 10,.slice (some ⟨b2,0,none⟩) 11 11,.slice (some ⟨b3,0,none⟩) 42 42] 33)).alloc (.cells #[.bool n,.string x,.string y] 25)).alloc (.cells #[.bool false,.string ⟨#[]⟩,.string ⟨#[]⟩] 25):=⟨_,rfl⟩
 obtain ⟨T0,P0,R0,B0,-⟩:=Ni hB b0 b1 b2 b3 n false x y ⟨#[]⟩ ⟨#[]⟩ hW0;have HW0:=jH hW0.symm;have KM:=λW=>Ml n x y W hx.1;have KC:=jH (λW (h:Below w.heap.size w W)=>Ase _ x y W (hT.below h) hx hy rfl rfl);have TT:=jH T0;have PP:=jH P0;have RR:=jH R0;have BB:=jH B0;clear hT hx hy hW0 T0 P0 R0 B0;cases n
 case true =>
  rw [if_pos rfl] at hU hV;obtain rfl:U=⟨#[]⟩:=hU;obtain rfl:V=⟨#[]⟩:=hV;clear KM KC;go_enter func22,ntmps22;obtain ⟨r0,r1,r2⟩:=RR.out.all;obtain ⟨f0,f1,f2⟩:=RR.out.fr;obtain ⟨p0,p1,p2⟩:=PP.out.all;go_upto_region 1 with (fail)
  rw [HW0.out];go_wp2;refine bodyPost_ret (v:=.agg #[.bool true,.string ⟨#[]⟩,.string ⟨#[]⟩]) (by simp [results,results22,go_sem,r0,r1,r2]) rfl ⟨rfl,?_⟩;exact Ay (C:=B+2) BB.out jO _ _ _
 rw [if_neg jD] at hU hV;cases hm:Pth.Cx false x.data.toList y.data.toList
 ·rw [hm,if_neg jD] at hU hV;rw [hm] at KM;have KM:=jH KM;have HU:=jH hU.symm;have HV:=jH hV.symm;clear hU hV hm;go_enter func22,ntmps22;go_wp2_with fail;rw [HW0.out];refine (KM.out _).mono ?_;rintro e w1 ⟨rfl,hb⟩;replace TT:=jH (TT.out.Ac hb);replace PP:=jH (PP.out.Ac hb);replace RR:=jH (RR.out.Ac hb);replace BB:=jH (Aa BB.out hb);clear hb;obtain ⟨t0,t1,t2,t3⟩:=TT.out.all;obtain ⟨p0,p1,p2⟩:=PP.out.all;obtain ⟨r0,r1,r2⟩:=RR.out.all;obtain ⟨f0,f1,f2⟩:=RR.out.fr;go_wp2_with fail;refine (KC.out _ BB.out).mono ?_;rintro e w2 ⟨rfl,hb⟩;replace TT:=jH (TT.out.Ac hb);replace PP:=jH (PP.out.Ac hb);replace RR:=jH (RR.out.Ac hb);replace BB:=jH (Aa BB.out hb);clear hb;clear r0 r1 r2 f0 f1 f2 t0 t1 t2 t3 p0 p1 p2;obtain ⟨t0,t1,t2,t3⟩:=TT.out.all;obtain ⟨p0,p1,p2⟩:=PP.out.all;obtain ⟨r0,r1,r2⟩:=RR.out.all;obtain ⟨f0,f1,f2⟩:=RR.out.fr;rw [HU.out,HV.out];go_wp2;refine bodyPost_ret (v:=.agg #[.bool false,.string U,.string V]) (by simp [results,results22,go_sem,r0,r1,r2]) rfl ⟨rfl,?_⟩;exact Ay (C:=B+2) BB.out jO _ _ _
 ·rw [hm,if_pos rfl] at hU hV;rw [hm] at KM;have KM:=jH KM;obtain rfl:U=⟨#[112,111,115,116,109,97,115,116,101,114]⟩:=hU;obtain rfl:V=⟨#[]⟩:=hV;clear hm;go_enter func22,ntmps22;go_wp2_with fail;rw [HW0.out];refine (KM.out _).mono ?_;rintro e w1 ⟨rfl,hb⟩;replace TT:=jH (TT.out.Ac hb);replace PP:=jH (PP.out.Ac hb);replace RR:=jH (RR.out.Ac hb);replace BB:=jH (Aa BB.out hb);clear hb;obtain ⟨t0,t1,t2,t3⟩:=TT.out.all;obtain ⟨p0,p1,p2⟩:=PP.out.all;obtain ⟨r0,r1,r2⟩:=RR.out.all;obtain ⟨f0,f1,f2⟩:=RR.out.fr;go_wp2;refine bodyPost_ret (v:=.agg #[.bool false,.string ⟨#[112,111,115,116,109,97,115,116,101,114]⟩,.string ⟨#[]⟩]) (by simp [results,results22,go_sem,r0,r1,r2]) rfl ⟨rfl,?_⟩;exact Ay (C:=B+2) BB.out jO _ _ _
theorem Xp (n:Bool) (x y:ByteArray) (w:World) (hx:x.size<=100000) (hy:y.size<=100000):Calls prog 19 #[.agg #[.bool n,.string x,.string y]] w λe w'=>e=.returned (.agg #[.bool n,.string x,.string y])/\Below w.heap.size w w':=by
 obtain ⟨B,hB⟩:∃ B,w.heap.size=B:=⟨_,rfl⟩
 have KX:=jH (λW=>Bk x W hx);have KY:=jH (λW=>Bk y W hy);obtain ⟨W0,hW0⟩:∃ W0,W0=((w.alloc (.cells #[.bool n,.string x,.string y] 25)).alloc (.cells #[.bool false,.string ⟨#[]⟩,.string ⟨#[]⟩] 25)):=⟨_,rfl⟩
 have hs1:(w.alloc (.cells #[.bool n,.string x,.string y] 25)).heap.size=B+1:=by simp [hB]
 have P0:Hid (PAt B n x y W0):=jH (by rw [hW0,<- hB];exact (PAt.new w n x y).Ac (Ab _ _));have R0:Hid (PAt (B+1) false ⟨#[]⟩ ⟨#[]⟩ W0):=jH (by rw [hW0,<- hs1];exact PAt.new _ _ _ _);have B0:Hid (Below w.heap.size w W0):=jH (by rw [hW0];exact Bf _ _ _);obtain ⟨c0,c1,c2⟩:=P0.out.all;clear hs1;go_enter func19,ntmps19;go_wp2;rw [<- hW0];clear hW0;go_region_held3 (λw'=>w'.cell? ⟨B,0,none⟩=some (.bool n)/\w'.cell? ⟨B,1,none⟩=some (.string x)/\w'.cell? ⟨B,2,none⟩=some (.string y)) (first | go_keep | exact (((P3.out.other (show B ≠ B+1 by omega) 0 (.bool n)).other (show B ≠ B+1 by omega) 1 (.string x)).other (show B ≠ B+1 by omega) 2 (.string y)).all) (first
  | (go_at_call 33;(with_reducible refine (KX.out _).mono ?_);rintro e w2 ⟨rfl,hb⟩;have hb:=Af hb;have P2:=jH (P0.out.Ac hb);have R2:=jH (R0.out.Ac hb);have B2:=jH (Aa B0.out hb);obtain ⟨d0,d1,d2⟩:=P2.out.all;clear hb)
  | (go_at_call 33;(with_reducible refine (KY.out _).mono ?_);rintro e w3 ⟨rfl,hb⟩;have P3:=jH (P2.out.Ac hb);have R3:=jH (R2.out.Ac hb);have B3:=jH (Aa B2.out hb);obtain ⟨e0,e1,e2⟩:=P3.out.all;obtain ⟨r0,r1,r2⟩:=R3.out.all;obtain ⟨f0,f1,f2⟩:=R3.out.fr;clear hb))
 all_goals
  go_wp2;refine bodyPost_ret (v:=.agg #[.bool n,.string x,.string y]) (by simp [results,results19,go_sem,r0,r1,r2]) rfl ⟨rfl,?_⟩;exact Ay (C:=B+1) B3.out jO _ _ _
theorem Adl (t:Value) (n:Bool) (x y:ByteArray) (w:World) (hT:Table w t) (hx:x.size<=100000) (hy:Av y) {E:Int} {k:Bool} {u v:List UInt8} (hd:Pth.Afh n x.data.toList y.data.toList=(E,k,u,v)):Calls prog 8 #[t,.agg #[.bool n,.string x,.string y]] w λe w'=>e=.returned (.tuple #[.agg #[.bool k,.string ⟨u.toArray⟩,.string ⟨v.toArray⟩],.int .i64 E])/\Below w.heap.size w w':=by
 have hT0:=hT;obtain ⟨b0,b1,b2,b3,rfl,-,-,-,-⟩:=hT0;obtain ⟨B,hB⟩:∃ B,w.heap.size=B:=⟨_,rfl⟩
 obtain ⟨W0,hW0⟩:∃ W0,W0=((w.alloc (.cells #[.slice (some ⟨b0,0,none⟩) 74 74,.slice (some ⟨b1,0,none⟩) 10 10,.slice (some ⟨b2,0,none⟩) 11 11,.slice (some ⟨b3,0,none⟩) 42 42] 33)).alloc (.cells #[.bool n,.string x,.string y] 25)).alloc (.cells #[.bool false,.string ⟨#[]⟩,.string ⟨#[]⟩] 25):=⟨_,rfl⟩
 obtain ⟨T0,P0,R0,B0,-⟩:=Ni hB b0 b1 b2 b3 n false x y ⟨#[]⟩ ⟨#[]⟩ hW0;have HW0:=jH hW0.symm;have KM:=λW=>Ml n x y W hx;have KY:=jH (λW=>Xp n x y W hx hy.1);obtain ⟨⟨F,p,q⟩,hF⟩:∃ r,Mbx.Md x.data.toList y.data.toList=r:=⟨_,rfl⟩
 have KD:=λW (h:Below w.heap.size w W)=>An7 _ x y W (hT.below h) hx hy hF;have TT:=jH T0;have PP:=jH P0;have RR:=jH R0;have BB:=jH B0;unfold Pth.Afh at hd;have HX:=jH (show (⟨x.data.toList.toArray⟩:ByteArray)=x from rfl);have HY:=jH (show (⟨y.data.toList.toArray⟩:ByteArray)=y from rfl);clear hT hx hy hW0 T0 P0 R0 B0;cases n
 case true =>
  rw [if_pos (.inl rfl)] at hd;injection hd with e1 hd;injection hd with e2 hd;injection hd with e3 e4
  subst e1 e2 e3 e4;clear KM KD;go_enter func8,ntmps8;go_wp2_with fail;rw [HW0.out];refine (KY.out _).mono ?_;rintro e w1 ⟨rfl,hb⟩;replace TT:=jH (TT.out.Ac hb);replace PP:=jH (PP.out.Ac hb);replace RR:=jH (RR.out.Ac hb);replace BB:=jH (Aa BB.out hb);clear hb;obtain ⟨t0,t1,t2,t3⟩:=TT.out.all;obtain ⟨p0,p1,p2⟩:=PP.out.all;obtain ⟨r0,r1,r2⟩:=RR.out.all;obtain ⟨f0,f1,f2⟩:=RR.out.fr;go_wp2;refine bodyPost_ret (v:=.tuple #[.agg #[.bool true,.string x,.string y],.int .i64 0]) (by simp [results,results8,go_sem,r0,r1,r2]) rfl ⟨rfl,?_⟩;exact Ay (C:=B+2) BB.out jO _ _ _
 cases hm:Pth.Cx false x.data.toList y.data.toList
 ·rw [hm,if_neg jS] at hd;rw [hm] at KM;injection hd with e1 hd;injection hd with e2 hd;injection hd with e3 e4
  rw [hF] at e1 e3 e4;replace e1:F=E:=e1;replace e3:p=u:=e3;replace e4:q=v:=e4;subst e1 e2 e3 e4;obtain ⟨P,hP⟩:∃ P:ByteArray,P=⟨p.toArray⟩:=⟨_,rfl⟩
  obtain ⟨Q,hQ⟩:∃ Q:ByteArray,Q=⟨q.toArray⟩:=⟨_,rfl⟩
  rw [<- hP,<- hQ] at KD ⊢;have KM:=jH KM;have KD:=jH KD;clear hm hF hP hQ KY;go_enter func8,ntmps8;go_wp2_with fail;rw [HW0.out];refine (KM.out _).mono ?_;rintro e w1 ⟨rfl,hb⟩;replace TT:=jH (TT.out.Ac hb);replace PP:=jH (PP.out.Ac hb);replace RR:=jH (RR.out.Ac hb);replace BB:=jH (Aa BB.out hb);clear hb;obtain ⟨t0,t1,t2,t3⟩:=TT.out.all;obtain ⟨p0,p1,p2⟩:=PP.out.all;obtain ⟨r0,r1,r2⟩:=RR.out.all;obtain ⟨f0,f1,f2⟩:=RR.out.fr;go_wp2_with fail;refine (KD.out _ BB.out).mono ?_;rintro e w2 ⟨rfl,hb⟩;replace TT:=jH (TT.out.Ac hb);replace PP:=jH (PP.out.Ac hb);replace RR:=jH (RR.out.Ac hb);replace BB:=jH (Aa BB.out hb);clear hb;clear r0 r1 r2 f0 f1 f2 t0 t1 t2 t3 p0 p1 p2;obtain ⟨t0,t1,t2,t3⟩:=TT.out.all;obtain ⟨p0,p1,p2⟩:=PP.out.all;obtain ⟨r0,r1,r2⟩:=RR.out.all;obtain ⟨f0,f1,f2⟩:=RR.out.fr;obtain ⟨N,hN⟩:∃ N,w2.heap.size=N:=⟨_,rfl⟩
  have hb:=Ab w2 (.cells #[.string P,.string Q] 23);have ltTT:=TT.out.lt;replace TT:=jH (TT.out.Ac hb);have ltPP:=PP.out.lt;replace PP:=jH (PP.out.Ac hb);have ltRR:=RR.out.lt;replace RR:=jH (RR.out.Ac hb);replace BB:=jH (Aa BB.out hb);clear hb;have MM:=jH (show CAt N P Q (w2.alloc (.cells #[.string P,.string Q] 23)) from hN ▸ CAt.new w2 P Q);clear r0 r1 r2 f0 f1 f2 t0 t1 t2 t3 p0 p1 p2;obtain ⟨t0,t1,t2,t3⟩:=TT.out.all;obtain ⟨p0,p1,p2⟩:=PP.out.all;obtain ⟨r0,r1,r2⟩:=RR.out.all;obtain ⟨f0,f1,f2⟩:=RR.out.fr;have m0:=MM.out.c0;have m1:=MM.out.c1;go_wp2;refine bodyPost_ret (v:=.tuple #[.agg #[.bool false,.string P,.string Q],.int .i64 F]) (by simp [results,results8,go_sem,r0,r1,r2]) rfl ⟨rfl,?_⟩;exact Ay (C:=B+2) BB.out jO _ _ _
 ·rw [hm,if_pos (.inr rfl)] at hd;rw [hm] at KM;injection hd with e1 hd;injection hd with e2 hd;injection hd with e3 e4
  subst e1 e2 e3 e4;have KM:=jH KM;clear hm KD;go_enter func8,ntmps8;go_wp2_with fail;rw [HW0.out];refine (KM.out _).mono ?_;rintro e w1 ⟨rfl,hb⟩;replace TT:=jH (TT.out.Ac hb);replace PP:=jH (PP.out.Ac hb);replace RR:=jH (RR.out.Ac hb);replace BB:=jH (Aa BB.out hb);clear hb;obtain ⟨t0,t1,t2,t3⟩:=TT.out.all;obtain ⟨p0,p1,p2⟩:=PP.out.all;obtain ⟨r0,r1,r2⟩:=RR.out.all;obtain ⟨f0,f1,f2⟩:=RR.out.fr;go_wp2_with fail;refine (KY.out _).mono ?_;rintro e w2 ⟨rfl,hb⟩;replace TT:=jH (TT.out.Ac hb);replace PP:=jH (PP.out.Ac hb);replace RR:=jH (RR.out.Ac hb);replace BB:=jH (Aa BB.out hb);clear hb;clear r0 r1 r2 f0 f1 f2 t0 t1 t2 t3 p0 p1 p2;obtain ⟨t0,t1,t2,t3⟩:=TT.out.all;obtain ⟨p0,p1,p2⟩:=PP.out.all;obtain ⟨r0,r1,r2⟩:=RR.out.all;obtain ⟨f0,f1,f2⟩:=RR.out.fr;go_wp2;refine bodyPost_ret (v:=.tuple #[.agg #[.bool false,.string x,.string y],.int .i64 0]) (by simp [results,results8,go_sem,r0,r1,r2]) rfl ⟨rfl,?_⟩;exact Ay (C:=B+2) BB.out jO _ _ _
end
section
open Go.RowKit Utf
structure Rt (B b0 b1 b2 b3:Nat) (n:Bool) (x y:ByteArray) (k:Bool) (u v:ByteArray) (W:World):Prop where
 t:TAt B b0 b1 b2 b3 W
 p:PAt (B+1) n x y W
 q:PAt (B+2) k u v W
theorem Rt.Ac {B b0 b1 b2 b3:Nat} {n k:Bool} {x y u v:ByteArray} {W W':World} (h:Rt B b0 b1 b2 b3 n x y k u v W) (hb:Below W.heap.size W W'):Rt B b0 b1 b2 b3 n x y k u v W':=⟨h.t.Ac hb,h.p.Ac hb,h.q.Ac hb⟩
theorem Rt.all {B b0 b1 b2 b3:Nat} {n k:Bool} {x y u v:ByteArray} {W:World} (h:Rt B b0 b1 b2 b3 n x y k u v W):W.cell? ⟨B,0,none⟩=some (.slice (some ⟨b0,0,none⟩) 74 74)/\W.cell? ⟨B,1,none⟩=some (.slice (some ⟨b1,0,none⟩) 10 10)/\W.cell? ⟨B,2,none⟩=some (.slice (some ⟨b2,0,none⟩) 11 11)/\W.cell? ⟨B,3,none⟩=some (.slice (some ⟨b3,0,none⟩) 42 42)/\W.cell? ⟨B+1,0,none⟩=some (.bool n)/\W.cell? ⟨B+1,1,none⟩=some (.string x)/\W.cell? ⟨B+1,2,none⟩=some (.string y)/\W.cell? ⟨B+2,0,none⟩=some (.bool k)/\W.cell? ⟨B+2,1,none⟩=some (.string u)/\W.cell? ⟨B+2,2,none⟩=some (.string v) :=
 ⟨h.t.all.1,h.t.all.2.1,h.t.all.2.2.1,h.t.all.2.2.2,h.p.all.1,h.p.all.2.1,h.p.all.2.2,h.q.all.1,h.q.all.2.1,h.q.all.2.2⟩
theorem Adm (t:Value) (n:Bool) (x y:ByteArray) (k:Bool) (u v:ByteArray) (w:World) (hT:Table w t) (hx:Av x) (hy:Av y) (hu:Av u) (hv:Av v) :
  Calls prog 11 #[t,.agg #[.bool n,.string x,.string y],.agg #[.bool k,.string u,.string v]] w λe w'=>e=.returned (.bool (Pth.Uj n x.data.toList y.data.toList k u.data.toList v.data.toList))/\Below w.heap.size w w':=by
 have hT0:=hT;obtain ⟨b0,b1,b2,b3,rfl,-,-,-,-⟩:=hT0;obtain ⟨B,hB⟩:∃ B,w.heap.size=B:=⟨_,rfl⟩
 obtain ⟨W0,hW0⟩:∃ W0,W0=((w.alloc (.cells #[.slice (some ⟨b0,0,none⟩) 74 74,.slice (some ⟨b1,0,none⟩) 10 10,.slice (some ⟨b2,0,none⟩) 11 11,.slice (some ⟨b3,0,none⟩) 42 42] 33)).alloc (.cells #[.bool n,.string x,.string y] 25)).alloc (.cells #[.bool k,.string u,.string v] 25):=⟨_,rfl⟩
 have S0:Hid (Rt B b0 b1 b2 b3 n x y k u v W0):=jH (by obtain ⟨h1,h2,h3,-⟩:=Ni hB b0 b1 b2 b3 n k x y u v hW0;exact ⟨h1,h2,h3⟩);have B0:Hid (Below w.heap.size w W0):=jH (Ni hB b0 b1 b2 b3 n k x y u v hW0).2.2.2.1;have HW0:=jH hW0.symm;clear hW0;have R1:=λW (h:Below w.heap.size w W)=>Hf _ n x y W (hT.below h) hx.1 hy;have R2:=λW (h:Below w.heap.size w W)=>Hf _ k u v W (hT.below h) hu.1 hv;have K1:=jH (λW (h:Below w.heap.size w W)=>Jk _ n x y W (hT.below h) hx hy);have K2:=jH (λW (h:Below w.heap.size w W)=>Jk _ k u v W (hT.below h) hu hv);obtain ⟨z,hz⟩:∃ z,z=Pth.Uj n x.data.toList y.data.toList k u.data.toList v.data.toList:=⟨_,rfl⟩
 rw [<- hz];unfold Pth.Uj at hz;generalize Pth.Co n x.data.toList y.data.toList=F at R1 hz;generalize Pth.Co k u.data.toList v.data.toList=G at R2 hz;generalize Pth.Q3 n x.data.toList y.data.toList=nx at K1 hz;generalize Pth.Q3 k u.data.toList v.data.toList=nu at K2 hz;generalize Pth.Acv n x.data.toList y.data.toList=dy at K1 hz;generalize Pth.Acv k u.data.toList v.data.toList=dv at K2 hz;have R1:=jH R1;have R2:=jH R2;clear hT hx hy hu hv;have s0:=S0.out.all;obtain ⟨d0,d1,d2,d3,m0,m1,m2,c0,c1,c2⟩:=s0;by_cases hF:F=0
 case neg =>
  have e0:(F == 0)=false:=by simpa using hF
  have E:=jH (show z=false by rw [hz,e0];rfl);clear hF hz;go_enter func11,ntmps11;go_wp2;rw [HW0.out];refine wp_region_held_drew (S:=(λw':World=>w'.cell? ⟨B,0,none⟩=some (.slice (some ⟨b0,0,none⟩) 74 74)/\w'.cell? ⟨B,1,none⟩=some (.slice (some ⟨b1,0,none⟩) 10 10)/\w'.cell? ⟨B,2,none⟩=some (.slice (some ⟨b2,0,none⟩) 11 11)/\w'.cell? ⟨B,3,none⟩=some (.slice (some ⟨b3,0,none⟩) 42 42)/\w'.cell? ⟨B+1,0,none⟩=some (.bool n)/\w'.cell? ⟨B+1,1,none⟩=some (.string x)/\w'.cell? ⟨B+1,2,none⟩=some (.string y)/\w'.cell? ⟨B+2,0,none⟩=some (.bool k)/\w'.cell? ⟨B+2,1,none⟩=some (.string u)/\w'.cell? ⟨B+2,2,none⟩=some (.string v))) jK ?_ (λhHeld=>?_)
  ·(try dsimp only)
   exact ⟨d0,d1,d2,d3,m0,m1,m2,c0,c1,c2⟩
  refine Aj 0 7 (v:=?_) rfl rfl jK jK jK (λ_ _ _ h=>h) (Or.inl ⟨by rfl,?_⟩) jA ?_;rotate_left
  ·intro w hSw
   (try dsimp only at hSw)
   go_simp
   first | done | with_reducible rfl
  simp only [Act.put,jad,jae,jaf];refine Aj 1 8 (v:=?_) rfl rfl jK jK jK (λ_ _ _ h=>h) (Or.inl ⟨by rfl,?_⟩) jA ?_;rotate_left
  ·intro w hSw
   (try dsimp only at hSw)
   go_simp
   first | done | with_reducible rfl
  simp only [Act.put,jad,jae,jaf];refine wpAnyH_ready (rs:=[2]) jK jS ?_;refine AllReadyH.cons (o:={ dst:=some 9,op:=.call { callee:=.value (.func 7),args:=#[.tmp 7,.tmp 8],argTypes:=#[33,25] },type:=_,pos := "path.go:88", after:=_,guard:=none }) rfl (λK hK=>?_) AllReadyH.nil
  (try go_simp)
  go_at_call 7;with_reducible refine (R1.out _ B0.out.drew).mono ?_
  rintro e w1 ⟨rfl,hb⟩;have hb:=Af hb;have S1:=jH (S0.out.Ac hb);have B1:=jH (Aa B0.out hb);clear hb;go_wp2_with fail;clear hHeld;refine hK.out _ _ ?_ (λhHeld=>?_)
  ·exact S1.out.all
  clear hK K;refine Aj 3 10 (v:=?_) rfl rfl jK jK jK (λ_ _ _ h=>h) (Or.inl ⟨by rfl,?_⟩) jA ?_;rotate_left
  ·intro w hSw
   (try dsimp only at hSw)
   go_simp
   first | done | with_reducible rfl
  simp only [Act.put,jad,jae,jaf];refine Aj 4 11 (v:=?_) rfl rfl jK jK jK (λ_ _ _ h=>h) (Or.inl ⟨by rfl,?_⟩) jA ?_;rotate_left
  ·intro w hSw
   (try dsimp only at hSw)
   go_simp
   first | done | with_reducible rfl
  simp only [Act.put,jad,jae,jaf];refine Aj 5 12 (v:=undef) rfl rfl jK jK jK (λ_ _ _ h=>h) (Or.inr ⟨by rfl,rfl⟩) jA ?_;simp only [Act.put,jad,jae,jaf];refine Aj 6 13 (v:=undef) rfl rfl jK jK jK (λ_ _ _ h=>h) (Or.inr ⟨by rfl,rfl⟩) jA ?_;simp only [Act.put,jad,jae,jaf];refine Aj 7 14 (v:=undef) rfl rfl jK jK jK (λ_ _ _ h=>h) (Or.inr ⟨by rfl,rfl⟩) jA ?_;simp only [Act.put,jad,jae,jaf];refine Aj 8 15 (v:=undef) rfl rfl jK jK jK (λ_ _ _ h=>h) (Or.inr ⟨by rfl,rfl⟩) jA ?_;simp only [Act.put,jad,jae,jaf];refine Aj 9 16 (v:=?_) rfl rfl jK jK jK (λ_ _ _ h=>h) (Or.inl ⟨by rfl,?_⟩) jA ?_;rotate_left
  ·intro w hSw
   (try dsimp only at hSw)
   go_simp
   first | done | with_reducible rfl
  simp only [Act.put,jad,jae,jaf];refine Aj 10 17 (v:=?_) rfl rfl jK jK jK (λ_ _ _ h=>h) (Or.inl ⟨by rfl,?_⟩) jA ?_;rotate_left
  ·intro w hSw
   (try dsimp only at hSw)
   go_simp
   first | done | with_reducible rfl
  simp only [Act.put,jad,jae,jaf];refine Aj 11 18 (v:=undef) rfl rfl jK jK jK (λ_ _ _ h=>h) (Or.inr ⟨by rfl,rfl⟩) jA ?_;simp only [Act.put,jad,jae,jaf];refine Aj 12 19 (v:=undef) rfl rfl jK jK jK (λ_ _ _ h=>h) (Or.inr ⟨by rfl,rfl⟩) jA ?_;simp only [Act.put,jad,jae,jaf];refine Aj 13 20 (v:=undef) rfl rfl jK jK jK (λ_ _ _ h=>h) (Or.inr ⟨by rfl,rfl⟩) jA ?_;simp only [Act.put,jad,jae,jaf];refine Aj 14 21 (v:=undef) rfl rfl jK jK jK (λ_ _ _ h=>h) (Or.inr ⟨by rfl,rfl⟩) jA ?_;simp only [Act.put,jad,jae,jaf];refine Aj 15 22 (v:=undef) rfl rfl jK jK jK (λ_ _ _ h=>h) (Or.inr ⟨by rfl,rfl⟩) jA ?_;simp only [Act.put,jad,jae,jaf];refine Aj 16 23 (v:=undef) rfl rfl jK jK jK (λ_ _ _ h=>h) (Or.inr ⟨by rfl,rfl⟩) jA ?_;simp only [Act.put,jad,jae,jaf];refine Aj 17 24 (v:=undef) rfl rfl jK jK jK (λ_ _ _ h=>h) (Or.inr ⟨by rfl,rfl⟩) jA ?_
  simp only [Act.put,jad,jae,jaf];refine Aj 18 25 (v:=?_) rfl rfl jK jK jK (λ_ _ _ h=>h) (Or.inl ⟨by rfl,?_⟩) jA ?_;rotate_left
  ·intro w hSw
   (try dsimp only at hSw)
   go_simp
   first | done | with_reducible rfl
  simp only [Act.put,jad,jae,jaf];refine Aj 19 6 (v:=?_) rfl rfl jK jK jK (λ_ _ _ h=>h) (Or.inl ⟨by rfl,?_⟩) jA ?_;rotate_left
  ·intro w hSw
   (try dsimp only at hSw)
   go_simp
   first | done | with_reducible rfl
  simp only [Act.put,jad,jae,jaf];refine wpAnyH_done jK ?_ _;go_wp2;go_ret;exact ⟨by rw [E.out];rfl,B1.out⟩
 subst hF;by_cases hG:G=0
 case neg =>
  have e1:(G == 0)=false:=by simpa using hG
  have E:=jH (show z=false by rw [hz,e1];rfl);clear hG hz;go_enter func11,ntmps11;go_wp2;rw [HW0.out];refine wp_region_held_drew (S:=(λw':World=>w'.cell? ⟨B,0,none⟩=some (.slice (some ⟨b0,0,none⟩) 74 74)/\w'.cell? ⟨B,1,none⟩=some (.slice (some ⟨b1,0,none⟩) 10 10)/\w'.cell? ⟨B,2,none⟩=some (.slice (some ⟨b2,0,none⟩) 11 11)/\w'.cell? ⟨B,3,none⟩=some (.slice (some ⟨b3,0,none⟩) 42 42)/\w'.cell? ⟨B+1,0,none⟩=some (.bool n)/\w'.cell? ⟨B+1,1,none⟩=some (.string x)/\w'.cell? ⟨B+1,2,none⟩=some (.string y)/\w'.cell? ⟨B+2,0,none⟩=some (.bool k)/\w'.cell? ⟨B+2,1,none⟩=some (.string u)/\w'.cell? ⟨B+2,2,none⟩=some (.string v))) jK ?_ (λhHeld=>?_)
  ·(try dsimp only)
   exact ⟨d0,d1,d2,d3,m0,m1,m2,c0,c1,c2⟩
  refine Aj 0 7 (v:=?_) rfl rfl jK jK jK (λ_ _ _ h=>h) (Or.inl ⟨by rfl,?_⟩) jA ?_;rotate_left
  ·intro w hSw
   (try dsimp only at hSw)
   go_simp
   first | done | with_reducible rfl
  simp only [Act.put,jad,jae,jaf];refine Aj 1 8 (v:=?_) rfl rfl jK jK jK (λ_ _ _ h=>h) (Or.inl ⟨by rfl,?_⟩) jA ?_;rotate_left
  ·intro w hSw
   (try dsimp only at hSw)
   go_simp
   first | done | with_reducible rfl
  simp only [Act.put,jad,jae,jaf];refine wpAnyH_ready (rs:=[2]) jK jS ?_;refine AllReadyH.cons (o:={ dst:=some 9,op:=.call { callee:=.value (.func 7),args:=#[.tmp 7,.tmp 8],argTypes:=#[33,25] },type:=_,pos := "path.go:88", after:=_,guard:=none }) rfl (λK hK=>?_) AllReadyH.nil
  (try go_simp)
  go_at_call 7;with_reducible refine (R1.out _ B0.out.drew).mono ?_
  rintro e w1 ⟨rfl,hb⟩;have hb:=Af hb;have S1:=jH (S0.out.Ac hb);have B1:=jH (Aa B0.out hb);clear hb;go_wp2_with fail;clear hHeld;refine hK.out _ _ ?_ (λhHeld=>?_)
  ·exact S1.out.all
  clear hK K;refine Aj 3 10 (v:=?_) rfl rfl jK jK jK (λ_ _ _ h=>h) (Or.inl ⟨by rfl,?_⟩) jA ?_;rotate_left
  ·intro w hSw
   (try dsimp only at hSw)
   go_simp
   first | done | with_reducible rfl
  simp only [Act.put,jad,jae,jaf];refine Aj 4 11 (v:=?_) rfl rfl jK jK jK (λ_ _ _ h=>h) (Or.inl ⟨by rfl,?_⟩) jA ?_;rotate_left
  ·intro w hSw
   (try dsimp only at hSw)
   go_simp
   first | done | with_reducible rfl
  simp only [Act.put,jad,jae,jaf];refine Aj 5 12 (v:=?_) rfl rfl jK jK jK (λ_ _ _ h=>h) (Or.inl ⟨by rfl,?_⟩) jA ?_;rotate_left
  ·intro w hSw
   (try dsimp only at hSw)
   go_simp
   first | done | with_reducible rfl
  simp only [Act.put,jad,jae,jaf];refine Aj 6 13 (v:=?_) rfl rfl jK jK jK (λ_ _ _ h=>h) (Or.inl ⟨by rfl,?_⟩) jA ?_;rotate_left
  ·intro w hSw
   (try dsimp only at hSw)
   go_simp
   first | done | with_reducible rfl
  simp only [Act.put,jad,jae,jaf];refine wpAnyH_ready (rs:=[7]) jK jS ?_;refine AllReadyH.cons (o:={ dst:=some 14,op:=.call { callee:=.value (.func 7),args:=#[.tmp 12,.tmp 13],argTypes:=#[33,25] },type:=_,pos := "path.go:88", after:=_,guard:=some (4,true) }) rfl (λK hK=>?_) AllReadyH.nil
  (try go_simp)
  go_at_call 7;with_reducible refine (R2.out _ B1.out).mono ?_
  rintro e w2 ⟨rfl,hb⟩;have S2:=jH (S1.out.Ac hb);have B2:=jH (Aa B1.out hb);clear hb;go_wp2_with fail;clear hHeld;refine hK.out _ _ ?_ (λhHeld=>?_)
  ·exact S2.out.all
  clear hK K;refine Aj 8 15 (v:=?_) rfl rfl jK jK jK (λ_ _ _ h=>h) (Or.inl ⟨by rfl,?_⟩) jA ?_;rotate_left
  ·intro w hSw
   (try dsimp only at hSw)
   go_simp
   first | done | with_reducible rfl
  simp only [Act.put,jad,jae,jaf];refine Aj 9 16 (v:=?_) rfl rfl jK jK jK (λ_ _ _ h=>h) (Or.inl ⟨by rfl,?_⟩) jA ?_;rotate_left
  ·intro w hSw
   (try dsimp only at hSw)
   go_simp
   first | done | with_reducible rfl
  simp only [Act.put,jad,jae,jaf];refine Aj 10 17 (v:=?_) rfl rfl jK jK jK (λ_ _ _ h=>h) (Or.inl ⟨by rfl,?_⟩) jA ?_;rotate_left
  ·intro w hSw
   (try dsimp only at hSw)
   go_simp
   first | done | with_reducible rfl
  simp only [Act.put,jad,jae,jaf];refine Aj 11 18 (v:=undef) rfl rfl jK jK jK (λ_ _ _ h=>h) (Or.inr ⟨by rfl,rfl⟩) jA ?_;simp only [Act.put,jad,jae,jaf];refine Aj 12 19 (v:=undef) rfl rfl jK jK jK (λ_ _ _ h=>h) (Or.inr ⟨by rfl,rfl⟩) jA ?_;simp only [Act.put,jad,jae,jaf];refine Aj 13 20 (v:=undef) rfl rfl jK jK jK (λ_ _ _ h=>h) (Or.inr ⟨by rfl,rfl⟩) jA ?_;simp only [Act.put,jad,jae,jaf];refine Aj 14 21 (v:=undef) rfl rfl jK jK jK (λ_ _ _ h=>h) (Or.inr ⟨by rfl,rfl⟩) jA ?_;simp only [Act.put,jad,jae,jaf];refine Aj 15 22 (v:=undef) rfl rfl jK jK jK (λ_ _ _ h=>h) (Or.inr ⟨by rfl,rfl⟩) jA ?_;simp only [Act.put,jad,jae,jaf];refine Aj 16 23 (v:=undef) rfl rfl jK jK jK (λ_ _ _ h=>h) (Or.inr ⟨by rfl,rfl⟩) jA ?_;simp only [Act.put,jad,jae,jaf];refine Aj 17 24 (v:=undef) rfl rfl jK jK jK (λ_ _ _ h=>h) (Or.inr ⟨by rfl,rfl⟩) jA ?_
  simp only [Act.put,jad,jae,jaf];refine Aj 18 25 (v:=?_) rfl rfl jK jK jK (λ_ _ _ h=>h) (Or.inl ⟨by rfl,?_⟩) jA ?_;rotate_left
  ·intro w hSw
   (try dsimp only at hSw)
   go_simp
   first | done | with_reducible rfl
  simp only [Act.put,jad,jae,jaf];refine Aj 19 6 (v:=?_) rfl rfl jK jK jK (λ_ _ _ h=>h) (Or.inl ⟨by rfl,?_⟩) jA ?_;rotate_left
  ·intro w hSw
   (try dsimp only at hSw)
   go_simp
   first | done | with_reducible rfl
  simp only [Act.put,jad,jae,jaf];refine wpAnyH_done jK ?_ _;go_wp2;go_ret;exact ⟨by rw [E.out];rfl,B2.out⟩
 subst hG;have q1:((⟨nx.toArray⟩:ByteArray).toList == (⟨nu.toArray⟩:ByteArray).toList)=(nx == nu):=by rw [ByteArray.toList_eq,ByteArray.toList_eq]
 have q2:((⟨dy.toArray⟩:ByteArray).toList == (⟨dv.toArray⟩:ByteArray).toList)=(dy == dv):=by rw [ByteArray.toList_eq,ByteArray.toList_eq]
 have E:=jH (show z=(n == k && ((nx == nu) && (dy == dv))) by rw [hz];rfl);clear hz;cases g0:(n == k)<;>cases g1:(nx == nu)<;>cases g2:(dy == dv)
 all_goals
  rw [g1] at q1 E;rw [g2] at q2 E;rw [g0] at E;go_enter func11,ntmps11;go_wp2;rw [HW0.out];refine wp_region_held_drew (S:=(λw':World=>w'.cell? ⟨B,0,none⟩=some (.slice (some ⟨b0,0,none⟩) 74 74)/\w'.cell? ⟨B,1,none⟩=some (.slice (some ⟨b1,0,none⟩) 10 10)/\w'.cell? ⟨B,2,none⟩=some (.slice (some ⟨b2,0,none⟩) 11 11)/\w'.cell? ⟨B,3,none⟩=some (.slice (some ⟨b3,0,none⟩) 42 42)/\w'.cell? ⟨B+1,0,none⟩=some (.bool n)/\w'.cell? ⟨B+1,1,none⟩=some (.string x)/\w'.cell? ⟨B+1,2,none⟩=some (.string y)/\w'.cell? ⟨B+2,0,none⟩=some (.bool k)/\w'.cell? ⟨B+2,1,none⟩=some (.string u)/\w'.cell? ⟨B+2,2,none⟩=some (.string v))) jK ?_ (λhHeld=>?_)
  ·(try dsimp only)
   exact ⟨d0,d1,d2,d3,m0,m1,m2,c0,c1,c2⟩
  refine Aj 0 7 (v:=?_) rfl rfl jK jK jK (λ_ _ _ h=>h) (Or.inl ⟨by rfl,?_⟩) jA ?_;rotate_left
  ·intro w hSw
   (try dsimp only at hSw)
   go_simp
   first | done | with_reducible rfl
  simp only [Act.put,jad,jae,jaf];refine Aj 1 8 (v:=?_) rfl rfl jK jK jK (λ_ _ _ h=>h) (Or.inl ⟨by rfl,?_⟩) jA ?_;rotate_left
  ·intro w hSw
   (try dsimp only at hSw)
   go_simp
   first | done | with_reducible rfl
  simp only [Act.put,jad,jae,jaf];refine wpAnyH_ready (rs:=[2]) jK jS ?_;refine AllReadyH.cons (o:={ dst:=some 9,op:=.call { callee:=.value (.func 7),args:=#[.tmp 7,.tmp 8],argTypes:=#[33,25] },type:=_,pos := "path.go:88", after:=_,guard:=none }) rfl (λK hK=>?_) AllReadyH.nil
  (try go_simp)
  go_at_call 7;with_reducible refine (R1.out _ B0.out.drew).mono ?_
  rintro e w1 ⟨rfl,hb⟩;have hb:=Af hb;have S1:=jH (S0.out.Ac hb);have B1:=jH (Aa B0.out hb);clear hb;go_wp2_with fail;clear hHeld;refine hK.out _ _ ?_ (λhHeld=>?_)
  ·exact S1.out.all
  clear hK K;refine Aj 3 10 (v:=?_) rfl rfl jK jK jK (λ_ _ _ h=>h) (Or.inl ⟨by rfl,?_⟩) jA ?_;rotate_left
  ·intro w hSw
   (try dsimp only at hSw)
   go_simp
   first | done | with_reducible rfl
  simp only [Act.put,jad,jae,jaf];refine Aj 4 11 (v:=?_) rfl rfl jK jK jK (λ_ _ _ h=>h) (Or.inl ⟨by rfl,?_⟩) jA ?_;rotate_left
  ·intro w hSw
   (try dsimp only at hSw)
   go_simp
   first | done | with_reducible rfl
  simp only [Act.put,jad,jae,jaf];refine Aj 5 12 (v:=?_) rfl rfl jK jK jK (λ_ _ _ h=>h) (Or.inl ⟨by rfl,?_⟩) jA ?_;rotate_left
  ·intro w hSw
   (try dsimp only at hSw)
   go_simp
   first | done | with_reducible rfl
  simp only [Act.put,jad,jae,jaf];refine Aj 6 13 (v:=?_) rfl rfl jK jK jK (λ_ _ _ h=>h) (Or.inl ⟨by rfl,?_⟩) jA ?_;rotate_left
  ·intro w hSw
   (try dsimp only at hSw)
   go_simp
   first | done | with_reducible rfl
  simp only [Act.put,jad,jae,jaf];refine wpAnyH_ready (rs:=[7]) jK jS ?_;refine AllReadyH.cons (o:={ dst:=some 14,op:=.call { callee:=.value (.func 7),args:=#[.tmp 12,.tmp 13],argTypes:=#[33,25] },type:=_,pos := "path.go:88", after:=_,guard:=some (4,true) }) rfl (λK hK=>?_) AllReadyH.nil
  (try go_simp)
  go_at_call 7;with_reducible refine (R2.out _ B1.out).mono ?_
  rintro e w2 ⟨rfl,hb⟩;have S2:=jH (S1.out.Ac hb);have B2:=jH (Aa B1.out hb);clear hb;go_wp2_with fail;clear hHeld;refine hK.out _ _ ?_ (λhHeld=>?_)
  ·exact S2.out.all
  clear hK K;refine Aj 8 15 (v:=?_) rfl rfl jK jK jK (λ_ _ _ h=>h) (Or.inl ⟨by rfl,?_⟩) jA ?_;rotate_left
  ·intro w hSw
   (try dsimp only at hSw)
   go_simp
   first | done | with_reducible rfl
  simp only [Act.put,jad,jae,jaf];refine Aj 9 16 (v:=?_) rfl rfl jK jK jK (λ_ _ _ h=>h) (Or.inl ⟨by rfl,?_⟩) jA ?_;rotate_left
  ·intro w hSw
   (try dsimp only at hSw)
   go_simp
   first | done | with_reducible rfl
  simp only [Act.put,jad,jae,jaf];refine Aj 10 17 (v:=?_) rfl rfl jK jK jK (λ_ _ _ h=>h) (Or.inl ⟨by rfl,?_⟩) jA ?_;rotate_left
  ·intro w hSw
   (try dsimp only at hSw)
   go_simp
   first | done | with_reducible rfl
  simp only [Act.put,jad,jae,jaf];refine Aj 11 18 (v:=?_) rfl rfl jK jK jK (λ_ _ _ h=>h) (Or.inl ⟨by rfl,?_⟩) jA ?_;rotate_left
  ·intro w hSw
   (try dsimp only at hSw)
   go_simp
   first | done | with_reducible rfl
  simp only [Act.put,jad,jae,jaf];refine Aj 12 19 (v:=?_) rfl rfl jK jK jK (λ_ _ _ h=>h) (Or.inl ⟨by rfl,?_⟩) jA ?_;rotate_left
  ·intro w hSw
   (try dsimp only at hSw)
   go_simp
   first | done | with_reducible rfl
  simp only [Act.put,jad,jae,jaf];refine Aj 14 21 (v:=?_) rfl rfl jK jK jK (λ_ _ _ h=>h) (Or.inl ⟨by rfl,?_⟩) jA ?_;rotate_left
  ·intro w hSw
   (try dsimp only at hSw)
   go_simp
   first | done | with_reducible rfl
  simp only [Act.put,jad,jae,jaf];refine Aj 15 22 (v:=?_) rfl rfl jK jK jK (λ_ _ _ h=>h) (Or.inl ⟨by rfl,?_⟩) jA ?_;rotate_left
  ·intro w hSw
   (try dsimp only at hSw)
   go_simp
   first | done | with_reducible rfl
  simp only [Act.put,jad,jae,jaf];refine wpAnyH_ready (rs:=[13]) jK jS ?_;refine AllReadyH.cons (o:={ dst:=some 20,op:=.call { callee:=.value (.func 22),args:=#[.tmp 18,.tmp 19],argTypes:=#[33,25] },type:=_,pos := "path.go:88", after:=_,guard:=some (10,true) }) rfl (λK hK=>?_) AllReadyH.nil
  (try go_simp)
  go_at_call 22;with_reducible refine (K1.out _ B2.out).mono ?_
  rintro e w3 ⟨rfl,hb⟩;have S3:=jH (S2.out.Ac hb);have B3:=jH (Aa B2.out hb);clear hb;go_wp2_with fail;clear hHeld;refine hK.out _ _ ?_ (λhHeld=>?_)
  ·exact S3.out.all
  clear hK K;refine wpAnyH_ready (rs:=[16]) jK jS ?_;refine AllReadyH.cons (o:={ dst:=some 23,op:=.call { callee:=.value (.func 22),args:=#[.tmp 21,.tmp 22],argTypes:=#[33,25] },type:=_,pos := "path.go:88", after:=_,guard:=some (10,true) }) rfl (λK hK=>?_) AllReadyH.nil
  (try go_simp)
  go_at_call 22;with_reducible refine (K2.out _ B3.out).mono ?_
  rintro e w4 ⟨rfl,hb⟩;have S4:=jH (S3.out.Ac hb);have B4:=jH (Aa B3.out hb);clear hb;go_wp2_with fail;clear hHeld;refine hK.out _ _ ?_ (λhHeld=>?_)
  ·exact S4.out.all
  clear hK K;refine Aj 17 24 (v:=?_) rfl rfl jK jK jK (λ_ _ _ h=>h) (Or.inl ⟨by rfl,?_⟩) jA ?_;rotate_left
  ·intro w hSw
   (try dsimp only at hSw)
   go_simp
   first | done | with_reducible rfl
  simp only [Act.put,jad,jae,jaf];refine Aj 18 25 (v:=?_) rfl rfl jK jK jK (λ_ _ _ h=>h) (Or.inl ⟨by rfl,?_⟩) jA ?_;rotate_left
  ·intro w hSw
   (try dsimp only at hSw)
   go_simp
   first | done | with_reducible rfl
  simp only [Act.put,jad,jae,jaf];refine Aj 19 6 (v:=?_) rfl rfl jK jK jK (λ_ _ _ h=>h) (Or.inl ⟨by rfl,?_⟩) jA ?_;rotate_left
  ·intro w hSw
   (try dsimp only at hSw)
   go_simp
   first | done | with_reducible rfl
  simp only [Act.put,jad,jae,jaf];refine wpAnyH_done jK ?_ _;go_wp2;go_ret;exact ⟨by rw [E.out];rfl,B4.out⟩
end
