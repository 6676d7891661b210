import Derived.Test.YtipkfalbepiphaaGreatDoorMbxTaker
import Derived.Lib.Atoi
import Derived.Lib.ItoaNum
import Derived.Lib.Case
namespace Go.Proofs.YtipkfalbepiphaaGreatDoor
section
open Go.RowKit Utf
namespace Pth
open Lex (Cuts Tok Aw Ee Co Df Fg ok Al esc)
open Mbx (S take Bi Ga Fq Ef Qd A60 A66 A6u isS)
def pmB:List UInt8:=[112,111,115,116,109,97,115,116,101,114]
def Eg (n:Bool) (x y:List UInt8):Bool:=!n && (y == [] && x.map Af == pmB)
def Bo (n:Bool) (x y:List UInt8):Int:=if n=true then (if x=[]/\y=[] then 0 else 1) else if Eg n x y=true then 0 else Ga x y
def Qb (n:Bool) (x y:List UInt8):List UInt8:=if n=true then [] else if Eg n x y=true then x else Fq x y
def A9 (n:Bool) (x y:List UInt8):List UInt8:=60::(Qb n x y ++ [62])
def mid (l:List S):List S:=(l.drop 1).take (l.length - 2)
def within (l:List S):Bool:=decide (2<=l.length) && (isS l 0 [60] && (isS l (l.length - 1) [62] && !(mid l).any Bi))
def Eh (m:List S):Option (Bool × List UInt8 × List UInt8) :=
 if m.length=0 then some (true,[],[])
 else if m.length=1/\(m.headD (0,[])).1=0 then (if Eg false (m.headD (0,[])).2 []=true then some (false,(m.headD (0,[])).2,[]) else none)
 else match take m with
  | none=>none
  | some (x,y,n)=>if n=m.length then some (false,x,y) else none
def J0 (l:List S):Int × Bool × List UInt8 × List UInt8 :=
 if within l=true then match Eh (mid l) with
  | none=>(4,false,[],[])
  | some (n,x,y)=>if Bo n x y=0 then (0,n,x,y) else (Bo n x y,false,[],[])
 else (4,false,[],[])
def Bc (s:List UInt8):Int × Bool × List UInt8 × List UInt8:=if (Ee s).1 ≠ 0 then ((Ee s).1,false,[],[]) else J0 ((Ee s).2.2.map Lex.Fi)
theorem Jh {n:Bool} {x y:List UInt8}:Eg n x y=true ↔ n=false/\y=[]/\x.map Af=pmB:=by
 unfold Eg;rw [jag,jag,beq_iff_eq,beq_iff_eq];cases n<;>simp
theorem Aj6 (b:UInt8) (h:Af b ∈ pmB):Al b=true/\b.toNat<128:=by
 have h1:=Lex.Dl (p:=λb=>!(pmB.contains (Af b)) || (Al b && decide (b.toNat<128))) (by decide +kernel) b;rw [List.contains_iff_mem.2 h] at h1;simpa using h1
theorem Mq {x:List UInt8} (h:x.map Af=pmB):x.length=10/\∀ b ∈ x,Al b=true/\b.toNat<128 :=
 ⟨by have:=congrArg List.length h;rwa [jai] at this,λb hb=>Aj6 b (by rw [<- h];exact List.mem_map_of_mem hb)⟩
theorem Alc {x y:List UInt8} (h:Ga x y=0):y ≠ []:=by
 rintro rfl;obtain ⟨-,-,-,-,h⟩:=Mbx.Oc h;rcases h with ⟨h,-⟩ | ⟨-,h⟩
 ·cases h
 ·have:(Dom.Cu []).1=13:=by kernel_rfl
  rw [this] at h;cases h
theorem Vl:∀ q:List (List UInt8),(Mbx.He q).any Bi=false
 | []=>rfl
 | [_]=>rfl
 | p::a::b=>by
  have h:=Vl (a::b);rw [Mbx.Rb p jS,List.any_cons,List.any_cons,h];rfl
theorem A1i {x:List UInt8} {P:List S} (h:Mbx.Says x P):P.any Bi=false:=by
 cases h with
 | quote=>rfl
 | words hq=>exact Vl _
theorem Awa {x:List UInt8} {P:List S} (h:Mbx.SaysD x P):P.any Bi=false:=by
 cases h with
 | lit=>rfl
 | words hq=>exact Vl _
theorem Az3 (M:List S) (a b:S):mid (a::(M ++ [b]))=M:=by
 unfold mid;rw [List.drop_succ_cons,List.drop_zero,jac,jab,List.length_singleton];exact List.take_left' rfl
theorem Axa {M:List S} (h:M.any Bi=false):within ((2,[60])::(M ++ [(2,[62])]))=true:=by
 unfold within;rw [Az3,h];have e:isS ((2,[60])::(M ++ [(2,[62])])) (((2,[60])::(M ++ [(2,[62])]):List S).length - 1) [62]=true:=by
  unfold isS;rw [decide_eq_true_eq,jac,jab,List.length_singleton,Nat.add_sub_cancel,List.getElem?_cons_succ,List.getElem?_append_right (jaa _),Nat.sub_self];rfl
 rw [e,show isS ((2,[60])::(M ++ [(2,[62])])) 0 [60]=true from by simp [isS]];simp
theorem Sr {s:List UInt8} {ts:List Tok} {M:List S} {n:Bool} {x y:List UInt8} (h:Ee s=(0,0,ts)) (hm:ts.map Lex.Fi=(2,[60])::(M ++ [(2,[62])])) (hn:M.any Bi=false) (hr:Eh M=some (n,x,y)) (h0:Bo n x y=0):Bc s=(0,n,x,y):=by
 unfold Bc;rw [h,if_neg jS];show J0 (ts.map Lex.Fi)=_;rw [hm];unfold J0;rw [if_pos (Axa hn),Az3,hr];show (if Bo n x y=0 then _ else _)=_;rw [if_pos h0]
theorem A2z {x y:List UInt8} (hr:Ga x y=0) (hl:y.length<=1800) :
  ∃ (ts:List Tok) (M:List S),Ee (60::(Fq x y ++ [62]))=(0,0,ts)/\ts.map Lex.Fi=(2,[60])::(M ++ [(2,[62])])/\M.any Bi=false/\3<=M.length/\take M=some (x,y,M.length):=by
 obtain ⟨h1,h2,h3,h4,-⟩:=Mbx.Oc hr;obtain ⟨h5,h6⟩:=Mbx.Aea hr;have c8:=Mbx.Lk (a:=0+1+(Ef x).length+1+y.length) (c:=62) jD (.nil _);obtain ⟨wD,D,cD,mD,sD⟩:=Mbx.A27 h6 (Mbx.Ki jD) c8;have cA:=Mbx.Lk (a:=0+1+(Ef x).length) (c:=64) jD cD;obtain ⟨wP,P,cP,mP,sP⟩:=Mbx.At7 h4 (Mbx.Ki jD) cA;have c0:=Mbx.Lk (a:=0) (c:=60) jD cP;have hs:(60:UInt8)::(Fq x y ++ [62])=60::(Ef x ++ 64::(y ++ [62])):=by unfold Fq;simp
 have hlen:=Mbx.Pe x;have c1:=Eq.mpr (congrArg (λs=>Cuts 0 s _) hs) c0;have o1:ok [(60:UInt8)]:=Lex.D0 jD;have o2:ok [(62:UInt8)]:=Lex.D0 jD;have o3:ok [(64:UInt8)]:=Lex.D0 jD;have hL:=Mbx.Aii (by rw [hs];simp only [jab,jac,List.length_nil];omega) (by rw [hs];exact Lex.Jw o1 (Lex.Jw (Mbx.Azw h3) (Lex.Jw (b:=y ++ [62]) o3 (Lex.Jw h5 o2)))) c1;refine ⟨_,P ++ (2,[64])::D,hL,?_,?_,?_,?_⟩
 ·simp only [List.map_append,List.map_cons,mP,mD,List.map_nil,jaq,jah];rfl
 ·rw [List.any_append,List.any_cons,A1i sP,Awa sD];rfl
 ·obtain ⟨k,t,rfl,-,-⟩:=Mbx.Aeg sP;obtain ⟨k2,t2,rfl,-,-⟩:=Mbx.Aac sD;simp only [jab,jac];omega
 ·have h:=Mbx.Awu (n0:=[]) (n1:=[]) (n2:=[]) (n3:=[]) (r:=[]) (λk hk=>by cases hk) (λk hk=>by cases hk) (λk hk=>by cases hk) (λk hk=>by cases hk) sP sD (λk t e=>by cases e) (λk t e=>by cases e);simpa using h
theorem Aol {x:List UInt8} (hx:x.map Af=pmB):Ee (60::(x ++ [62]))=(0,0,[⟨2,[60],0⟩,⟨0,x,1⟩,⟨2,[62],1+x.length⟩]):=by
 obtain ⟨hl,hb⟩:=Mq hx;have c8:=Mbx.Lk (a:=0+1+x.length) (c:=62) jD (.nil _);have hp:Fg x=true:=by
  unfold Fg;rw [jag,jar];refine ⟨?_,λb h=>(hb b h).1⟩;cases x with
  | nil=>cases hl
  | cons a b=>rfl
 have c1:=Mbx.Tr hp (Mbx.Ki jD) c8;have c0:=Mbx.Lk (a:=0) (c:=60) jD c1;refine Mbx.Aii (by simp;omega) (Lex.D0 λb h=>?_) c0;simp only [jal,jap,List.not_mem_nil,or_false] at h;rcases h with rfl | h | rfl
 ·decide
 ·exact (hb b h).2
 ·decide
theorem Au1:Bc [60,62]=(0,true,[],[]):=by kernel_rfl
theorem Z2 {n:Bool} {x y:List UInt8} (h:Bo n x y=0) (hl:y.length<=1800):Bc (A9 n x y)=(0,n,x,y):=by
 have h0:=h;unfold Bo at h;unfold A9 Qb;cases n with
 | true =>
  rw [if_pos rfl] at h ⊢;by_cases e:x=[]/\y=[]
  ·obtain ⟨rfl,rfl⟩:=e;exact Au1
  ·rw [if_neg e] at h;cases h
 | false =>
  rw [if_neg jD] at h ⊢;by_cases hm:Eg false x y=true
  ·rw [if_pos hm];obtain ⟨-,rfl,hx⟩:=Jh.1 hm;exact Sr (M:=[(0,x)]) (Aol hx) rfl rfl (by unfold Eh;rw [if_neg jS,if_pos ⟨rfl,rfl⟩];exact if_pos hm) h0
  ·rw [if_neg hm] at h ⊢;obtain ⟨ts,M,h1,h2,h3,h4,h5⟩:=A2z h hl;refine Sr h1 h2 h3 ?_ h0;unfold Eh;rw [if_neg jO,if_neg (λe=>by omega),h5];exact if_pos rfl
theorem N8 {s:List UInt8} {n:Bool} {x y:List UInt8} {E:Int} (h:Bc s=(E,n,x,y)):(E ≠ 0/\n=false/\x=[]/\y=[])\/(E=0/\Bo n x y=0/\Eh (mid ((Ee s).2.2.map Lex.Fi))=some (n,x,y)/\within ((Ee s).2.2.map Lex.Fi)=true/\(Ee s).1=0):=by
 unfold Bc at h;by_cases h1:(Ee s).1 ≠ 0
 ·rw [if_pos h1] at h;injection h with e1 h;injection h with e2 h;injection h with e3 e4
  exact .inl ⟨by rw [<- e1];exact h1,e2.symm,e3.symm,e4.symm⟩
 rw [if_neg h1] at h;rw [Decidable.not_not] at h1;unfold J0 at h;by_cases h2:within ((Ee s).2.2.map Lex.Fi)=true
 ·rw [if_pos h2] at h;cases hr:Eh (mid ((Ee s).2.2.map Lex.Fi)) with
  | none =>
   rw [hr] at h;injection h with e1 h;injection h with e2 h;injection h with e3 e4
   exact .inl ⟨by rw [<- e1];decide,e2.symm,e3.symm,e4.symm⟩
  | some p =>
   obtain ⟨m,u,v⟩:=p;rw [hr] at h;replace h:(if Bo m u v=0 then ((0:Int),m,u,v) else (Bo m u v,false,[],[]))=(E,n,x,y):=h;by_cases h3:Bo m u v=0
   ·rw [if_pos h3] at h;injection h with e1 h;injection h with e2 h;injection h with e3 e4
    subst e1 e2 e3 e4;exact .inr ⟨rfl,h3,rfl,h2,h1⟩
   ·rw [if_neg h3] at h;injection h with e1 h;injection h with e2 h;injection h with e3 e4
    exact .inl ⟨by rw [<- e1];exact h3,e2.symm,e3.symm,e4.symm⟩
 ·rw [if_neg h2] at h;injection h with e1 h;injection h with e2 h;injection h with e3 e4
  exact .inl ⟨by rw [<- e1];decide,e2.symm,e3.symm,e4.symm⟩
theorem Avd (n:Bool) (x y:List UInt8):A9 n x y=[60,62]\/(A9 n x y=60::(x ++ [62])/\x.length=10)\/A9 n x y=60::(Fq x y ++ [62]):=by
 unfold A9 Qb;cases n with
 | true=>exact .inl rfl
 | false =>
  rw [if_neg jD];by_cases hm:Eg false x y=true
  ·rw [if_pos hm];exact .inr (.inl ⟨rfl,(Mq (Jh.1 hm).2.2).1⟩)
  ·rw [if_neg hm];exact .inr (.inr rfl)
theorem Afv {c:UInt8}:∀ {x:List UInt8},(c ∈ x->c ∈ esc x)/\(c ∈ esc x->c=92\/c ∈ x)
 | []=>⟨id,λh=>.inr h⟩
 | d::t=>by
  have ih:=@Afv c t;rw [esc];split
  ·simp only [jal];exact ⟨λh=>.inr (h.imp id ih.1),λh=>by rcases h with h | h | h;exact .inl h;exact .inr (.inl h);exact (ih.2 h).imp id .inr⟩
  ·simp only [jal];exact ⟨λh=>h.imp id ih.1,λh=>by rcases h with h | h;exact .inr (.inl h);exact (ih.2 h).imp id .inr⟩
theorem At9 (x:List UInt8):(∀ c ∈ Ef x,c.toNat<128) ↔ ∀ c ∈ x,c.toNat<128:=by
 unfold Ef;split
 ·exact Iff.rfl
 ·have hs:Co 1 x=34::(esc x ++ [34]):=rfl;rw [hs];constructor
  ·intro h c hc;exact h c (by simp [Afv.1 hc])
  ·intro h c hc;simp only [jal,jap,List.not_mem_nil,or_false] at hc;rcases hc with rfl | hc | rfl
   ·decide
   ·rcases Afv.2 hc with rfl | hc
    · decide
    · exact h c hc
   ·decide
theorem Avc {x y:List UInt8}:Ao (60::(Fq x y ++ [62]))=-1 ↔ Ao x=-1/\Ao y=-1:=by
 have e:∀ l:List UInt8,Ao l=-1 ↔ ∀ c ∈ l,c.toNat<128:=λl=>by
  rw [<- Lab.Du,Lab.Kf,decide_eq_true_eq]
 rw [e,e,e,<- At9 x];unfold Fq;constructor
 ·intro h;exact ⟨λc hc=>h c (by simp [hc]),λc hc=>h c (by simp [hc])⟩
 ·rintro ⟨h1,h2⟩ c hc;simp only [jal,jap,List.not_mem_nil,or_false] at hc;rcases hc with rfl | (hc | rfl | hc) | rfl
  · decide
  · exact h1 c hc
  · decide
  · exact h2 c hc
  · decide
end Pth
end
section
open Utf
namespace Lex
abbrev sl (l:List UInt8):List UInt8:=l.map Af
theorem Tf (c:UInt8) (t:List UInt8):sl (c::t)=Af c::sl t:=rfl
theorem Vc (c:UInt8):(Af c).toNat=if 65<=c.toNat/\c.toNat<=90 then c.toNat+32 else c.toNat:=by
 have:=Dl (p:=λc=>decide ((Af c).toNat=if 65<=c.toNat/\c.toNat<=90 then c.toNat+32 else c.toNat)) (by decide +kernel) c;simpa using this
theorem Dx (c:UInt8) {n:Nat} (h:n<65\/(90<n/\n<97)\/122<n):((Af c).toNat=n)=(c.toNat=n):=by
 have:=Vc c;apply propext;split at this<;>omega
theorem J4 (c:UInt8):Al (Af c)=Al c/\Aw (Af c)=Aw c/\Em (Af c).toNat=Em c.toNat/\D9 (Af c).toNat=D9 c.toNat/\Bm (Af c)=Bm c:=by
 have:=Dl (p:=λc=>(Al (Af c) == Al c) && (Aw (Af c) == Aw c) && (Em (Af c).toNat == Em c.toNat) && (D9 (Af c).toNat == D9 c.toNat) && (Bm (Af c) == Bm c)) (by decide +kernel) c;simp only [jag,beq_iff_eq] at this;obtain ⟨⟨⟨⟨h1,h2⟩,h3⟩,h4⟩,h5⟩:=this;exact ⟨h1,h2,h3,h4,h5⟩
theorem Aaj (c:UInt8):Al (Af c)=Al c:=(J4 c).1
theorem Hq (c:UInt8):Aw (Af c)=Aw c:=(J4 c).2.1
theorem Alo (c:UInt8):Em (Af c).toNat=Em c.toNat:=(J4 c).2.2.1
theorem Apu (c:UInt8):D9 (Af c).toNat=D9 c.toNat:=(J4 c).2.2.2.1
theorem Oi (c:UInt8):Bm (Af c)=Bm c:=(J4 c).2.2.2.2
theorem s10 (c:UInt8):((Af c).toNat=10)=(c.toNat=10):=Dx c jD
theorem s13 (c:UInt8):((Af c).toNat=13)=(c.toNat=13):=Dx c jD
theorem s34 (c:UInt8):((Af c).toNat=34)=(c.toNat=34):=Dx c jD
theorem s40 (c:UInt8):((Af c).toNat=40)=(c.toNat=40):=Dx c jD
theorem s41 (c:UInt8):((Af c).toNat=41)=(c.toNat=41):=Dx c jD
theorem s91 (c:UInt8):((Af c).toNat=91)=(c.toNat=91):=Dx c jD
theorem s92 (c:UInt8):((Af c).toNat=92)=(c.toNat=92):=Dx c jD
theorem s93 (c:UInt8):((Af c).toNat=93)=(c.toNat=93):=Dx c jD
theorem Pp:∀ l:List UInt8,Am (sl l)=Am l
 | []=>rfl
 | [c]=>by
  rw [Am.eq_def,Am.eq_def [c]];simp only [List.map_cons,List.map_nil,Oi]
 | [c,d]=>by
  have h:=Pp [d];rw [Am.eq_def,Am.eq_def [c,d]];simp only [List.map_cons,List.map_nil,Oi] at h ⊢;rw [h]
 | c::d::e::r=>by
  have h1:=Pp (d::e::r);have h2:=Pp r;rw [Am.eq_def,Am.eq_def (c::d::e::r)];simp only [List.map_cons,Oi,s13,s10] at h1 ⊢;rw [h1,h2]
def Cut.low:Cut->Cut
 | .fine x n=>.fine (sl x) n
 | .bad i=>.bad i
 | .gap=>.gap
 | .deep i=>.deep i
theorem Agd (r:Cut) (x:List UInt8) (k:Nat):(r.on x k).low=r.low.on (sl x) k:=by
 cases r with
 | fine y n=>simp only [Cut.on,Cut.low,List.map_append]
 | bad i=>rfl
 | gap=>rfl
 | deep i=>rfl
theorem Ahc (r:Cut):r.top.low=r.low.top:=by cases r<;>rfl
theorem Agp:∀ l:List UInt8,quo (sl l)=(quo l).low
 | []=>rfl
 | [c]=>by
  rw [quo.eq_def,quo.eq_def [c]];simp only [List.map_cons,List.map_nil,s34,s92,Hq];split
  ·rfl
  ·split
   ·rfl
   ·split
    · rfl
    · rfl
 | c::d::r=>by
  have h1:=Agp (d::r);have h2:=Agp r;rw [quo.eq_def,quo.eq_def (c::d::r)];simp only [List.map_cons,s34,s92,Hq] at h1 ⊢;rw [h1,h2];split
  ·rfl
  ·split
   ·split
    · rw [Agd];rfl
    · rfl
   ·split
    · rw [Agd];rfl
    · rfl
theorem Af6:∀ l:List UInt8,lit (sl l)=(lit l).low
 | []=>rfl
 | c::t=>by
  rw [Tf,lit,lit];have h:=Af6 t;simp only [s93,Alo,ne_eq,s91,s92];rw [h];split
  ·rfl
  ·split
   · rw [Agd];rfl
   · rfl
theorem Zj:∀ (l:List UInt8) (d:Nat),note (sl l) d=(note l d).low
 | [],_=>rfl
 | [c],d=>by
  rw [note.eq_def,note.eq_def [c]];simp only [List.map_cons,List.map_nil,s40,s41,s92,Hq];have h:∀ k,note [] k=.gap:=λk=>rfl;simp only [h]
  repeat' split
  all_goals rfl
 | c::e::r,d=>by
  have h1:=λk=>Zj (e::r) k;have h2:=Zj r d;rw [note.eq_def,note.eq_def (c::e::r)];simp only [List.map_cons,s40,s41,s92,Hq] at h1 ⊢;simp only [h1];rw [h2]
  repeat' split
  all_goals first
   | rfl
   | (rw [Agd];rfl)
theorem Age:∀ l:List UInt8,one (sl l)=((one l).1,(one l).2.low)
 | []=>rfl
 | c::t=>by
  have hw:=Pp (c::t);have hq:=Agp t;have hl:=Af6 t;have hn:=Zj t 1;have ha:(sl (c::t)).takeWhile Al=sl ((c::t).takeWhile Al):=by
   rw [sl,List.takeWhile_map];have:(Al ∘ Af)=Al:=funext Aaj;rw [this]
  rw [Tf] at hw ha ⊢;rw [one,one];simp only [Aaj,Apu,s34,s91,s40,ne_eq];rw [hw,ha,hq,hl,hn,jai];have h3:(Af c::sl t).take (Am (c::t))=sl ((c::t).take (Am (c::t))):=by simp only [sl,List.map_take,List.map_cons]
  rw [h3,<- Ahc,<- Ahc,<- Ahc]
  repeat' split
  all_goals rfl
def Tok.low (t:Tok):Tok:=⟨t.kind,sl t.text,t.place⟩
theorem Aqv:∀ (f a:Nat) (l:List UInt8),all f a (sl l)=((all f a l).1,(all f a l).2.1,(all f a l).2.2.map Tok.low)
 | 0,_,_=>rfl
 | f+1,a,l=>by
  rw [all,all];by_cases h0:l=[]
  ·subst h0;rfl
  ·rw [if_neg (by simpa using h0),if_neg h0,Age];obtain ⟨⟨k,r⟩,h1⟩:∃ z,one l=z:=⟨_,rfl⟩
   rw [h1];cases r with
   | fine x n =>
    have ih:=Aqv f (a+n) (l.drop n);have hd:(sl l).drop n=sl (l.drop n):=by simp only [sl,List.map_drop]
    show (if (all f (a+n) ((sl l).drop n)).1=0 then ((0:Int),(0:Nat),(⟨k,sl x,a⟩:Tok)::(all f (a+n) ((sl l).drop n)).2.2) else all f (a+n) ((sl l).drop n))=_;rw [hd,ih];simp only;split
    · rfl
    · rfl
   | bad i=>rfl
   | deep i=>rfl
   | gap=>rfl
theorem Mm {l:List UInt8} (h:∀ c ∈ l,c.toNat<128):∀ c ∈ sl l,c.toNat<128:=by
 intro c hc;obtain ⟨b,hb,rfl⟩:=List.mem_map.1 hc;have:=Vc b;have:=h b hb;split at*<;> omega
theorem A3x {l:List UInt8} (h:∀ c ∈ l,c.toNat<128):Ee (sl l)=((Ee l).1,(Ee l).2.1,(Ee l).2.2.map Tok.low):=by
 have h1:(Au l).2=-1:=D0 h;have h2:(Au (sl l)).2=-1:=D0 (Mm h);unfold Ee;rw [jai,h1,h2,if_pos rfl];split
 · rfl
 · exact Aqv _ _ _
end Lex
end
section
open Utf
namespace Cmd
abbrev L:=List UInt8
structure Com where
 verb:Int
 name:L
 null:Bool
 loc:L
 dom:L
 size:Int
 eight:Bool
 wide:Bool
def zero:Com:=⟨0,[],false,[],[],-1,false,false⟩
def F6:List L:=[[69,72,76,79],[72,69,76,79],[77,65,73,76],[82,67,80,84],[68,65,84,65],[82,83,69,84],[78,79,79,80],[81,85,73,84]]
def Hp:List L:=[[101,104,108,111],[104,101,108,111],[109,97,105,108],[114,99,112,116],[100,97,116,97],[114,115,101,116],[110,111,111,112],[113,117,105,116]]
def word (v:Int):L:=if 0<=v then (F6[v.toNat]?).getD [] else []
def Pz (c:UInt8):Bool:=decide (33<=c.toNat) && decide (c.toNat<=126)
def Jv (s:L):Bool:=!s.isEmpty && decide (s.length<=255) && s.all Pz
def Iv (v:Int):Bool:=decide (v=0) || decide (v=1)
def right (c:Com):Bool :=
 decide (0<=c.verb) && decide (c.verb<=7) && (if Iv c.verb then Jv c.name else c.name.isEmpty) &&
  (
   if c.verb=2 then decide (Pth.Bo c.null c.loc c.dom=0) && decide (-1<=c.size) && decide (c.size<=16777216)
   else (if c.verb=3 then decide (Pth.Bo c.null c.loc c.dom=0) && !c.null else !c.null && c.loc.isEmpty && c.dom.isEmpty) && decide (c.size=-1) && !c.eight && !c.wide)
def num (n:Nat):L:=if h:n<10 then [UInt8.ofNat (48+n)] else num (n / 10) ++ [UInt8.ofNat (48+n % 10)]
def Kl:L:=[115,105,122,101]
def Rq:L:=[98,111,100,121]
def Kn:L:=[115,109,116,112,117,116,102,56]
def Vt:L:=[98,111,100,121,61,56,98,105,116,109,105,109,101]
def Ax2:L:=[98,111,100,121,61,55,98,105,116]
def Alm (n:Int):L:=[32,83,73,90,69,61] ++ num n.toNat
def No:L:=[32,66,79,68,89,61,56,66,73,84,77,73,77,69]
def Wn:L:=[32,83,77,84,80,85,84,70,56]
def Nq:L:=[32,70,82,79,77,58]
def toT:L:=[32,84,79,58]
def Hd:L:=[32,102,114,111,109,58]
def toK:L:=[32,116,111,58]
def A2w (n:Int):L:=[32,83,73,90,69,61] ++ 45::num n.natAbs
def extras (c:Com):L:=(if 0<=c.size then Alm c.size else if c.size=-1 then [] else A2w c.size) ++ ((if c.eight then No else []) ++ (if c.wide then Wn else []))
def print (c:Com):L :=
 if Iv c.verb then word c.verb ++ 32::c.name
 else if c.verb=2 then word c.verb ++ (Nq ++ (Pth.A9 c.null c.loc c.dom ++ extras c))
 else if c.verb=3 then word c.verb ++ (toT ++ Pth.A9 c.null c.loc c.dom)
 else word c.verb
def ends:Nat->L->Option Nat
 | _,[]=>none
 | m,c::t =>
  if m=2 then (ends (if c.toNat=93 then 0 else 2) t).map (·+1)
  else if c.toNat=34 then (ends (1 - m) t).map (·+1)
  else if c.toNat=92/\m=1 then match t with
   | []=>none
   | _::r=>(ends 1 r).map (·+2)
  else if c.toNat=91/\m=0 then (ends 2 t).map (·+1)
  else if c.toNat=62/\m=0 then some 1
  else (ends m t).map (·+1)
def Fk (s:L):Option Nat:=if 4<=s.length/\(s.length=4\/s[4]? = some 32) then Hp.findIdx? (· == (s.take 4).map Af) else none
def Bk:L->List L
 | []=>[[]]
 | c::t=>if c.toNat=32 then []::Bk t else match Bk t with
  | []=>[[c]]
  | h::r=>(c::h)::r
def keyOf (s:L):L:=(s.takeWhile λc=>c != 61).map Af
def Cm (c:UInt8):Bool:=decide (48<=c.toNat) && decide (c.toNat<=57)
def val (l:L):Nat:=l.foldl (λa c=>a*10+(c.toNat - 48)) 0
def number (l:L):Option Nat:=if 1<=l.length/\l.length<=8/\l.all Cm=true then some (val l) else none
def one (had:List L) (c:Com) (s:L):Int × Com :=
 if keyOf s ≠ Kl/\keyOf s ≠ Rq/\keyOf s ≠ Kn then (555,c)
 else if keyOf s ∈ had then (501,c)
 else if keyOf s=Kl then match number (s.drop 5) with
  | none=>(501,c)
  | some n=>if 16777216<n then (552,c) else (0,{ c with size:=n })
 else if s.map Af=Vt then (0,{ c with eight:=true })
 else if s.map Af=Kn then (0,{ c with wide:=true })
 else if s.map Af=Ax2 then (0,c)
 else (501,c)
def params:List L->List L->Com->Int × Com
 | _,[],c=>(0,c)
 | had,s::t,c=>if (one had c s).1 ≠ 0 then one had c s else params (keyOf s::had) t (one had c s).2
def low (p:L) (c:Com):Int × Com:=if c.wide=false/\Ao p ≠ -1 then (553,c) else (0,c)
def tail (m:Bool) (p q:L) (c:Com):Int × Com:=match q with
 | []=>if m then low p c else (0,c)
 | b::t =>
  if m=false then (555,zero)
  else if b.toNat ≠ 32 then (501,zero)
  else if (params [] (Bk t) c).1 ≠ 0 then params [] (Bk t) c
  else low p (params [] (Bk t) c).2
def start (m:Bool) (k:Bool) (x y:L):Com:=⟨if m then 2 else 3,[],k,x,y,-1,false,false⟩
def Ip (m:Bool) (p q:L):Int × Com :=
 if (Pth.Bc p).1 ≠ 0\/(m=false/\(Pth.Bc p).2.1=true) then (553,zero)
 else tail m p q (start m (Pth.Bc p).2.1 (Pth.Bc p).2.2.1 (Pth.Bc p).2.2.2)
def behind (m:Bool) (r:L):Int × Com:=match ends 0 r with
 | none=>(501,zero)
 | some n=>Ip m (r.take n) (r.drop n)
def Mo (m:Bool) (r:L):Int × Com :=
 if (r.take (if m then 6 else 4)).map Af ≠ (if m then Hd else toK) then (501,zero) else behind m (r.drop (if m then 6 else 4))
def Jr (v:Nat) (r:L):Int × Com:=if r=[]\/Jv (r.drop 1)=false then (501,zero) else (0,{ zero with verb:=v,name:=r.drop 1 })
def body (v:Nat) (r:L):Int × Com :=
 if v=0\/v=1 then Jr v r
 else if v=2 then Mo true r
 else if v=3 then Mo false r
 else if v=6 then (0,{ zero with verb:=6 })
 else if r=[] then (0,{ zero with verb:=v }) else (501,zero)
def raw (s:L):Int × Com :=
 if 510<s.length then (500,zero)
 else match Fk s with
  | none=>(500,zero)
  | some v=>body v (s.drop 4)
def parse (s:L):Int × Com:=if (raw s).1=0 then raw s else ((raw s).1,zero)
theorem To {v:Int} (h0:0<=v) (h7:v<=7):(word v).length=4:=by
 obtain ⟨n,rfl⟩:=Int.eq_ofNat_of_zero_le h0;have:n<8:=jO
 match n,this with
 | 0,_ | 1,_ | 2,_ | 3,_ | 4,_ | 5,_ | 6,_ | 7,_=>rfl
theorem Aw2 {n:Nat} (h:n<8) {r:L} (hr:r=[]\/∃ t,r=32::t):Fk (word (n:Int) ++ r)=some n/\(word (n:Int) ++ r).drop 4=r:=by
 have hl:=To (v:=(n:Int)) jO jO;constructor
 ·unfold Fk;have h1:4<=(word (n:Int) ++ r).length/\((word (n:Int) ++ r).length=4\/(word (n:Int) ++ r)[4]? = some 32):=by
   rw [jab,hl];refine ⟨by omega,?_⟩;rcases hr with rfl | ⟨t,rfl⟩
   ·exact .inl rfl
   ·right;rw [List.getElem?_append_right jO,hl];rfl
  rw [if_pos h1,List.take_left' hl];match n,h with
  | 0,_ | 1,_ | 2,_ | 3,_ | 4,_ | 5,_ | 6,_ | 7,_=>decide
 ·exact List.drop_left' hl
theorem Asa {s:L} {n:Nat} (h:Fk s=some n):n<8/\4<=s.length/\(s.drop 4=[]\/∃ t,s.drop 4=32::t):=by
 unfold Fk at h;by_cases h1:4<=s.length/\(s.length=4\/s[4]? = some 32)
 ·rw [if_pos h1] at h;obtain ⟨hn,-⟩:=List.findIdx?_eq_some_iff_getElem.1 h;refine ⟨hn,h1.1,?_⟩;rcases h1.2 with h2 | h2
  ·exact .inl (List.drop_eq_nil_of_le jO)
  ·right;obtain ⟨hl,he⟩:=List.getElem?_eq_some_iff.1 h2;exact ⟨s.drop 5,by rw [List.drop_eq_getElem_cons hl,he]⟩
 ·rw [if_neg h1] at h;cases h
theorem Aus {n:Nat} (h:n<10):num n=[UInt8.ofNat (48+n)]:=by rw [num,dif_pos h]
theorem Ms (n:Nat):val (num n)=n/\(num n).all Cm=true/\1<=(num n).length/\(∀ k,n<10 ^ (k+1)->(num n).length<=k+1):=by
 induction n using Nat.strongRecOn with
 | ind n ih =>
  have hd:∀ d,d<10->(UInt8.ofNat (48+d)).toNat=48+d:=λd hd=>by rw [UInt8.toNat_ofNat'];omega
  by_cases h:n<10
  ·rw [Aus h];refine ⟨?_,?_,by simp,λk _=>by simp⟩
   ·simp only [val,List.foldl_cons,List.foldl_nil];rw [hd n h];omega
   ·simp only [List.all_cons,List.all_nil,Cm];rw [hd n h];simp;omega
  ·obtain ⟨h1,h2,h3,h4⟩:=ih (n / 10) jO;have hm:=hd (n % 10) jO;rw [num,dif_neg h];refine ⟨?_,?_,by simp,?_⟩
   ·unfold val at h1 ⊢;rw [List.foldl_append,h1];simp only [List.foldl_cons,List.foldl_nil];rw [hm];omega
   ·rw [List.all_append,h2];simp only [List.all_cons,List.all_nil,Cm];rw [hm];simp;omega
   ·intro k hk;rw [jab,List.length_singleton];match k with
    | 0=>omega
    | k+1 =>
     have:n / 10<10 ^ (k+1):=by rw [Nat.pow_succ] at hk;omega
     have:=h4 k this;omega
theorem Aov {n:Nat} (h:n<100000000):number (num n)=some n:=by
 obtain ⟨h1,h2,h3,h4⟩:=Ms n;unfold number;rw [if_pos ⟨h3,h4 7 jO,h2⟩,h1]
theorem Oy {c:UInt8} (h:Cm c=true):c ≠ 32/\c ≠ 61/\Af c=c/\c.toNat<128:=by
 have h1:=Lex.Dl (p:=λc=>!Cm c || (c != 32 && c != 61 && Af c == c && decide (c.toNat<128))) (by decide +kernel) c;rw [h] at h1;simpa [and_assoc] using h1
end Cmd
end
section
open Utf
namespace Cmd
open Lex (Al esc Co Df)
theorem A3l {c:UInt8} (t:L) (h:c.toNat ≠ 93):ends 2 (c::t)=(ends 2 t).map (·+1):=by
 rw [ends.eq_def];simp only [if_true,if_neg h]
theorem A3k {c:UInt8} (t:L) (h:c.toNat=93):ends 2 (c::t)=(ends 0 t).map (·+1):=by
 rw [ends.eq_def];simp only [if_true,if_pos h]
theorem Ara {c:UInt8} (t:L) {m:Nat} (hm:m ≠ 2) (h:c.toNat=34):ends m (c::t)=(ends (1 - m) t).map (·+1):=by
 rw [ends.eq_def];simp only [if_neg hm,if_pos h]
theorem A3j {c:UInt8} (d:UInt8) (t:L) (h:c.toNat=92):ends 1 (c::d::t)=(ends 1 t).map (·+2):=by
 rw [ends.eq_def];simp [h]
theorem A3i {c:UInt8} (t:L) (h:c.toNat=91):ends 0 (c::t)=(ends 2 t).map (·+1):=by
 rw [ends.eq_def];simp [h]
theorem A3h {c:UInt8} (t:L) (h:c.toNat=62):ends 0 (c::t)=some 1:=by
 rw [ends.eq_def];simp [h]
theorem Yp {c:UInt8} (t:L) (h1:c.toNat ≠ 34) (h2:c.toNat ≠ 91) (h3:c.toNat ≠ 62):ends 0 (c::t)=(ends 0 t).map (·+1):=by
 rw [ends.eq_def];simp [h1,h2,h3]
theorem Ay1 {c:UInt8} (t:L) (h1:c.toNat ≠ 34) (h2:c.toNat ≠ 92):ends 1 (c::t)=(ends 1 t).map (·+1):=by
 rw [ends.eq_def];simp [h1,h2]
theorem Ja {o:Option Nat} (a b:Nat):(o.map (·+a)).map (·+b)=o.map (·+(a+b)):=by
 cases o with
 | none=>rfl
 | some n=>simp only [Option.map_some];congr 1;omega
theorem Uw {o:Option Nat} {a b:Nat} (h:a=b):o.map (·+a)=o.map (·+b):=by rw [h]
theorem Mg:∀ (l r:L),(∀ c ∈ l,c.toNat ≠ 34/\c.toNat ≠ 91/\c.toNat ≠ 62)->ends 0 (l ++ r)=(ends 0 r).map (·+l.length)
 | [],r,_=>by simp
 | c::l,r,h=>by
  obtain ⟨h1,h2,h3⟩:=h c jS;rw [jah,Yp _ h1 h2 h3,Mg l r (λd hd=>h d (by simp [hd])),Ja];rfl
theorem Qq:∀ (x r:L),ends 1 (esc x ++ 34::r)=(ends 0 r).map (·+((esc x).length+1))
 | [],r=>by
  show ends 1 (34::r)=_;rw [Ara r jD rfl];rfl
 | c::x,r=>by
  by_cases h:c.toNat=34\/c.toNat=92
  ·rw [Lex.Afw h,jah,jah,A3j c _ rfl,Qq x r,Ja];exact Uw (by simp only [jac])
  ·rw [Lex.Uf h,jah,Ay1 _ (λe=>h (.inl e)) (λe=>h (.inr e)),Qq x r,Ja];exact Uw (by simp only [jac])
theorem Vu:∀ (x r:L),(∀ c ∈ x,c.toNat ≠ 93)->ends 2 (x ++ 93::r)=(ends 0 r).map (·+(x.length+1))
 | [],r,_=>by
  show ends 2 (93::r)=_;rw [A3k r rfl];rfl
 | c::x,r,h=>by
  rw [jah,A3l _ (h c jS),Vu x r (λd hd=>h d (by simp [hd])),Ja];exact Uw (by simp only [jac])
theorem Qn:∀ (x:L) (c:UInt8),c ∈ x->c.toNat=46\/∃ p ∈ Lex.I8 x,c ∈ p
 | d::t,c,h=>by
  obtain ⟨q,r,e⟩:=Mbx.N9 t;rw [Lex.I8];by_cases hd:d.toNat=46
  ·rw [if_pos hd];rcases jal.1 h with rfl | h
   ·exact .inl hd
   ·rcases Qn t c h with h1 | ⟨p,hp,hc⟩
    ·exact .inl h1
    ·exact .inr ⟨p,by simp [hp],hc⟩
  ·rw [if_neg hd,e];rcases jal.1 h with rfl | h
   ·exact .inr ⟨c::q,by simp,by simp⟩
   ·rcases Qn t c h with h1 | ⟨p,hp,hc⟩
    ·exact .inl h1
    ·rw [e,jal] at hp;rcases hp with rfl | hp
     · exact .inr ⟨d::p,by simp,by simp [hc]⟩
     · exact .inr ⟨p,by simp [hp],hc⟩
theorem Ama {x:L} (h:Df x=true) (c:UInt8) (hc:c ∈ x):Al c=true\/c.toNat=46:=by
 rcases Qn x c hc with h1 | ⟨p,hp,h1⟩
 ·exact .inr h1
 ·unfold Df at h;have h2:=jar.1 h p hp;unfold Lex.Fg at h2;rw [jag,jar] at h2;exact .inl (h2.2 c h1)
theorem Ajw:∀ (x r:L) (n:Nat),Lex.lit (x ++ 93::r)=.fine x n->∀ c ∈ x,c.toNat ≠ 93
 | d::x,r,n,h,c,hc=>by
  rw [jah,Lex.lit] at h;by_cases h1:d.toNat=93
  ·rw [if_pos h1] at h;injection h with h _;cases h
  ·rw [if_neg h1] at h;split at h
   ·obtain ⟨x',n',h2,h3,-⟩:=Lex.Gu h;injection h3 with _ h3
    subst h3;rcases jal.1 hc with rfl | hc
    · exact h1
    · exact Ajw x r n' h2 c hc
   ·cases h
theorem Acf {c:UInt8} (h:Al c=true):c.toNat ≠ 34/\c.toNat ≠ 91/\c.toNat ≠ 62:=by
 obtain ⟨-,h1,-,-,h3,h4,-⟩:=Lex.Ahw c h;refine ⟨h3,h4,λe=>?_⟩;rw [e] at h1;cases h1
theorem Aa7:∀ (x:L),Df x=true->∀ c ∈ x,c.toNat ≠ 34/\c.toNat ≠ 91/\c.toNat ≠ 62:=by
 intro x h c hc;rcases Ama h c hc with h1 | h1
 · exact Acf h1
 · omega
theorem Anq {x:L} (r:L):ends 0 (Mbx.Ef x ++ r)=(ends 0 r).map (·+(Mbx.Ef x).length):=by
 unfold Mbx.Ef;by_cases h:Df x=true
 ·rw [if_pos h];exact Mg x r (Aa7 x h)
 ·rw [if_neg h];have e:Co 1 x=34::(esc x ++ [34]):=rfl;rw [e,jah,Ara _ jD rfl,jaq];show (ends 1 (esc x ++ 34::r)).map _=_;rw [Qq,Ja];exact Uw jS
theorem Ay0 {y:L} (h:Mbx.Atb y=true) (r:L):ends 0 (y ++ r)=(ends 0 r).map (·+y.length):=by
 unfold Mbx.Atb at h;rw [Bool.or_eq_true] at h;rcases h with h | h
 ·exact Mg y r (Aa7 y h)
 ·obtain ⟨x,rfl,hx⟩:=Mbx.Azu h;have hb:∀ c ∈ x,c.toNat ≠ 93:=Ajw x [] (x.length+1) (hx []);have e:Co 5 x=91::(x ++ [93]):=rfl;rw [e,jah,A3i _ rfl,jaq];show (ends 2 (x ++ 93::r)).map _=_;rw [Vu x r hb,Ja];exact Uw jS
theorem Ac8 {n:Bool} {x y:L} (h:Pth.Bo n x y=0) (r:L):ends 0 (Pth.A9 n x y ++ r)=some (Pth.A9 n x y).length:=by
 have go:∀ z:L,ends 0 (z ++ 62::r)=(ends 0 (62::r)).map (·+z.length)->ends 0 ((60::(z ++ [62])) ++ r)=some (60::(z ++ [62]):L).length:=by
  intro z hz;rw [jah,Yp _ jD jD jD,jaq];show (ends 0 (z ++ 62::r)).map _=_;rw [hz,A3h _ rfl];simp only [Option.map_some,jac,jab,List.length_nil];congr 1;omega
 unfold Pth.A9;refine go _ ?_;unfold Pth.Bo at h;unfold Pth.Qb;cases n with
 | true=>rw [if_pos rfl];simp
 | false =>
  rw [if_neg jD] at h ⊢;by_cases hm:Pth.Eg false x y=true
  ·rw [if_pos hm];exact Mg x _ λc hc=>Acf ((Pth.Mq (Pth.Jh.1 hm).2.2).2 c hc).1
  ·rw [if_neg hm] at h ⊢;obtain ⟨-,hd⟩:=Mbx.Aea h;unfold Mbx.Fq;rw [jaq,Anq,jah,Yp _ jD jD jD,Ay0 hd,Ja,Ja];exact Uw (by simp only [jab,jac];omega)
end Cmd
end
section
open Utf
namespace Cmd
theorem X4:∀ a:L,(∀ c ∈ a,c.toNat ≠ 32)->Bk a=[a]
 | [],_=>rfl
 | c::a,h=>by rw [Bk,if_neg (h c jS),X4 a λd hd=>h d (by simp [hd])]
theorem X1:∀ a b:L,(∀ c ∈ a,c.toNat ≠ 32)->Bk (a ++ 32::b)=a::Bk b
 | [],b,_=>by show Bk (32::b)=_;rw [Bk,if_pos jD]
 | c::a,b,h=>by rw [jah,Bk,if_neg (h c jS),X1 a b λd hd=>h d (by simp [hd])]
theorem X0:∀ (p:L) (ps:List L),(∀ q ∈ p::ps,∀ c ∈ q,c.toNat ≠ 32)->Bk (p ++ ps.flatMap λq=>32::q)=p::ps
 | p,[],h=>by rw [List.flatMap_nil,List.append_nil];exact X4 p (h p jS)
 | p,q::ps,h=>by
  rw [jao,jah,X1 p _ (h p jS),X0 q ps λr hr=>h r (by simp only [jal] at hr ⊢;exact .inr hr)]
def Aah (n:Nat):L:=[83,73,90,69,61] ++ num n
def Ue:L:=[66,79,68,89,61,56,66,73,84,77,73,77,69]
def Al6:L:=[83,77,84,80,85,84,70,56]
def Akr (sz:Int) (e8 wd:Bool):List L:=(if 0<=sz then [Aah sz.toNat] else []) ++ ((if e8 then [Ue] else []) ++ (if wd then [Al6] else []))
theorem Ai2 (c:Com) (h1:-1<=c.size):extras c=(Akr c.size c.eight c.wide).flatMap λq=>32::q:=by
 unfold extras Akr;by_cases h:0<=c.size
 ·rw [if_pos h,if_pos h];cases c.eight<;>cases c.wide<;>simp [Alm,Aah,No,Ue,Wn,Al6]
 ·rw [if_neg h,if_neg h,if_pos jO];cases c.eight<;>cases c.wide<;>simp [No,Ue,Wn,Al6]
theorem Auz (sz:Int) (e8 wd:Bool):∀ q ∈ Akr sz e8 wd,∀ c ∈ q,c.toNat ≠ 32:=by
 have hs:∀ c ∈ Aah sz.toNat,c.toNat ≠ 32:=λc hc=>by
  unfold Aah at hc;rw [jap] at hc;rcases hc with hc | hc
  ·revert c;decide
  ·have h1:=jar.1 (Ms sz.toNat).2.1 c hc;exact λe=>(Oy h1).1 (Lex.Hu e)
 have he:∀ c ∈ Ue,c.toNat ≠ 32:=by decide
 have hw:∀ c ∈ Al6,c.toNat ≠ 32:=by decide
 intro q hq;unfold Akr at hq;simp only [jap] at hq;rcases hq with hq | hq | hq
 ·split at hq
  ·rw [List.mem_singleton] at hq;subst hq;exact hs
  ·cases hq
 ·split at hq
  ·rw [List.mem_singleton] at hq;subst hq;exact he
  ·cases hq
 ·split at hq
  ·rw [List.mem_singleton] at hq;subst hq;exact hw
  ·cases hq
theorem Ajk (n:Nat):keyOf (Aah n)=Kl:=rfl
theorem A0l {n:Nat} (h:n<=16777216) (c:Com):one [] c (Aah n)=(0,{ c with size:=n }):=by
 unfold one;rw [Ajk,if_neg jD,if_neg jS,if_pos rfl];have e:(Aah n).drop 5=num n:=rfl;rw [e,Aov jO];show (if 16777216<n then _ else _)=_;rw [if_neg jO]
theorem Ad0 {had:List L} (h:had=[]\/had=[Kl]) (c:Com):one had c Ue=(0,{ c with eight:=true }):=by
 rcases h with rfl | rfl<;>rfl
theorem Sn {had:List L} (h:had=[]\/had=[Kl]\/had=[Rq]\/had=[Rq,Kl]) (c:Com):one had c Al6=(0,{ c with wide:=true }):=by
 rcases h with rfl | rfl | rfl | rfl<;>rfl
theorem Ff {had:List L} {c d:Com} {s:L} (t:List L) (h:one had c s=(0,d)):params had (s::t) c=params (keyOf s::had) t d:=by
 rw [params,h,if_neg jS]
theorem Aoz (had:List L) (c:Com):params had [] c=(0,c):=rfl
theorem Ado:keyOf Ue=Rq:=rfl
theorem Akq {sz:Int} {e8 wd:Bool} (h0:-1<=sz) (h1:sz<=16777216) (v:Int) (nm:L) (k:Bool) (x y:L):params [] (Akr sz e8 wd) ⟨v,nm,k,x,y,-1,false,false⟩=(0,⟨v,nm,k,x,y,sz,e8,wd⟩):=by
 unfold Akr;by_cases h:0<=sz
 ·have hz:((sz.toNat:Nat):Int)=sz:=Int.toNat_of_nonneg h;rw [if_pos h,List.singleton_append,Ff _ (A0l jO _),hz,Ajk];cases e8 with
  | true =>
   rw [if_pos rfl,List.singleton_append,Ff _ (Ad0 (.inr rfl) _),Ado];cases wd with
   | true=>rw [if_pos rfl,Ff _ (Sn (.inr (.inr (.inr rfl))) _)];rfl
   | false=>rfl
  | false =>
   rw [if_neg jD,List.nil_append];cases wd with
   | true=>rw [if_pos rfl,Ff _ (Sn (.inr (.inl rfl)) _)];rfl
   | false=>rfl
 ·obtain rfl:sz=-1:=jO
  rw [if_neg h,List.nil_append];cases e8 with
  | true =>
   rw [if_pos rfl,List.singleton_append,Ff _ (Ad0 (.inl rfl) _),Ado];cases wd with
   | true=>rw [if_pos rfl,Ff _ (Sn (.inr (.inr (.inl rfl))) _)];rfl
   | false=>rfl
  | false =>
   rw [if_neg jD,List.nil_append];cases wd with
   | true=>rw [if_pos rfl,Ff _ (Sn (.inl rfl) _)];rfl
   | false=>rfl
theorem Mm {p q r:L} (h:Ao (p ++ (q ++ r))=-1):Ao q=-1:=by
 have e:∀ l:L,Ao l=-1 ↔ ∀ c ∈ l,c.toNat<128:=λl=>by rw [<- Lab.Du,Lab.Kf,decide_eq_true_eq]
 rw [e] at h ⊢;exact λc hc=>h c (by simp [hc])
theorem Ayi {n:Bool} {x y:L} (h:Pth.Bo n x y=0):y.length<=(Pth.A9 n x y).length:=by
 unfold Pth.Bo at h;unfold Pth.A9 Pth.Qb;cases n with
 | true =>
  rw [if_pos rfl] at h;by_cases e:x=[]/\y=[]
  ·rw [e.2];simp
  ·rw [if_neg e] at h;cases h
 | false =>
  rw [if_neg jD] at h ⊢;by_cases hm:Pth.Eg false x y=true
  ·rw [(Pth.Jh.1 hm).2.1];simp
  ·rw [if_neg hm];unfold Mbx.Fq;simp only [jac,jab,List.length_nil];omega
theorem Aug {k:Bool} {x y:L} (hr:Pth.Bo k x y=0) (hl:(Pth.A9 k x y).length<=1800) {sz:Int} {e8 wd:Bool} (h0:-1<=sz) (h1:sz<=16777216) (h8:wd=true\/Ao (Pth.A9 k x y)=-1) :
  Mo true (Nq ++ (Pth.A9 k x y ++ extras ⟨2,[],k,x,y,sz,e8,wd⟩))=(0,⟨2,[],k,x,y,sz,e8,wd⟩):=by
 have hE:extras ⟨2,[],k,x,y,sz,e8,wd⟩=(Akr sz e8 wd).flatMap λq=>32::q:=Ai2 _ h0;have hd6:(Nq ++ (Pth.A9 k x y ++ extras ⟨2,[],k,x,y,sz,e8,wd⟩)).drop 6=Pth.A9 k x y ++ extras ⟨2,[],k,x,y,sz,e8,wd⟩:=rfl;have ht6:((Nq ++ (Pth.A9 k x y ++ extras ⟨2,[],k,x,y,sz,e8,wd⟩)).take 6).map Af=Hd:=rfl;have hlow:∀ c:Com,c.wide=wd->low (Pth.A9 k x y) c=(0,c):=λc hc=>by
  unfold low;rw [if_neg];rintro ⟨g1,g2⟩;rcases h8 with h8 | h8
  · rw [hc,h8] at g1;cases g1
  · exact g2 h8
 unfold Mo;rw [if_pos rfl,if_pos rfl,hd6,ht6,if_neg jS];unfold behind;rw [Ac8 hr];simp only;rw [List.take_left' rfl,List.drop_left' rfl];unfold Ip;rw [Pth.Z2 hr (by have:=Ayi hr;omega),if_neg jS,hE];have hb:=Akq (e8:=e8) (wd:=wd) h0 h1 2 [] k x y;have hn:=Auz sz e8 wd;unfold tail;cases hp:Akr sz e8 wd with
 | nil =>
  rw [hp,Aoz] at hb;injection hb with _ hb
  show low _ (⟨2,[],k,x,y,-1,false,false⟩:Com)=_;rw [hb];exact hlow _ rfl
 | cons p ps =>
  rw [hp] at hb hn;rw [jao,jah];simp only;rw [if_neg jD,if_neg jD,X0 p ps hn];replace hb:params [] (p::ps) (start true k x y)=_:=hb;rw [hb,if_neg jS];exact hlow _ rfl
theorem Avl {x y:L} (hr:Pth.Bo false x y=0) (hl:(Pth.A9 false x y).length<=1800):Mo false (toT ++ Pth.A9 false x y)=(0,⟨3,[],false,x,y,-1,false,false⟩):=by
 have hd4:(toT ++ Pth.A9 false x y).drop 4=Pth.A9 false x y:=rfl;have ht4:((toT ++ Pth.A9 false x y).take 4).map Af=toK:=rfl;have he:=Ac8 hr [];rw [List.append_nil] at he;unfold Mo;rw [if_neg (show ¬ ((false:Bool)=true) by decide),if_neg (show ¬ ((false:Bool)=true) by decide),hd4,ht4,if_neg jS];unfold behind;rw [he];simp only;rw [List.take_length,List.drop_length];unfold Ip;rw [Pth.Z2 hr (by have:=Ayi hr;omega),if_neg jS];rfl
theorem Sw {n:Nat} (h:n<8) {r:L} (hr:r=[]\/∃ t,r=32::t) (hl:(word (n:Int) ++ r).length<=510):raw (word (n:Int) ++ r)=body n r:=by
 obtain ⟨h1,h2⟩:=Aw2 h hr;unfold raw;rw [if_neg jO,h1];simp only;rw [h2]
theorem Sr {s:L} {c:Com} (h:raw s=(0,c)):parse s=(0,c):=by
 unfold parse;rw [h,if_pos rfl]
theorem Av9 {c:Com} (h:right c=true) (hl:(print c).length<=510) (h8:c.verb=2->c.wide=true\/Ao (print c)=-1):parse (print c)=(0,c):=by
 obtain ⟨v,nm,k,x,y,sz,e8,wd⟩:=c;refine Sr ?_;unfold right at h;simp only [jag,decide_eq_true_eq] at h;obtain ⟨⟨⟨v0,v7⟩,hn⟩,hm⟩:=h;obtain ⟨n,rfl⟩:=Int.eq_ofNat_of_zero_le v0;have n8:n<8:=jO
 clear v0 v7;match n,n8 with
 | 0,_ | 1,_ =>
  have h1:Jv nm=true:=hn;simp at hm;obtain ⟨⟨⟨⟨⟨rfl,rfl⟩,rfl⟩,rfl⟩,rfl⟩,rfl⟩:=hm;refine (Sw jD (.inr ⟨_,rfl⟩) hl).trans ?_;show Jr _ (32::nm)=_;unfold Jr;rw [if_neg (by rintro (e | e);cases e;rw [List.drop_succ_cons,List.drop_zero,h1] at e;cases e)];rfl
 | 2,_ =>
  have h1:nm=[]:=by simpa [Iv] using hn
  subst h1;replace hm:(decide (Pth.Bo k x y=0) && decide (-1<=sz) && decide (sz<=16777216))=true:=hm;simp only [jag,decide_eq_true_eq] at hm;obtain ⟨⟨hr,s0⟩,s1⟩:=hm;replace h8:=h8 rfl;have hl':(Pth.A9 k x y).length<=1800:=by
   have e:print ⟨((2:Nat):Int),[],k,x,y,sz,e8,wd⟩=word 2 ++ (Nq ++ (Pth.A9 k x y ++ extras ⟨2,[],k,x,y,sz,e8,wd⟩)):=rfl;rw [e] at hl;simp only [jab] at hl;omega
  refine (Sw (n:=2) jD (r:=Nq ++ (Pth.A9 k x y ++ extras ⟨2,[],k,x,y,sz,e8,wd⟩)) (.inr ⟨_,rfl⟩) hl).trans ?_;refine Aug hr hl' s0 s1 (h8.imp id λh=>?_);have e:print ⟨((2:Nat):Int),[],k,x,y,sz,e8,wd⟩=(word 2 ++ Nq) ++ (Pth.A9 k x y ++ extras ⟨2,[],k,x,y,sz,e8,wd⟩):=rfl;rw [e] at h;exact Mm h
 | 3,_ =>
  have h1:nm=[]:=by simpa [Iv] using hn
  subst h1;simp at hm;obtain ⟨⟨⟨⟨hr,rfl⟩,rfl⟩,rfl⟩,rfl⟩:=hm;have hl':(Pth.A9 false x y).length<=1800:=by
   have e:print ⟨((3:Nat):Int),[],false,x,y,-1,false,false⟩=word 3 ++ (toT ++ Pth.A9 false x y):=rfl;rw [e] at hl;simp only [jab] at hl;omega
  refine (Sw (n:=3) jD (r:=toT ++ Pth.A9 false x y) (.inr ⟨_,rfl⟩) hl).trans ?_;exact Avl hr hl'
 | 4,_ | 5,_ | 6,_ | 7,_ =>
  have h1:nm=[]:=by simpa [Iv] using hn
  subst h1;simp at hm;obtain ⟨⟨⟨⟨⟨rfl,rfl⟩,rfl⟩,rfl⟩,rfl⟩,rfl⟩:=hm;rfl
end Cmd
end
section
open Utf
namespace Cmd
open Mbx (S take Cn I7 words more Ll)
theorem A4g (m:Nat):∀ (t x:L) (n:Nat),t.length<=m->Lex.quo t=.fine x n->∀ c ∈ x,c ∈ t:=by
 induction m with
 | zero =>
  intro t x n h hq;obtain rfl:t=[]:=List.eq_nil_of_length_eq_zero jO;cases hq
 | succ m ih =>
  intro t x n h hq c hc;rcases Lex.Pj t with ⟨rfl,e⟩ | ⟨a,u,rfl,-,e⟩ | ⟨a,rfl,-,e⟩ | ⟨a,d,r,rfl,-,-,e⟩ | ⟨a,d,r,rfl,-,-,e⟩ | ⟨a,u,rfl,-,-,-,e⟩ | ⟨a,u,rfl,-,-,-,e⟩
  ·rw [e] at hq;cases hq
  ·rw [e] at hq;injection hq with hq _;subst hq;cases hc
  ·rw [e] at hq;cases hq
  ·rw [e] at hq;obtain ⟨x',n',h1,rfl,-⟩:=Lex.Gu hq;simp only [jac] at h;rw [List.singleton_append,jal] at hc;rcases hc with rfl | hc
   ·simp
   ·have:=ih r x' n' jO h1 c hc;simp [this]
  ·rw [e] at hq;cases hq
  ·rw [e] at hq;obtain ⟨x',n',h1,rfl,-⟩:=Lex.Gu hq;simp only [jac] at h;rw [List.singleton_append,jal] at hc;rcases hc with rfl | hc
   ·simp
   ·have:=ih u x' n' jO h1 c hc;simp [this]
  ·rw [e] at hq;cases hq
theorem A4r {k:Int} {x:L} (h1:k ≠ 1):∀ c ∈ x,c ∈ Lex.Co k x:=by
 intro c hc;unfold Lex.Co;by_cases h3:k=3
 ·rw [if_pos h3];simp [hc]
 ·rw [if_neg h3];by_cases h5:k=5
  · rw [if_pos h5];simp [hc]
  · rw [if_neg h5,if_neg h1];exact hc
theorem A38 {l x:L} {k:Int} {n:Nat} (h:Lex.one l=(k,.fine x n)):∀ c ∈ x,c ∈ l:=by
 obtain ⟨-,-,-,h3,-,⟨a,t,u,hl,hs,-⟩,-⟩:=Lex.Jy h;intro c hc;by_cases hk:k=1
 ·subst hk;have e34:a=34:=by
   have e:Lex.Co 1 x=34::(Lex.esc x ++ [34]):=rfl;rw [e] at hs;injection hs with hs _
   exact hs.symm
  subst hl e34;rw [Lex.Sm 34 t rfl] at h;injection h with _ h
  obtain ⟨m,hm,-⟩:=Lex.Tl h;exact List.mem_cons_of_mem _ (A4g _ t x m (jaa _) hm c hc)
 ·have:=A4r hk c hc;rw [h3 hk] at this;exact List.mem_of_mem_take this
theorem Aij {a:Nat} {l:L} {ts:List Lex.Tok} (h:Lex.Cuts a l ts):∀ k ∈ ts,∀ c ∈ k.text,c ∈ l:=by
 induction h with
 | nil a=>exact λk hk=>by cases hk
 | cons h t ih =>
  intro k hk c hc;rcases jal.1 hk with rfl | hk
  · exact A38 h c hc
  · exact List.mem_of_mem_drop (ih k hk c hc)
def Low (l:List S):Prop:=∀ k ∈ l,∀ c ∈ k.2,c.toNat<128
theorem Low.drop {l:List S} (h:Low l) (n:Nat):Low (l.drop n):=λk hk=>h k (List.mem_of_mem_drop hk)
theorem N4:∀ l:List S,Low l->∀ c ∈ (more l).1,c.toNat<128
 | [],_,c,hc=>by cases hc
 | [_],_,c,hc=>by cases hc
 | d::a::t,h,c,hc=>by
  rw [more] at hc;split at hc
  ·simp only [jal,jap] at hc;rcases hc with rfl | hc | hc
   · decide
   · exact h a jS c hc
   · exact N4 t (λk hk=>h k (by simp [hk])) c hc
  ·cases hc
theorem Lm {l:List S} (h:Low l) {x:L} {n:Nat} (hw:words l=some (x,n)):∀ c ∈ x,c.toNat<128:=by
 cases l with
 | nil=>cases hw
 | cons k t =>
  rw [words] at hw;split at hw
  ·injection hw with hw;injection hw with hw _
   subst hw;intro c hc;rcases jap.1 hc with hc | hc
   · exact h k jS c hc
   · exact N4 t (λj hj=>h j (by simp [hj])) c hc
  ·cases hw
theorem An9 {l:List S} (h:Low l) {x:L} {n:Nat} (hw:Cn l=some (x,n)):∀ c ∈ x,c.toNat<128:=by
 cases l with
 | nil=>cases hw
 | cons k t =>
  rw [Cn] at hw;split at hw
  ·injection hw with hw;injection hw with hw _
   subst hw;exact h k jS
  ·exact Lm h hw
theorem Ayh {l:List S} (h:Low l) {x:L} {n:Nat} (hw:I7 l=some (x,n)):∀ c ∈ x,c.toNat<128:=by
 cases l with
 | nil=>cases hw
 | cons k t =>
  rw [I7] at hw;split at hw
  ·injection hw with hw;injection hw with hw _
   subst hw;intro c hc;have e:Lex.Co 5 k.2=91::(k.2 ++ [93]):=rfl;rw [e] at hc;simp only [jal,jap,List.not_mem_nil,or_false] at hc;rcases hc with rfl | hc | rfl
   · decide
   · exact h k jS c hc
   · decide
  ·exact Lm h hw
theorem A17 {l:List S} (h:Low l) {x y:L} {n:Nat} (ht:take l=some (x,y,n)):(∀ c ∈ x,c.toNat<128)/\∀ c ∈ y,c.toNat<128:=by
 unfold take at ht;cases hl:Cn (l.drop (Mbx.skip l)) with
 | none=>rw [hl] at ht;cases ht
 | some p =>
  obtain ⟨u,q⟩:=p;rw [hl] at ht;simp only at ht;unfold Ll at ht;split at ht
  ·split at ht
   ·cases ht
   ·rename_i v q2 hd
    injection ht with ht;injection ht with e1 ht;injection ht with e2 _
    subst e1 e2;exact ⟨An9 (h.drop _) hl,Ayh (h.drop _) hd⟩
  ·cases ht
theorem Ak7 {l:List S} (h:Low l) {k:Bool} {x y:L} (hr:Pth.Eh l=some (k,x,y)):(∀ c ∈ x,c.toNat<128)/\∀ c ∈ y,c.toNat<128:=by
 unfold Pth.Eh at hr;split at hr
 ·injection hr with hr;injection hr with _ hr;injection hr with e1 e2
  subst e1 e2;exact ⟨λc hc=>(by cases hc),λc hc=>(by cases hc)⟩
 ·split at hr
  ·split at hr
   ·injection hr with hr;injection hr with _ hr;injection hr with e1 e2
    subst e1 e2;refine ⟨λc hc=>?_,λc hc=>(by cases hc)⟩;cases l with
    | nil=>cases hc
    | cons a t=>exact h a jS c hc
   ·cases hr
  ·split at hr
   ·cases hr
   ·rename_i u v n ht
    split at hr
    ·injection hr with hr;injection hr with _ hr;injection hr with e1 e2
     subst e1 e2;exact A17 h ht
    ·cases hr
theorem Gh (l:L):Ao l=-1 ↔ ∀ c ∈ l,c.toNat<128:=by rw [<- Lab.Du,Lab.Kf,decide_eq_true_eq]
theorem A0w {p x y:L} {k:Bool} (h:Pth.Bc p=(0,k,x,y)) (h8:Ao p=-1):Ao (Pth.A9 k x y)=-1:=by
 rcases Pth.N8 h with ⟨h,-⟩ | ⟨-,-,hr,-,h0⟩
 ·exact absurd rfl h
 rw [Gh] at h8;rcases Lex.Jg p with ⟨-,e⟩ | ⟨-,E,q,e,h1,-⟩ | ⟨-,us,e,hc,-⟩
 ·rw [e] at h0;cases h0
 ·rw [e] at h0;have:E=0:=h0;omega
 rw [e] at hr;have hL:Low (Pth.mid (us.map Lex.Fi)):=by
  intro j hj c hc2;unfold Pth.mid at hj;have h1:=List.mem_of_mem_drop (List.mem_of_mem_take hj);obtain ⟨t,ht,rfl⟩:=List.mem_map.1 h1;exact h8 c (Aij hc t ht c hc2)
 obtain ⟨h1,h2⟩:=Ak7 hL hr;have hpm:=(@Pth.Avc x y).2 ⟨(Gh x).2 h1,(Gh y).2 h2⟩;rcases Pth.Avd k x y with e | ⟨e,-⟩ | e
 ·rw [e];rfl
 ·rw [e,Gh];intro c hc;simp only [jal,jap,List.not_mem_nil,or_false] at hc;rcases hc with rfl | hc | rfl
  · decide
  · exact h1 c hc
  · decide
 ·rw [e];exact hpm
theorem Aut (had:List L) (c:Com) (s:L) {e:Int} {d:Com} (h:one had c s=(e,d)) :
  (e=0\/e=501\/e=552\/e=555)/\d.verb=c.verb/\d.name=c.name/\d.null=c.null/\d.loc=c.loc/\d.dom=c.dom/\(-1<=c.size/\c.size<=16777216->-1<=d.size/\d.size<=16777216):=by
 unfold one at h
 repeat' split at h
 all_goals (injection h with h1 h2;subst h1 h2;simp;try omega)
theorem Mx:∀ (l:List L) (had:List L) (c:Com) {e:Int} {d:Com},params had l c=(e,d) ->
  (e=0\/e=501\/e=552\/e=555)/\d.verb=c.verb/\d.name=c.name/\d.null=c.null/\d.loc=c.loc/\d.dom=c.dom/\(-1<=c.size/\c.size<=16777216->-1<=d.size/\d.size<=16777216)
 | [],had,c,e,d,h=>by injection h with h1 h2;subst h1 h2;exact ⟨.inl rfl,rfl,rfl,rfl,rfl,rfl,id⟩
 | s::t,had,c,e,d,h=>by
  rw [params] at h;obtain ⟨⟨e1,d1⟩,h1⟩:∃ q,one had c s=q:=⟨_,rfl⟩
  obtain ⟨g0,g1,g2,g3,g4,g5,g6⟩:=Aut had c s h1;rw [h1] at h;by_cases he:e1 ≠ 0
  ·rw [if_pos he] at h;injection h with q1 q2
   subst q1 q2;exact ⟨g0,g1,g2,g3,g4,g5,g6⟩
  ·rw [if_neg he] at h;obtain ⟨k0,k1,k2,k3,k4,k5,k6⟩:=Mx t _ _ h;exact ⟨k0,k1.trans g1,k2.trans g2,k3.trans g3,k4.trans g4,k5.trans g5,λhh=>k6 (g6 hh)⟩
def Told (e:Int):Prop:=e=500\/e=501\/e=552\/e=553\/e=555
def Aa9 (e:Int) (c:Com):Prop:=Told e\/(e=0/\right c=true/\(c.verb=2->c.wide=true\/Ao (print c)=-1))
theorem Ar1 (n:Nat):∀ c ∈ num n,c.toNat<128:=λc hc=>(Oy (jar.1 (Ms n).2.1 c hc)).2.2.2
theorem Ans (c:Com):∀ b ∈ extras c,b.toNat<128:=by
 have z1:∀ b ∈ ([32,83,73,90,69,61]:L),b.toNat<128:=by decide
 have z2:∀ b ∈ No,b.toNat<128:=by decide
 have z3:∀ b ∈ Wn,b.toNat<128:=by decide
 intro b hb;unfold extras at hb;simp only [jap] at hb;rcases hb with hb | hb | hb
 ·split at hb
  ·unfold Alm at hb;rcases jap.1 hb with hb | hb
   ·exact z1 b hb
   ·exact Ar1 _ b hb
  ·split at hb
   ·cases hb
   ·unfold A2w at hb;rcases jap.1 hb with hb | hb
    ·exact z1 b hb
    ·rcases jal.1 hb with rfl | hb
     · decide
     · exact Ar1 _ b hb
 ·split at hb
  ·exact z2 b hb
  ·cases hb
 ·split at hb
  ·exact z3 b hb
  ·cases hb
theorem Aj0 {p:L} {c:Com} {k:Bool} {x y:L} (hp:Pth.Bc p=(0,k,x,y)) (hr:Pth.Bo k x y=0) (h1:c.verb=2) (h2:c.name=[]) (h3:c.null=k) (h4:c.loc=x) (h5:c.dom=y) (h6:-1<=c.size/\c.size<=16777216) {e:Int} {d:Com} (h:low p c=(e,d)):Aa9 e d:=by
 obtain ⟨v,nm,k',x',y',sz,e8,wd⟩:=c;simp only at h1 h2 h3 h4 h5 h6;subst h1 h2 h3 h4 h5;unfold low at h;split at h
 ·injection h with h _;subst h;exact .inl (.inr (.inr (.inr (.inl rfl))))
 ·rename_i hn
  injection h with q1 q2
  subst q1 q2;refine .inr ⟨rfl,?_,λ_=>?_⟩
  ·unfold right;simp [Iv,hr,h6.1,h6.2]
  ·simp only at hn ⊢;cases wd with
   | true=>exact .inl rfl
   | false =>
    right;have h8:Ao p=-1:=Decidable.not_not.1 λg=>hn ⟨rfl,g⟩;have:=(Gh _).1 (A0w hp h8);rw [Gh];intro b hb;have e:print ⟨2,[],k',x',y',sz,e8,false⟩=(word 2 ++ Nq) ++ (Pth.A9 k' x' y' ++ extras ⟨2,[],k',x',y',sz,e8,false⟩):=rfl;rw [e] at hb;simp only [jap] at hb;rcases hb with (hb | hb) | hb | hb
    · exact (show ∀ b ∈ word 2,b.toNat<128 by decide) b hb
    · exact (show ∀ b ∈ Nq,b.toNat<128 by decide) b hb
    · exact this b hb
    · exact Ans _ b hb
theorem Ads {m:Bool} {r:L} {e:Int} {d:Com} (h:Mo m r=(e,d)):Aa9 e d:=by
 have t501:Aa9 501 zero:=.inl (.inr (.inl rfl));have t553:Aa9 553 zero:=.inl (.inr (.inr (.inr (.inl rfl))));have t555:Aa9 555 zero:=.inl (.inr (.inr (.inr (.inr rfl))));unfold Mo at h;generalize (if m=true then 6 else 4)=w at h;generalize (if m=true then Hd else toK)=wk at h;split at h
 ·injection h with q1 q2;subst q1 q2;exact t501
 unfold behind at h;split at h
 ·injection h with q1 q2;subst q1 q2;exact t501
 rename_i n _
 generalize (r.drop w).take n=p at h;generalize (r.drop w).drop n=q at h;unfold Ip at h;obtain ⟨⟨E,k,x,y⟩,hp⟩:∃ z,Pth.Bc p=z:=⟨_,rfl⟩
 rw [hp] at h;simp only at h;split at h
 ·injection h with q1 q2;subst q1 q2;exact t553
 rename_i hn
 obtain rfl:E=0:=Decidable.not_not.1 λg=>hn (.inl g);have hr:Pth.Bo k x y=0:=by
  rcases Pth.N8 hp with ⟨g,-⟩ | ⟨-,g,-⟩
  ·exact absurd rfl g
  ·exact g
 unfold tail at h;cases m with
 | false =>
  have hk:k=false:=by
   cases k with
   | false=>rfl
   | true=>exact absurd (.inr ⟨rfl,rfl⟩) hn
  subst hk;split at h
  ·rw [if_neg jD] at h;injection h with q1 q2
   subst q1 q2;refine .inr ⟨rfl,?_,λg=>(by cases g)⟩;unfold right start;simp [Iv,hr]
  ·rw [if_pos rfl] at h;injection h with q1 q2;subst q1 q2;exact t555
 | true =>
  split at h
  ·rw [if_pos rfl] at h;exact Aj0 hp hr rfl rfl rfl rfl rfl ⟨by show (-1:Int)<=-1;omega,by show (-1:Int)<=_;omega⟩ h
  ·rename_i b t
   rw [if_neg jD] at h;split at h
   ·injection h with q1 q2;subst q1 q2;exact t501
   obtain ⟨⟨e1,d1⟩,h1⟩:∃ z,params [] (Bk t) (start true k x y)=z:=⟨_,rfl⟩
   obtain ⟨g0,g1,g2,g3,g4,g5,g6⟩:=Mx _ _ _ h1;rw [h1] at h;by_cases he:e1 ≠ 0
   ·rw [if_pos he] at h;injection h with q1 q2
    subst q1;left;unfold Told;omega
   ·rw [if_neg he] at h;exact Aj0 hp hr g1 g2 g3 g4 g5 (g6 ⟨by show (-1:Int)<=-1;omega,by show (-1:Int)<=_;omega⟩) h
theorem Ast {n:Nat} (hn:n<8) {r:L} {e:Int} {d:Com} (h:body n r=(e,d)):Aa9 e d:=by
 have t501:Aa9 501 zero:=.inl (.inr (.inl rfl));have plain:∀ k:Nat,4<=k->k<8->Aa9 0 { zero with verb:=(k:Int) }:=λk h4 h8=>by
  refine .inr ⟨rfl,?_,λg=>?_⟩
  ·match k,h4,h8 with
   | 4,_,_ | 5,_,_ | 6,_,_ | 7,_,_=>decide
  ·simp only at g;omega
 unfold body at h;split at h
 ·rename_i hv
  unfold Jr at h;split at h
  ·injection h with q1 q2;subst q1 q2;exact t501
  ·rename_i hx
   injection h with q1 q2
   subst q1 q2;have hN:Jv (r.drop 1)=true:=by
    cases g:Jv (r.drop 1) with
    | true=>rfl
    | false=>exact absurd (.inr g) hx
   generalize r.drop 1=N at hN ⊢;refine .inr ⟨rfl,?_,λg=>?_⟩
   ·unfold right;rcases hv with rfl | rfl<;>simp [Iv,zero,hN]
   ·simp only at g;omega
 ·split at h
  ·exact Ads h
  ·split at h
   ·exact Ads h
   ·split at h
    ·injection h with q1 q2;subst q1 q2;exact plain 6 jO jO
    ·split at h
     · injection h with q1 q2;subst q1 q2;exact plain n jO hn
     · injection h with q1 q2;subst q1 q2;exact t501
theorem Ao1 {s:L} {e:Int} {d:Com} (h:parse s=(e,d)):(e=0/\right d=true/\(d.verb=2->d.wide=true\/Ao (print d)=-1))\/(e ≠ 0/\d=zero/\500<=e/\e<556):=by
 have told:∀ e,Told e->e ≠ 0/\500<=e/\e<556:=λe h=>by unfold Told at h;omega
 have hraw:∀ e d,raw s=(e,d)->Aa9 e d:=by
  intro e d h;unfold raw at h;split at h
  ·injection h with q1 q2;subst q1;exact .inl (.inl rfl)
  ·split at h
   ·injection h with q1 q2;subst q1;exact .inl (.inl rfl)
   ·rename_i v hv
    exact Ast (Asa hv).1 h
 unfold parse at h;obtain ⟨⟨e1,d1⟩,h1⟩:∃ z,raw s=z:=⟨_,rfl⟩
 rw [h1] at h;simp only at h;rcases hraw _ _ h1 with g | ⟨rfl,g2,g3⟩
 ·obtain ⟨k1,k2,k3⟩:=told _ g;rw [if_neg k1] at h;injection h with q1 q2
  subst q1 q2;exact .inr ⟨k1,rfl,k2,k3⟩
 ·rw [if_pos rfl] at h;injection h with q1 q2
  subst q1 q2;exact .inl ⟨rfl,g2,g3⟩
end Cmd
end
section
open Utf
namespace Pth
open Lex (sl Ee Co)
open Mbx (S take Cn I7 words more Ll skip Bi isS Ga)
def sm (k:S):S:=(k.1,sl k.2)
theorem A1j (l:List Lex.Tok):(l.map Lex.Tok.low).map Lex.Fi=(l.map Lex.Fi).map sm:=by
 rw [List.map_map,List.map_map];rfl
theorem Jz (x:List UInt8) {n:UInt8} (h:n.toNat<65\/(90<n.toNat/\n.toNat<97)\/122<n.toNat):sl x=[n] ↔ x=[n]:=by
 constructor
 ·intro e;match x,e with
  | [c],e =>
   injection e with e _
   have:c.toNat=n.toNat:=by rw [<- Lex.Dx c h,e]
   rw [UInt8.toNat_inj.1 this]
 ·rintro rfl;show [Af n]=[n]
  have:(Af n).toNat=n.toNat:=by rw [Lex.Dx n h]
  rw [UInt8.toNat_inj.1 this]
theorem Ag2 (k:S) {n:UInt8} (h:n.toNat<65\/(90<n.toNat/\n.toNat<97)\/122<n.toNat):sm k=(2,[n]) ↔ k=(2,[n]):=by
 obtain ⟨a,x⟩:=k;constructor
 ·intro e;injection e with e1 e2
  rw [Jz x h] at e2;rw [e2,show a=2 from e1]
 ·rintro e;injection e with e1 e2
  subst e1;rw [<- Jz x h] at e2;show ((2:Int),sl x)=_;rw [e2]
theorem Te:∀ l:List S,skip (l.map sm)=skip l
 | []=>rfl
 | k::t=>by
  rw [List.map_cons,skip,skip,Te t];rfl
theorem N4:∀ l:List S,more (l.map sm)=(sl (more l).1,(more l).2)
 | []=>rfl
 | [_]=>rfl
 | d::a::t=>by
  rw [List.map_cons,List.map_cons,more,more,N4 t];have hs:=Ag2 d (n:=46) jD;by_cases h:d=(2,[46])/\a.1=0
  ·rw [if_pos h,if_pos ⟨hs.2 h.1,h.2⟩];simp only [sl,List.map_cons,List.map_append];rfl
  ·rw [if_neg h,if_neg λe=>h ⟨hs.1 e.1,e.2⟩];rfl
def o1 (o:Option (List UInt8 × Nat)):Option (List UInt8 × Nat):=o.map λp=>(sl p.1,p.2)
theorem Lm:∀ l:List S,words (l.map sm)=o1 (words l)
 | []=>rfl
 | k::t=>by
  rw [List.map_cons,words,words,N4];show (if k.1=0 then _ else _)=_;by_cases h:k.1=0
  ·rw [if_pos h,if_pos h];simp only [o1,Option.map_some,sl,List.map_append];rfl
  ·rw [if_neg h,if_neg h];rfl
theorem Aoc:∀ l:List S,Cn (l.map sm)=o1 (Cn l)
 | []=>rfl
 | k::t=>by
  have hw:=Lm (k::t);rw [List.map_cons] at hw ⊢;rw [Cn,Cn,hw];show (if k.1=1 then _ else _)=_;by_cases h:k.1=1
  · rw [if_pos h,if_pos h];rfl
  · rw [if_neg h,if_neg h]
theorem Ayj:∀ l:List S,I7 (l.map sm)=o1 (I7 l)
 | []=>rfl
 | k::t=>by
  have hw:=Lm (k::t);rw [List.map_cons] at hw ⊢;rw [I7,I7,hw];show (if k.1=5 then _ else _)=_;by_cases h:k.1=5
  ·rw [if_pos h,if_pos h];have e1:Co 5 k.2=91::(k.2 ++ [93]):=rfl;have e2:Co 5 (sm k).2=91::(sl k.2 ++ [93]):=rfl;rw [e1,e2];simp only [o1,Option.map_some,sl,List.map_cons,List.map_append,List.map_nil];rfl
  ·rw [if_neg h,if_neg h]
def o2 (o:Option (List UInt8 × List UInt8 × Nat)):Option (List UInt8 × List UInt8 × Nat):=o.map λp=>(sl p.1,sl p.2.1,p.2.2)
theorem Aze (l:List S):(l.map sm).head? = some (2,[64]) ↔ l.head? = some (2,[64]):=by
 cases l with
 | nil=>exact Iff.rfl
 | cons k t =>
  rw [List.map_cons,List.head?_cons,List.head?_cons,Option.some.injEq,Option.some.injEq];exact Ag2 k jD
theorem Awr (l:List S) (x:List UInt8) (b:Nat):Ll (l.map sm) (sl x) b=o2 (Ll l x b):=by
 have hd:∀ n,(l.map sm).drop n=(l.drop n).map sm:=λn=>by rw [List.map_drop]
 unfold Ll;simp only [hd,Te,Ayj,Aze];by_cases h:(l.drop b).head? = some (2,[64])
 ·rw [if_pos h,if_pos h];cases I7 (l.drop (b+1+skip (l.drop (b+1)))) with
  | none=>rfl
  | some p=>rfl
 ·rw [if_neg h,if_neg h];rfl
theorem Aws (l:List S):take (l.map sm)=o2 (take l):=by
 have hd:∀ n,(l.map sm).drop n=(l.drop n).map sm:=λn=>by rw [List.map_drop]
 unfold take;rw [Te,hd,Aoc];cases Cn (l.drop (skip l)) with
 | none=>rfl
 | some p =>
  show Ll (l.map sm) (sl p.1) (skip l+p.2+skip ((l.map sm).drop (skip l+p.2)))=_;rw [hd,Te];exact Awr l p.1 _
theorem Art (l:List S):mid (l.map sm)=(mid l).map sm:=by
 unfold mid;rw [jai,List.map_take,List.map_drop]
theorem Arj (l:List S) (i:Nat) {n:UInt8} (h:n.toNat<65\/(90<n.toNat/\n.toNat<97)\/122<n.toNat):isS (l.map sm) i [n]=isS l i [n]:=by
 unfold isS;rw [List.getElem?_map];cases l[i]? with
 | none=>rfl
 | some k =>
  simp only [Option.map_some,Option.some.injEq,Ag2 k h]
theorem Aqh (l:List S):within (l.map sm)=within l:=by
 unfold within;rw [jai,Arj l _ jD,Arj l _ jD,Art,List.any_map];rfl
theorem Zg (x:List UInt8) (n:Bool) (y:List UInt8):Eg n (sl x) (sl y)=Eg n x y:=by
 rw [Bool.eq_iff_iff,Jh,Jh];have h1:(sl x).map Af=x.map Af:=by
  rw [sl,List.map_map];exact List.map_congr_left λc _=>Mbx.Wd c
 rw [h1];have h2:sl y=[] ↔ y=[]:=List.map_eq_nil_iff;rw [h2]
def o3 (o:Option (Bool × List UInt8 × List UInt8)):Option (Bool × List UInt8 × List UInt8):=o.map λp=>(p.1,sl p.2.1,sl p.2.2)
theorem Avm (m:List S):Eh (m.map sm)=o3 (Eh m):=by
 unfold Eh;rw [jai,Aws];by_cases h0:m.length=0
 ·rw [if_pos h0,if_pos h0];rfl
 rw [if_neg h0,if_neg h0];have hh:(m.map sm).headD (0,[])=sm (m.headD (0,[])):=by
  cases m with
  | nil=>rfl
  | cons a b=>rfl
 rw [hh];show (if m.length=1/\(m.headD (0,[])).1=0 then (if Eg false (sl (m.headD (0,[])).2) (sl [])=true then _ else _) else _)=_;rw [Zg];by_cases h1:m.length=1/\(m.headD (0,[])).1=0
 ·rw [if_pos h1,if_pos h1];split
  ·rfl
  ·rfl
 ·rw [if_neg h1,if_neg h1];cases take m with
  | none=>rfl
  | some p =>
   obtain ⟨x,y,n⟩:=p;show (if n=m.length then some (false,sl x,sl y) else none)=o3 (if n=m.length then some (false,x,y) else none);split
   · rfl
   · rfl
theorem Azs:∀ y:List UInt8,Mbx.Ur (sl y)=Mbx.Ur y
 | []=>rfl
 | c::t=>by
  rw [Lex.Tf,Mbx.Ur,Mbx.Ur,Lex.Af6,jai];have h:decide ((Af c).toNat=91)=decide (c.toNat=91):=by simp only [Lex.s91]
  rw [h];cases Lex.lit t<;>rfl
theorem An6 {y:List UInt8} (h:∀ c ∈ y,c.toNat<128):Dom.Cz (sl y)=Dom.Cz y:=by
 have hy:=Lex.Mm h;have e1:y=Ah (Lab.chars y):=(Dv y h).symm;have e2:sl y=Ah (Lab.chars (sl y)):=(Dv (sl y) hy).symm;have r1:=Lab.Di h;have r2:=Lab.Di hy;have a1:∀ z:List UInt8,(∀ c ∈ z,c.toNat<128)->Norm.Eb (Lab.chars z):=λz hz c hc=>by
  obtain ⟨b,hb,rfl⟩:=List.mem_map.1 hc;have:=hz b hb;omega
 have f:Fold.fold (Lab.chars (sl y))=Fold.fold (Lab.chars y):=by
  rw [Norm.Fu (a1 _ hy),Norm.Fu (a1 _ h)];unfold Lab.chars sl;rw [List.map_map,List.map_map,List.map_map];refine List.map_congr_left λb hb=>?_;have hb1:=Lex.Vc b;simp only [Function.comp_apply];rw [hb1];split<;>(repeat' split)<;>omega
 rw [e1,<- e1,e2,Dom.Mk r2,f,<- Dom.Mk r1,<- e1]
theorem A29 {y:List UInt8} (h:∀ c ∈ y,c.toNat<128):(Dom.Cu (sl y)).1=(Dom.Cu y).1:=by
 unfold Dom.Cu;rw [An6 h]
theorem Aph {x y:List UInt8} (hx:∀ c ∈ x,c.toNat<128) (hy:∀ c ∈ y,c.toNat<128):Ga (sl x) (sl y)=Ga x y:=by
 have h1:(sl x=[])=(x=[]):=propext List.map_eq_nil_iff;have h2:(Au x).2=-1:=Lex.D0 hx;have h3:(Au (sl x)).2=-1:=Lex.D0 (Lex.Mm hx);have h4:(Au y).2=-1:=Lex.D0 hy;have h5:(Au (sl y)).2=-1:=Lex.D0 (Lex.Mm hy);have h6:(sl x).all Lex.Aw=x.all Lex.Aw:=by
  rw [sl,List.all_map];congr 1;exact funext Lex.Hq
 have h7:Mbx.Kg (sl y)=Mbx.Kg y:=by
  unfold Mbx.Kg;rw [h4,h5,Azs]
 have h8:Mbx.E7 (sl y)=Mbx.E7 y:=Mbx.Ae8 y;unfold Ga;rw [jai,h2,h3,h6,h7,h8,A29 hy];simp only [h1]
theorem Apj {n:Bool} {x y:List UInt8} (hx:∀ c ∈ x,c.toNat<128) (hy:∀ c ∈ y,c.toNat<128):Bo n (sl x) (sl y)=Bo n x y:=by
 have h1:(sl x=[])=(x=[]):=propext List.map_eq_nil_iff;have h2:(sl y=[])=(y=[]):=propext List.map_eq_nil_iff;unfold Bo;rw [Aph hx hy,Zg];simp only [h1,h2]
theorem Ao0 {l:List S} (h:Cmd.Low l):J0 (l.map sm)=((J0 l).1,(J0 l).2.1,sl (J0 l).2.2.1,sl (J0 l).2.2.2):=by
 unfold J0;rw [Aqh,Art,Avm];by_cases hw:within l=true
 ·rw [if_pos hw,if_pos hw];cases hr:Eh (mid l) with
  | none=>rfl
  | some p =>
   obtain ⟨k,x,y⟩:=p;have hm:Cmd.Low (mid l):=λj hj=>h j (List.mem_of_mem_drop (List.mem_of_mem_take hj));obtain ⟨h1,h2⟩:=Cmd.Ak7 hm hr;show (if Bo k (sl x) (sl y)=0 then ((0:Int),k,sl x,sl y) else (Bo k (sl x) (sl y),false,[],[]))=_;rw [Apj h1 h2];simp only;split
   · rfl
   · rfl
 ·rw [if_neg hw,if_neg hw];rfl
theorem U3 {s:List UInt8} (h:∀ c ∈ s,c.toNat<128):Bc (sl s)=((Bc s).1,(Bc s).2.1,sl (Bc s).2.2.1,sl (Bc s).2.2.2):=by
 unfold Bc;rw [Lex.A3x h];by_cases h0:(Ee s).1 ≠ 0
 ·rw [if_pos h0,if_pos h0];rfl
 ·rw [if_neg h0,if_neg h0,A1j];refine Ao0 λk hk c hc=>?_;rcases Lex.Jg s with ⟨-,e⟩ | ⟨-,E,p,e,-⟩ | ⟨-,us,e,hcu,-⟩
  ·rw [e] at hk;cases hk
  ·rw [e] at hk;cases hk
  ·rw [e] at hk;obtain ⟨t,ht,rfl⟩:=List.mem_map.1 hk;exact h c (Cmd.Aij hcu t ht c hc)
end Pth
end
section
open Utf
namespace Cmd
open Lex (sl Tf)
def Ut (c:Com):Com:=⟨c.verb,sl c.name,c.null,sl c.loc,sl c.dom,c.size,c.eight,c.wide⟩
def o4 (p:Int × Com):Int × Com:=(p.1,Ut p.2)
theorem Aei (l:L):(sl l).map Af=l.map Af:=by
 rw [sl,List.map_map];exact List.map_congr_left λc _=>Mbx.Wd c
theorem s32 (c:UInt8):((Af c).toNat=32)=(c.toNat=32):=Lex.Dx c jD
theorem s62 (c:UInt8):((Af c).toNat=62)=(c.toNat=62):=Lex.Dx c jD
theorem Yo:∀ (m:Nat) (l:L),ends m (sl l)=ends m l
 | _,[]=>rfl
 | m,[c]=>by
  rw [ends.eq_def,ends.eq_def m [c]];simp only [List.map_cons,List.map_nil,Lex.s34,Lex.s91,Lex.s92,Lex.s93,s62]
 | m,c::d::r=>by
  have h1:=λk=>Yo k (d::r);have h2:=λk=>Yo k r;rw [ends.eq_def,ends.eq_def m (c::d::r)];simp only [List.map_cons,Lex.s34,Lex.s91,Lex.s92,Lex.s93,s62] at h1 ⊢;simp only [h1,h2]
theorem Lt:∀ l:L,Bk (sl l)=(Bk l).map sl
 | []=>rfl
 | c::t=>by
  rw [Tf,Bk,Bk,Lt t];simp only [s32];by_cases h:c.toNat=32
  ·rw [if_pos h,if_pos h];rfl
  ·rw [if_neg h,if_neg h];cases Bk t<;>rfl
theorem W9 (s:L):keyOf (sl s)=keyOf s:=by
 have h:((λc:UInt8=>c != 61) ∘ Af)=λc=>c != 61:=funext λc=>by
  have:=Lex.Dl (p:=λc=>(Af c != 61) == (c != 61)) (by decide +kernel) c;simpa using this
 unfold keyOf;rw [sl,List.takeWhile_map,h];exact Aei _
theorem Aio (c:UInt8):Cm (Af c)=Cm c:=by
 have:=Lex.Dl (p:=λc=>Cm (Af c) == Cm c) (by decide +kernel) c;simpa using this
theorem Ane {l:L} (h:l.all Cm=true):sl l=l:=by
 have:∀ c ∈ l,Af c=c:=λc hc=>(Oy (jar.1 h c hc)).2.2.1;exact (List.map_congr_left this).trans (List.map_id' l)
theorem Zl (l:L):number (sl l)=number l:=by
 have h1:(sl l).all Cm=l.all Cm:=by
  rw [sl,List.all_map];congr 1;exact funext Aio
 unfold number;rw [jai,h1];by_cases h:1<=l.length/\l.length<=8/\l.all Cm=true
 ·rw [if_pos h,if_pos h,Ane h.2.2]
 ·rw [if_neg h,if_neg h]
theorem Age (had:List L) (c:Com) (s:L):one had (Ut c) (sl s)=o4 (one had c s):=by
 have hd:(sl s).drop 5=sl (s.drop 5):=by simp only [sl,List.map_drop]
 unfold one;rw [W9,hd,Zl,Aei];split
 ·rfl
 ·split
  ·rfl
  ·split
   ·cases number (s.drop 5) with
    | none=>rfl
    | some n =>
     show (if 16777216<n then _ else _)=o4 (if 16777216<n then _ else _);split
     ·rfl
     ·rfl
   ·split
    ·rfl
    ·split
     ·rfl
     ·split
      · rfl
      · rfl
theorem Zt:∀ (l had:List L) (c:Com),params had (l.map sl) (Ut c)=o4 (params had l c)
 | [],_,_=>rfl
 | s::t,had,c=>by
  rw [List.map_cons,params,params,Age,W9];show (if (one had c s).1 ≠ 0 then o4 (one had c s) else params (keyOf s::had) (t.map sl) (Ut (one had c s).2))=_;rw [Zt t];split
  · rfl
  · rfl
theorem Aj1 {p:L} (h:∀ c ∈ p,c.toNat<128) (c:Com):low (sl p) (Ut c)=o4 (low p c):=by
 have h1:=(Gh p).2 h;have h2:=(Gh (sl p)).2 (Lex.Mm h);unfold low;rw [h1,h2,if_neg jS,if_neg jS];rfl
theorem A13 (m:Bool) {p:L} (q:L) (h:∀ c ∈ p,c.toNat<128) (c:Com):tail m (sl p) (sl q) (Ut c)=o4 (tail m p q c):=by
 unfold tail;cases q with
 | nil =>
  show (if m=true then low (sl p) (Ut c) else (0,Ut c))=o4 (if m=true then low p c else (0,c));rw [Aj1 h];split
  ·rfl
  ·rfl
 | cons b t =>
  show (if m=false then ((555:Int),zero) else if (Af b).toNat ≠ 32 then (501,zero) else if (params [] (Bk (sl t)) (Ut c)).1 ≠ 0 then params [] (Bk (sl t)) (Ut c) else low (sl p) (params [] (Bk (sl t)) (Ut c)).2)=_;rw [Lt,Zt];simp only [ne_eq,s32];split
  ·rfl
  ·split
   ·rfl
   ·show (if ¬ (params [] (Bk t) c).1=0 then o4 (params [] (Bk t) c) else low (sl p) (Ut (params [] (Bk t) c).2))=_;rw [Aj1 h];split
    · rfl
    · rfl
theorem Ao3 (m:Bool) {p:L} (q:L) (h:∀ c ∈ p,c.toNat<128):Ip m (sl p) (sl q)=o4 (Ip m p q):=by
 unfold Ip;rw [Pth.U3 h];have:=A13 m q h (start m (Pth.Bc p).2.1 (Pth.Bc p).2.2.1 (Pth.Bc p).2.2.2);show (if (Pth.Bc p).1 ≠ 0\/(m=false/\(Pth.Bc p).2.1=true) then ((553:Int),zero) else tail m (sl p) (sl q) (Ut (start m (Pth.Bc p).2.1 (Pth.Bc p).2.2.1 (Pth.Bc p).2.2.2)))=_;rw [this];split
 · rfl
 · rfl
theorem Aj4 (m:Bool) {r:L} (h:∀ c ∈ r,c.toNat<128):Mo m (sl r)=o4 (Mo m r):=by
 have ht:∀ n (z:L),(sl z).take n=sl (z.take n):=λn z=>by simp only [sl,List.map_take]
 have hd:∀ n (z:L),(sl z).drop n=sl (z.drop n):=λn z=>by simp only [sl,List.map_drop]
 unfold Mo;generalize (if m=true then 6 else 4)=w;generalize (if m=true then Hd else toK)=wk;rw [ht,Aei,hd];unfold behind;rw [Yo];split
 ·rfl
 ·cases ends 0 (r.drop w) with
  | none=>rfl
  | some n =>
   show Ip m ((sl (r.drop w)).take n) ((sl (r.drop w)).drop n)=_;rw [ht,hd,Ao3 m _ (λc hc=>h c (List.mem_of_mem_drop (List.mem_of_mem_take hc)))]
theorem Az9 (s:L):Jv (sl s)=Jv s:=by
 have h:(Pz ∘ Af)=Pz:=funext λc=>by
  have:=Lex.Dl (p:=λc=>Pz (Af c) == Pz c) (by decide +kernel) c;simpa using this
 unfold Jv;rw [sl,List.isEmpty_map,jai,List.all_map,h]
theorem Atq (v:Nat) (r:L):Jr v (sl r)=o4 (Jr v r):=by
 have hd:(sl r).drop 1=sl (r.drop 1):=by simp only [sl,List.map_drop]
 have hn:(sl r=[])=(r=[]):=propext List.map_eq_nil_iff;unfold Jr;rw [hd,Az9];simp only [hn];split
 · rfl
 · rfl
theorem Ax4 (v:Nat) {r:L} (h:∀ c ∈ r,c.toNat<128):body v (sl r)=o4 (body v r):=by
 have hn:(sl r=[])=(r=[]):=propext List.map_eq_nil_iff;unfold body;rw [Atq,Aj4 true h,Aj4 false h];simp only [hn]
 repeat' split
 all_goals rfl
theorem A2f (s:L):Fk (sl s)=Fk s:=by
 have ht:(sl s).take 4=sl (s.take 4):=by simp only [sl,List.map_take]
 have h4:((sl s)[4]? = some 32)=(s[4]? = some 32):=by
  rw [sl,List.getElem?_map];cases s[4]? with
  | none=>rfl
  | some c =>
   have:=s32 c;apply propext;simp only [Option.map_some,Option.some.injEq];constructor
   ·intro e;rw [e] at this;exact UInt8.toNat_inj.1 (this ▸ rfl:c.toNat=32)
   ·rintro rfl;rfl
 unfold Fk;rw [ht,Aei,jai];simp only [h4]
theorem U3 {s:L} (h:∀ c ∈ s,c.toNat<128):parse (sl s)=o4 (parse s):=by
 have hd:(sl s).drop 4=sl (s.drop 4):=by simp only [sl,List.map_drop]
 have hr:raw (sl s)=o4 (raw s):=by
  unfold raw;rw [jai,A2f,hd];split
  ·rfl
  ·cases Fk s with
   | none=>rfl
   | some v=>exact Ax4 v λc hc=>h c (List.mem_of_mem_drop hc)
 unfold parse;rw [hr];show (if (raw s).1=0 then o4 (raw s) else ((raw s).1,zero))=_;split
 ·rfl
 ·rfl
theorem Zu {s:L} (h:510<s.length):parse s=(500,zero):=by
 have:raw s=(500,zero):=by unfold raw;rw [if_pos h]
 unfold parse;rw [this,if_neg jD]
theorem A0f {t:L} (h:t.length<=505):parse ([78,79,79,80,32] ++ t)=(0,{ zero with verb:=6 }):=by
 have e:raw ([78,79,79,80,32] ++ t)=(0,{ zero with verb:=6 }):=by
  have:=Sw (n:=6) jD (r:=32::t) (.inr ⟨t,rfl⟩) (by show (78::79::79::80::32::t).length<=510;simp only [jac];omega);exact this
 unfold parse;rw [e,if_pos rfl]
theorem A6o (t:L):parse (88::t)=(500,zero):=by
 have hv:Fk (88::t)=none:=by
  unfold Fk;split
  ·rename_i h
   rw [List.findIdx?_eq_none_iff];intro w hw;have e:∃ z,((88::t).take 4).map Af=120::z:=⟨_,rfl⟩
   obtain ⟨z,e⟩:=e;rw [e];simp only [Hp,jal,List.not_mem_nil,or_false] at hw;rcases hw with rfl | rfl | rfl | rfl | rfl | rfl | rfl | rfl<;>simp
  ·rfl
 have:raw (88::t)=(500,zero):=by
  unfold raw;rw [hv];simp
 unfold parse;rw [this,if_neg jD]
end Cmd
end
section
open Utf
namespace Cmd
open Lex (sl)
theorem A6e (had:List L) (c:Com) (s:L):one had c (sl s)=one had c s:=by
 have hd:(sl s).drop 5=sl (s.drop 5):=by simp only [sl,List.map_drop]
 unfold one;rw [W9,hd,Zl,Aei]
theorem Ad3:∀ (l had:List L) (c:Com),params had (l.map sl) c=params had l c
 | [],_,_=>rfl
 | s::t,had,c=>by rw [List.map_cons,params,params,A6e,W9,Ad3 t]
theorem Agj (r:L) (c:Com):params [] (Bk (sl r)) c=params [] (Bk r) c:=by rw [Lt];exact Ad3 _ _ _
theorem Ax1 (r:L):∀ x ∈ Bk (sl r),sl x=x:=by
 rw [Lt];intro x hx;obtain ⟨y,-,rfl⟩:=List.mem_map.1 hx;exact Aei y
def Bj (x:L):L:=x.takeWhile λc=>c != 61
def Om (x:L):L:=x.drop ((Bj x).length+1)
theorem Azn {x:L} (h:sl x=x):keyOf x=Bj x:=by
 have h1:∀ c ∈ x,Af c=c:=List.map_inj_left.1 (h.trans (List.map_id x).symm);exact (List.map_congr_left λc hc=>h1 c ((List.takeWhile_sublist _).subset hc)).trans (List.map_id _)
def Eh (c:Com) (v:L):Int × Com:=match number v with
 | none=>(501,c)
 | some n=>if 16777216<n then (552,c) else (0,{ c with size:=n })
def Qa (c:Com) (x k v:L):Int × Com :=
 if k=Kl then Eh c v
 else if x=Vt then (0,{ c with eight:=true })
 else if x=Kn then (0,{ c with wide:=true })
 else if x=Ax2 then (0,c)
 else (501,c)
theorem Q0 {x:L} (h:sl x=x) (had:List L) (c:Com):one had c x=if Bj x ≠ Kl/\Bj x ≠ Rq/\Bj x ≠ Kn then (555,c) else if Bj x ∈ had then (501,c) else Qa c x (Bj x) (Om x):=by
 have hm:x.map Af=x:=h;unfold one Qa;rw [Azn h,hm];by_cases hk:Bj x=Kl
 ·have hv:Om x=x.drop 5:=by unfold Om;rw [hk];rfl
  rw [if_pos hk,if_pos hk,hv];rfl
 ·rw [if_neg hk,if_neg hk]
theorem Azm (x:L):(Bj x).length<=x.length:=(List.takeWhile_sublist _).length_le
theorem Aq6:∀ (l:L) (a:Nat),l.all Cm=true->Lib.decFrom a l=some (l.foldl (λa c=>a*10+(c.toNat - 48)) a)
 | [],_,_=>rfl
 | c::l,a,h=>by
  rw [List.all_cons,jag] at h;have hc:48<=c.toNat/\c.toNat<=57:=by simpa [Cm] using h.1
  rw [Lib.decFrom,Lib.digitVal,if_pos hc,List.foldl_cons];exact Aq6 l _ h.2
theorem Al3:∀ (l:L) (a:Nat),l.all Cm=true->l.foldl (λa c=>a*10+(c.toNat - 48)) a<(a+1)*10 ^ l.length
 | [],a,_=>by simp
 | c::l,a,h=>by
  rw [List.all_cons,jag] at h;have hc:48<=c.toNat/\c.toNat<=57:=by simpa [Cm] using h.1
  rw [List.foldl_cons];refine jas (Al3 l _ h.2) ?_;rw [jac,Nat.pow_succ,Nat.mul_comm (10 ^ l.length) 10,<- Nat.mul_assoc];exact Nat.mul_le_mul_right _ jO
theorem A6n {l:L} (h8:l.length<=8) (h:l.all Cm=true):val l<100000000:=by
 have h1:=Al3 l 0 h;rw [Nat.zero_add,Nat.one_mul] at h1;exact jas h1 (Nat.pow_le_pow_right (show 0<10 by decide) h8)
theorem Ahu {v:L} {n:Nat} (h:number v=some n):Lib.atoi v=some (n:Int)/\v.length<=8/\v ≠ []/\v.all Cm=true/\n<100000000:=by
 unfold number at h;split at h
 ·rename_i hn
  obtain ⟨h1,h2,h3⟩:=hn;injection h with h
  match v,h1 with
  | b::r,_ =>
   have hb:48<=b.toNat/\b.toNat<=57:=by
    rw [List.all_cons,jag] at h3;simpa [Cm] using h3.1
   have e1:¬ (b == 45)=true:=λe=>by rw [eq_of_beq e] at hb;revert hb;decide
   have e2:¬ (b == 43)=true:=λe=>by rw [eq_of_beq e] at hb;revert hb;decide
   have hd:=Aq6 (b::r) 0 h3;refine ⟨?_,h2,by simp,h3,?_⟩
   ·rw [Lib.atoi,if_neg e1,if_neg e2,Lib.decNat,if_neg jS,hd,<- h];rfl
   ·rw [<- h];exact A6n h2 h3
 ·cases h
theorem Akk {v:L} (h:number v=none):v=[]\/8<v.length\/v.all Cm=false:=by
 unfold number at h;split at h
 ·cases h
 ·rename_i hn
  by_cases h1:v=[]
  ·exact .inl h1
  ·by_cases h2:8<v.length
   ·exact .inr (.inl h2)
   ·refine .inr (.inr ?_);rw [<- Bool.not_eq_true];intro h3;exact hn ⟨List.length_pos_iff.2 h1,by omega,h3⟩
theorem Nv (n:Nat):Lib.decDigits n=num n:=by
 induction n using Nat.strongRecOn with
 | ind n ih =>
  rw [Lib.decDigits,num];by_cases h:n<10
  · rw [dif_pos h,dif_pos h]
  · rw [dif_neg h,dif_neg h,ih (n / 10) jO]
theorem Xh {n:Nat} (h:n<100000000000000000000):(num n).length<=20:=(Ms n).2.2.2 19 h
theorem Azi {z:Int} (h0:-9223372036854775808<=z) (h1:z<=9223372036854775807):(Lib.itoa z).length<=22:=by
 unfold Lib.itoa;split
 ·rw [jac,Nv];have:=Xh (n:=z.natAbs) jO;omega
 ·rw [Nv];have:=Xh (n:=z.toNat) jO;omega
theorem Anr (c:Com) (h0:-9223372036854775808<=c.size) (h1:c.size<=9223372036854775807):(extras c).length<=100:=by
 unfold extras Alm A2w;simp only [jab];have e1:(if 0<=c.size then [32,83,73,90,69,61] ++ num c.size.toNat else if c.size=-1 then ([]:L) else [32,83,73,90,69,61] ++ 45::num c.size.natAbs).length<=30:=by
  split
  ·have:=Xh (n:=c.size.toNat) jO;rw [jab];simp only [jac,List.length_nil];omega
  ·split
   ·simp
   ·have:=Xh (n:=c.size.natAbs) jO;rw [jab];simp only [jac,List.length_nil];omega
 have e2:(if c.eight=true then No else ([]:L)).length<=14:=by split<;>simp [No]
 have e3:(if c.wide=true then Wn else ([]:L)).length<=9:=by split<;>simp [Wn]
 omega
theorem Axb (v:Int):(word v).length<=4:=by
 by_cases hv:0<=v/\v<=7
 ·rw [To hv.1 hv.2];exact jaa _
 ·unfold word;by_cases h0:0<=v
  · rw [if_pos h0,List.getElem?_eq_none (by show 8<=_;omega)];simp
  · rw [if_neg h0];simp
theorem Aes (n:Nat):Lib.toUpperA (num n)=num n:=by
 refine (List.map_congr_left λc hc=>?_).trans (List.map_id _);have h:=jar.1 (Ms n).2.1 c hc;have:=Lex.Dl (p:=λc=>!Cm c || (Lib.upperB c == c)) (by decide +kernel) c;rw [h] at this;simpa using this
def N7 (c:Com):L:=(if c.size=-1 then [] else [32,115,105,122,101,61] ++ Lib.itoa c.size) ++ ((if c.eight then 32::Vt else []) ++ (if c.wide then 32::Kn else []))
theorem Aer (a b:L):Lib.toUpperA (a ++ b)=Lib.toUpperA a ++ Lib.toUpperA b:=List.map_append
theorem A0r (c:Com):Lib.toUpperA (N7 c)=extras c:=by
 obtain ⟨v,nm,k,x,y,z,e8,wd⟩:=c;unfold N7 extras;rw [Aer];simp only;congr 1
 ·by_cases h1:z=-1
  ·subst h1;rfl
  ·rw [if_neg h1];rw [Aer];by_cases h0:0<=z
   ·rw [if_pos h0,Lib.itoa,if_neg jO,Nv,Aes];rfl
   ·rw [if_neg h0,if_neg h1,Lib.itoa,if_pos jO,Nv];show _ ++ (Lib.upperB 45::Lib.toUpperA (num z.natAbs))=_;rw [Aes];rfl
 ·cases e8<;>cases wd<;>rfl
theorem Auy (c:Com):∀ b ∈ N7 c,b.toNat<128:=by
 intro b hb;unfold N7 at hb;simp only [jap] at hb;have hz:∀ n,∀ b ∈ Lib.decDigits n,b.toNat<128:=λn b hb=>by rw [Nv] at hb;exact (Oy (jar.1 (Ms n).2.1 b hb)).2.2.2
 rcases hb with hb | hb | hb
 ·split at hb
  ·cases hb
  ·rcases jap.1 hb with hb | hb
   ·exact (show ∀ b ∈ ([32,115,105,122,101,61]:L),b.toNat<128 by decide) b hb
   ·unfold Lib.itoa at hb;split at hb
    ·rcases jal.1 hb with rfl | hb
     · decide
     · exact hz _ b hb
    ·exact hz _ b hb
 ·split at hb
  ·exact (show ∀ b ∈ (32::Vt:L),b.toNat<128 by decide) b hb
  ·cases hb
 ·split at hb
  ·exact (show ∀ b ∈ (32::Kn:L),b.toNat<128 by decide) b hb
  ·cases hb
end Cmd
end
