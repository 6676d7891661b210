import Derived.Test.YthnhgmdlbfbhjaaGreatFoldB
import Derived.Test.YthnhgmdlbfbhjaaGreatPunyA
import Derived.Test.YthnhgmdlbfbhjaaGreatCtxAll
namespace Go.Proofs.YthnhgmdlbfbhjaaGreat
section
namespace Bidi
def I7 (b:Int):Bool:=b == 2 || b == 3 || b == 5
def has (l:List Int):Bool:=l.any λr=>I7 (Ao r)
def Ji (b:Int):Int:=if b=3 then 2 else if b=1\/b=2 then b else 0
def side:List Int->Int
 | []=>0
 | r::_=>Ji (Ao r)
def Wk:List Int->Int
 | []=>0
 | r::l=>if Ao r=6 then Wk l else Ao r
def stop (l:List Int):Int:=Wk l.reverse
def any (b:Int) (l:List Int):Bool:=l.any λr=>Ao r == b
def Pu (s:Int):Bool:=s == 2 || s == 3 || s == 4 || s == 5
def Sg (s:Int):Bool:=s == 1 || s == 4
def Ef (l:List Int):Bool :=
 if side l=2 then !any 1 l && Pu (stop l) && !(any 4 l && any 5 l)
 else if side l=1 then !has l && Sg (stop l) else false
def Et (l:List Int):Bool:=l.isEmpty || Ef l
theorem Fs {l:List Int} (h:l ≠ []):Et l=Ef l:=by
 cases l with
 | nil=>exact absurd rfl h
 | cons a l=>rfl
theorem Lf (l:List Int):side l=0\/side l=1\/side l=2:=by
 cases l with
 | nil=>exact .inl rfl
 | cons a l=>unfold side Ji;split<;>(try split)<;>omega
theorem Ac1 {l:List Int} (h:l ≠ []) (m:List Int):side (l ++ m)=side l:=by
 cases l with
 | nil=>exact absurd rfl h
 | cons a l=>rfl
theorem Mv (b:Int) (l m:List Int):any b (l ++ m)=(any b l || any b m):=by unfold any;rw [List.any_append]
theorem Zs (l m:List Int):has (l ++ m)=(has l || has m):=by unfold has;rw [List.any_append]
theorem Ko (l:List Int):has l=(any 2 l || any 3 l || any 5 l):=by
 unfold has any I7;induction l with
 | nil=>rfl
 | cons a l ih =>
  simp only [List.any_cons,ih];cases (Ao a == 2)<;>cases (Ao a == 3)<;>cases (Ao a == 5)<;>simp
theorem any_none {b:Int} {l:List Int} (h:∀ r ∈ l,Ao r ≠ b):any b l=false:=by
 unfold any;rw [List.any_eq_false];intro r hr;simpa using h r hr
theorem Tb:∀ {m:List Int} (l:List Int),(∀ r ∈ m,Ao r=6)->Wk (m ++ l)=Wk l
 | [],_,_=>rfl
 | a::m,l,h=>by
  rw [jah,Wk,if_pos (h a jS)];exact Tb l λr hr=>h r (by simp [hr])
theorem marks {l m:List Int} (hl:l ≠ []) (hm:∀ r ∈ m,Ao r=6):Et (l ++ m)=Et l/\stop (l ++ m)=stop l/\has (l ++ m)=has l:=by
 have h1:=Ac1 hl m;have h2:stop (l ++ m)=stop l:=by
  unfold stop;rw [List.reverse_append];exact Tb _ λr hr=>hm r (by simpa using hr)
 have hany:∀ b,b ≠ 6->any b (l ++ m)=any b l:=λb hb=>by
  rw [Mv,any_none (b:=b) (l:=m) λr hr=>by rw [hm r hr];exact λe=>hb e.symm,Bool.or_false]
 have h3:has (l ++ m)=has l:=by rw [Ko,Ko,hany 2 jD,hany 3 jD,hany 5 jD]
 refine ⟨?_,h2,h3⟩;rw [Fs hl,Fs (by simp [hl])];unfold Ef;rw [h1,h2,h3,hany 1 jD,hany 4 jD,hany 5 jD]
theorem Rs (l:List Int) (x:Int) (h:Ao x ≠ 6):stop (l ++ [x])=Ao x:=by
 unfold stop;rw [List.reverse_append];show Wk (x::l.reverse)=_;rw [Wk,if_neg h]
theorem Aju {b:Int} (h:Ji b=2):b=2\/b=3:=by
 unfold Ji at h;by_cases h3:b=3
 ·exact .inr h3
 ·rw [if_neg h3] at h;by_cases h4:b=1\/b=2
  · rw [if_pos h4] at h;exact .inl h
  · rw [if_neg h4] at h;omega
theorem Ajt {b:Int} (h:Ji b=1):b=1:=by
 unfold Ji at h;by_cases h3:b=3
 ·rw [if_pos h3] at h;omega
 ·rw [if_neg h3] at h;by_cases h4:b=1\/b=2
  · rw [if_pos h4] at h;exact h
  · rw [if_neg h4] at h;omega
theorem Ams {l:List Int} (h:side l=2):any 2 l=true\/any 3 l=true:=by
 cases l with
 | nil=>cases h
 | cons a l =>
  unfold any;simp only [List.any_cons,Bool.or_eq_true,beq_iff_eq];rcases Aju h with h | h
  · exact .inl (.inl h)
  · exact .inr (.inl h)
theorem Amr {l:List Int} (h:side l=1):any 1 l=true:=by
 cases l with
 | nil=>cases h
 | cons a l =>
  unfold any;simp only [List.any_cons,Bool.or_eq_true,beq_iff_eq];exact .inl (Ajt h)
theorem Q3:Ao 45=7:=by decide +kernel
theorem Atb {l:List Int} (hl:l ≠ []) (h:Et l=true):any 1 l=!has l/\(∀ x t,l=x::t->x ≠ 45)/\(∀ p x,l=p ++ [x]->x ≠ 45):=by
 rw [Fs hl] at h;have hst:side l ≠ 0/\(Pu (stop l)=true\/Sg (stop l)=true)/\any 1 l=!has l:=by
  unfold Ef at h;rcases Lf l with e | e | e
  ·rw [if_neg jO,if_neg jO] at h;cases h
  ·rw [if_neg jO,if_pos e,jag,Bool.not_eq_true'] at h;exact ⟨by omega,.inr h.2,by rw [h.1,Amr e];rfl⟩
  ·rw [if_pos e,jag,jag,Bool.not_eq_true'] at h;refine ⟨by omega,.inl h.1.2,?_⟩;rw [h.1.1,Ko];rcases Ams e with e2 | e2<;>rw [e2]<;>simp
 refine ⟨hst.2.2,λx t e hx=>?_,λp x e hx=>?_⟩
 ·apply hst.1;rw [e,hx];show Ji (Ao 45)=0;rw [Q3];rfl
 ·have:stop l=7:=by rw [e,hx,Rs _ _ (by rw [Q3];decide),Q3]
  rw [this] at hst;rcases hst.2.1 with h | h<;>exact absurd h jD
def Bx (c:Int):Bool:=(decide (97<=c) && decide (c<=122)) || (decide (65<=c) && decide (c<=90)) || (decide (48<=c) && decide (c<=57)) || c == 45
def Ag0 (c:Int):Bool:=!Bx c || (if c=45 then Ao c == 7 else if c<65 then Ao c == 4 else Ao c == 1)
theorem Afl:∀ i ∈ List.range 128,Ag0 (i:Nat)=true:=by decide +kernel
theorem Oe {c:Int} (h:Bx c=true):(c=45/\Ao c=7)\/(c ≠ 45/\c<65/\Ao c=4)\/(65<=c/\Ao c=1):=by
 have hb:0<=c/\c<128:=by
  unfold Bx at h;simp only [Bool.or_eq_true,jag,decide_eq_true_eq,beq_iff_eq] at h;omega
 have:=Afl c.toNat (by rw [List.mem_range];omega);rw [show ((c.toNat:Nat):Int)=c by omega] at this;unfold Ag0 at this;rw [h,Bool.not_true,Bool.false_or] at this;split at this
 ·exact .inl ⟨by assumption,by simpa using this⟩
 ·split at this
  · exact .inr (.inl ⟨by assumption,by assumption,by simpa using this⟩)
  · exact .inr (.inr ⟨by omega,by simpa using this⟩)
theorem plain {l p:List Int} {x:Int} (h:∀ c ∈ l,Bx c=true) (hl:l=p ++ [x]):Et l=(decide (65<=l.head!) && x != 45)/\has l=false:=by
 have hb:∀ c ∈ l,Ao c=7\/Ao c=4\/Ao c=1:=λc hc=>by rcases Oe (h c hc) with ⟨_,h⟩ | ⟨_,_,h⟩ | ⟨_,h⟩<;>simp [h]
 have hh:has l=false:=by
  rw [Ko,any_none λr hr=>by have:=hb r hr;omega,any_none λr hr=>by have:=hb r hr;omega,any_none λr hr=>by have:=hb r hr;omega];rfl
 refine ⟨?_,hh⟩;have hne:l ≠ []:=by rw [hl];simp
 have hx:=Oe (h x (by rw [hl];simp));have hstop:stop l=Ao x:=by rw [hl];exact Rs p x (by rcases hx with ⟨_,h⟩ | ⟨_,_,h⟩ | ⟨_,h⟩<;>omega)
 cases l with
 | nil=>exact absurd rfl hne
 | cons a t =>
  have ha:=Oe (h a jS);rw [Fs hne];show Ef (a::t)=(decide (65<=a) && x != 45)
  have hs:side (a::t)=Ji (Ao a):=rfl;unfold Ef;rw [hs,hh,hstop];rcases ha with ⟨rfl,h1⟩ | ⟨_,h2,h1⟩ | ⟨h2,h1⟩
  ·rw [h1];rfl
  ·rw [h1,decide_eq_false jO];rfl
  ·rw [h1,decide_eq_true h2];rcases hx with ⟨rfl,g1⟩ | ⟨g2,_,g1⟩ | ⟨g2,g1⟩
   · rw [g1];rfl
   · rw [g1,show (x != 45)=true by simpa using g2];rfl
   · rw [g1,show (x != 45)=true by rw [bne_iff_ne];omega];rfl
theorem Afj:∀ i ∈ List.range 10,Ao (48+(i:Nat))=4:=by decide +kernel
theorem Ad6 {c:Int} (h:48<=c/\c<=57):Ao c=4:=by
 have:=Afj (c - 48).toNat (by rw [List.mem_range];omega);rwa [show (48:Int)+((c - 48).toNat:Int)=c by omega] at this
theorem digits {l:List Int} (hl:l ≠ []) (h:Et l=true) {c:Int} (hc:48<=c/\c<=57):Et (l ++ [c])=!any 5 l/\side (l ++ [c])=side l/\stop (l ++ [c])=4:=by
 have h4:=Ad6 hc;have h1:=Ac1 hl [c];have h2:stop (l ++ [c])=4:=by rw [Rs _ _ jO,h4]
 refine ⟨?_,h1,h2⟩;rw [Fs hl] at h;rw [Fs jS];have a1:any 1 (l ++ [c])=any 1 l:=by rw [Mv];simp [any,h4]
 have a4:any 4 (l ++ [c])=true:=by rw [Mv];simp [any,h4]
 have a5:any 5 (l ++ [c])=any 5 l:=by rw [Mv];simp [any,h4]
 have ah:has (l ++ [c])=has l:=by rw [Zs];simp [has,I7,h4]
 unfold Ef at h ⊢;rw [h1,h2,a1,a4,a5,ah];rcases Lf l with e | e | e
 ·rw [if_neg jO,if_neg jO] at h;cases h
 ·rw [if_neg jO,if_pos e,jag,Bool.not_eq_true'] at h;rw [if_neg jO,if_pos e,h.1];rw [Ko] at h;simp only [Bool.or_eq_false_iff] at h;rw [h.1.2];rfl
 ·rw [if_pos e,jag,jag] at h;rw [if_pos e,h.1.1];simp [Pu]
end Bidi
end
section
open Go.RowKit Utf
theorem Dj {l:List Int} (h:Ad l=true):Ad (Fold.fold l)=true:=Kq (Gp false (Ib h))
namespace Lab
def C9 (r:Int):Bool:=r == 45 || (decide (2<=Bm r) && decide (Bm r<=5) && match Aj r with | none=>true | some y=>!y.soft && !y.out)
def Bp (bs:List UInt8):Bool:=bs.all λc=>decide (c.toNat<128)
def Cv (bs:List UInt8) (i:Nat):Int:=(((bs[i]?).getD 0).toNat:Int)
def Cw (bs:List UInt8):Bool:=Cv bs 0 == 45 || Cv bs (bs.length - 1) == 45 || (decide (3<bs.length) && Cv bs 2 == 45 && Cv bs 3 == 45)
def Cx (bs:List UInt8):Int :=
 if bs.length=0 then 13 else if 63<bs.length then 5 else if (bs.all λc=>Bidi.Bx (c.toNat:Int))=false then 8 else if Cw bs then 11 else 0
def nfc (l:List Int):List Int:=Norm.join (Norm.down false l)
def Fw (l:List Int):Bool:=(List.range l.length).any λi=>Ctx.Gt l (i:Nat) == 2 || (Ctx.Gt l (i:Nat) == 0 && !C9 l[i]!)
def Dg (l:List Int):Int :=
 if Bp (Ae l)=true\/nfc l ≠ l then 4 else if Cw (Ae l) then 11 else if Bm l[0]! = 4 then 10 else if Fw l then 8 else if Bidi.has l && !Bidi.Et l then 9 else if 59<(Puny.Bb l).length then 5 else 0
def Df (bs:List UInt8):Int:=if (A9 bs).2=-1 then Dg (ints (A9 bs).1) else 7
def sign:List UInt8:=[120,110,45,45]
def Eh (L:List Int):Int × List UInt8 × List UInt8 :=
 if Bp (Ae L)=false then (if Dg L=0 then (0,sign ++ Puny.Bb L,Ae L) else (Dg L,[],[]))
 else if (Ae L).take 4=sign then match Puny.Dt ((Ae L).drop 4) with
  | none=>(12,[],[])
  | some l=>if 63<(Ae L).length then (5,[],[]) else if Dg l ≠ 0 then (Dg l,[],[]) else if Puny.Bb l ≠ (Ae L).drop 4 then (12,[],[]) else (0,Ae L,Ae l)
 else if Cx (Ae L)=0 then (0,Ae L,Ae L) else (Cx (Ae L),[],[])
def Bj (bs:List UInt8):Int × List UInt8 × List UInt8:=if (A9 bs).2=-1 then Eh (Fold.fold (ints (A9 bs).1)) else (7,[],[])
theorem Gx {l:List Int} (h:Ad l=true):Df (Ae l)=Dg l:=by
 unfold Df;rw [D4 h,if_pos rfl,(Ce h).1]
theorem Ds {l:List Int} (h:Ad l=true):Bj (Ae l)=Eh (Fold.fold l):=by
 unfold Bj;rw [D4 h,if_pos rfl,(Ce h).1]
theorem Ga {a b:List Int} (ha:Ad a=true) (hb:Ad b=true) (h:Ae a=Ae b):a=b:=by
 have h1:=D4 ha;rw [h,D4 hb] at h1;have h2:=(Prod.mk.inj h1).1;rw [<- (Ce ha).1,<- (Ce hb).1,h2]
def Ae0 (x:Int):Bool:=decide (Fold.fo x=x) && decide (Aj x=none) && !Norm.syl x && decide (Bm x ≠ 0/\Bm x ≠ 1/\Bm x ≠ 8)
theorem Aje:∀ x ∈ [8204,8205,183,885,1523,1524,12539] ++ (List.range 10).map (λi:Nat=>(1632:Int)+i) ++ (List.range 10).map (λi:Nat=>(1776:Int)+i),Ae0 x=true:=by decide +kernel
theorem Al3 {x:Int} (h:Ctx.Cj x=true):Ae0 x=true:=by
 apply Aje;unfold Ctx.Cj at h;simp only [Bool.or_eq_true,beq_iff_eq,jag,decide_eq_true_eq] at h;simp only [jap,jal,List.mem_map,List.mem_range,List.not_mem_nil,or_false];rcases h with (((((((h | h) | h) | h) | h) | h) | h) | ⟨h1,h2⟩) | ⟨h1,h2⟩
 · exact .inl (.inl (.inl h))
 · exact .inl (.inl (.inr (.inl h)))
 · exact .inl (.inl (.inr (.inr (.inl h))))
 · exact .inl (.inl (.inr (.inr (.inr (.inl h)))))
 · exact .inl (.inl (.inr (.inr (.inr (.inr (.inl h))))))
 · exact .inl (.inl (.inr (.inr (.inr (.inr (.inr (.inl h)))))))
 · exact .inl (.inl (.inr (.inr (.inr (.inr (.inr (.inr h)))))))
 · exact .inl (.inr ⟨(x - 1632).toNat,by omega,by omega⟩)
 · exact .inr ⟨(x - 1776).toNat,by omega,by omega⟩
theorem Ajb:∀ y ∈ splits,y.soft=false->Norm.pieces true y.rune=Norm.pieces false y.rune:=by decide +kernel
theorem Ajh:∀ y ∈ splits,Bf y.rune=false:=by decide +kernel
theorem Wr {x:Int} (h:Bf x=true):Aj x=some ⟨x,x - 65248,0,true,true⟩:=by
 unfold Aj rowOf;cases ho:Fm Sp.rune Sp.rune splits x with
 | none=>simp [h]
 | some y =>
  obtain ⟨h1,h2,h3⟩:=Co ho;have:=Ajh y h1;rw [show y.rune=x by omega,h] at this;cases this
def Still (x:Int):Prop:=Fold.fo x=x/\Norm.pieces true x=Norm.pieces false x/\Bm x ≠ 0/\Bm x ≠ 1/\Bm x ≠ 8
theorem Ge {x:Int} (hs:Norm.syl x=false) (h:Aj x=none) (soft:Bool):Norm.pieces soft x=[x]:=by
 rw [Norm.Ax,hs,h];rfl
theorem Ab6 {x:Int} (h:Ctx.Cj x=true):Still x:=by
 have:=Al3 h;unfold Ae0 at this;simp only [jag,decide_eq_true_eq,Bool.not_eq_true'] at this;obtain ⟨⟨⟨h1,h2⟩,h3⟩,h4⟩:=this;exact ⟨h1,by rw [Ge h3 h2,Ge h3 h2],h4⟩
theorem Ad0:Still 45:=by
 have h:=Norm.Oq (c:=45) jO;refine ⟨by rw [Norm.Oo jO];rfl,?_,by decide +kernel⟩;rw [Norm.Dw.1 (Norm.I9 jO true),Norm.Dw.1 (Norm.I9 jO false)]
theorem Ady {x:Int} (h:C9 x=true):Still x:=by
 by_cases h45:x=45
 ·subst h45;exact Ad0
 ·unfold C9 at h;rw [beq_eq_false_iff_ne.2 h45,Bool.false_or,jag,jag,decide_eq_true_eq,decide_eq_true_eq] at h;obtain ⟨⟨c1,c2⟩,hsp⟩:=h;have hw:Bf x=false:=by
   cases hw:Bf x with
   | false=>rfl
   | true=>rw [Wr hw] at hsp;cases hsp
  have hlow:Cm x=x:=by
   rcases Aig x with h | h
   ·exact h
   ·unfold Aly at h;have:=(of_decide_eq_true h).2.1;omega
  refine ⟨?_,?_,by omega,by omega,by omega⟩
  ·unfold Fold.fo Fold.narrow;rw [hw];exact hlow
  ·cases ho:Aj x with
   | some y =>
    rw [ho] at hsp;simp only [jag,Bool.not_eq_true'] at hsp;rcases Bv ho with ⟨h1,rfl⟩ | ⟨h1,-⟩
    · exact Ajb y h1 hsp.1
    · rw [hw] at h1;cases h1
   | none =>
    cases hs:Norm.syl x with
    | false=>rw [Ge hs ho,Ge hs ho]
    | true=>rw [Norm.Ax,Norm.Ax,hs];rfl
theorem Anj {l:List Int} (h:Fw l=false):∀ x ∈ l,Still x:=by
 intro x hx;obtain ⟨k,hk,rfl⟩:=List.getElem_of_mem hx;unfold Fw at h;rw [List.any_eq_false] at h;have h1:=h k (List.mem_range.2 hk);rw [Bool.or_eq_true,not_or] at h1;rw [getElem!_pos l k hk] at h1;cases hn:Ctx.Cj l[k] with
 | true=>exact Ab6 hn
 | false =>
  have h0:Ctx.Gt l (k:Nat)=0:=by rw [Ctx.G9 hk,getElem!_pos l k hk,hn];rfl
  apply Ady;cases hc:C9 l[k] with
  | true=>rfl
  | false=>exact absurd (by rw [h0,hc];rfl) h1.2
theorem Aio {l:List Int} (h:∀ x ∈ l,Still x):l.map Fold.fo=l:=Fold.P1 λc hc=>(h c hc).1
theorem Ad8 {l:List Int} (h:∀ x ∈ l,Still x):Norm.down true l=Norm.down false l:=by
 unfold Norm.down Norm.split
 congr 1;induction l with
 | nil=>rfl
 | cons x l ih =>
  rw [jao,jao,(h x jS).2.1,ih λy hy=>h y (by simp [hy])]
structure Akb (l:List Int):Prop where
 still:∀ x ∈ l,Still x
 wide:Bp (Ae l)=false
 same:nfc l=l
 fold:Fold.fold l=l
 soft:Norm.join (Norm.down true l)=l
 dash:Cw (Ae l)=false
 mark:Bm l[0]! ≠ 4
 short:(Puny.Bb l).length<=59
theorem Hm {l:List Int} (h:Dg l=0):Akb l:=by
 unfold Dg at h;split at h
 ·omega
 ·rename_i h1
  rw [not_or,Decidable.not_not] at h1;split at h
  ·omega
  ·rename_i h2
   split at h
   ·omega
   ·rename_i h3
    split at h
    ·omega
    ·rename_i h4
     split at h
     ·omega
     ·split at h
      ·omega
      ·rename_i h6
       have hs:=Anj (Bool.not_eq_true _ ▸ h4);refine ⟨hs,by simpa using h1.1,h1.2,?_,?_,by simpa using h2,h3,by omega⟩
       ·unfold Fold.fold;rw [Aio hs];exact h1.2
       ·rw [Ad8 hs];exact h1.2
theorem D5 {bs:List UInt8}:Bp bs=true ↔ ∀ c ∈ bs,c.toNat<128:=by
 unfold Bp;rw [jar];constructor
 · intro h c hc;exact of_decide_eq_true (h c hc)
 · intro h c hc;exact decide_eq_true (h c hc)
theorem V6 {l:List Int} (h:Akb l):l ≠ []:=λe=>by
 subst e;have:=h.wide;cases this
theorem Ux {l:List Int} (h:Ad l=true):l.length<=(Puny.Bb l).length:=by
 have h1:=Puny.Iw h;have h2:=Puny.Mb (Puny.Ey l) 72 (Puny.lt 128 l).length true;unfold Puny.Bb Puny.Cg Puny.Bd;rw [jab,jab,jai,jai];omega
theorem Ajw {x:Int} (h0:0<=x) (h1:x<128) (h:Fold.fo x=x):Aw (UInt8.ofNat x.toNat)=UInt8.ofNat x.toNat:=by
 rw [Norm.Oo ⟨h0,h1⟩] at h;have hn:(UInt8.ofNat x.toNat).toNat=x.toNat:=UInt8.toNat_ofNat_of_lt' (by show x.toNat<256;omega);unfold Aw;rw [if_neg];rw [hn];intro hc;rw [if_pos jO] at h;omega
theorem Xw {l:List Int} (hr:Ad l=true) (h:∀ x ∈ l,Fold.fo x=x):(Puny.Bb l).map Aw=Puny.Bb l:=by
 refine (List.map_congr_left λc hc=>?_).trans (List.map_id _);show Aw c=c;unfold Puny.Bb at hc;rcases jap.1 hc with hc | hc
 ·rcases jap.1 hc with hc | hc
  ·unfold Puny.Bd at hc;obtain ⟨x,hx,rfl⟩:=List.mem_map.1 hc;have h1:=Puny.Z0 hx;exact Ajw (Puny.Rq hr x h1.1) h1.2 (h x h1.1)
  ·unfold Puny.Hh at hc;split at hc
   · cases hc
   · rw [List.mem_singleton] at hc;subst hc;decide
 ·obtain ⟨v,hv,rfl⟩:=List.mem_map.1 hc;exact Puny.Wc (Puny.Kk _ _ _ _ (Puny.Gn (Em hr)) v hv)
def chars (a:List UInt8):List Int:=a.map λb=>(b.toNat:Int)
theorem Da {a:List UInt8} (h:∀ c ∈ a,c.toNat<128):Ad (chars a)=true:=by
 unfold Ad chars;rw [jar];intro c hc;obtain ⟨b,hb,rfl⟩:=List.mem_map.1 hc;have:=h b hb;exact (An _).2 jO
theorem Adz {a:List UInt8} (h:∀ c ∈ a,c.toNat<128) (hs:a.map Aw=a):Fold.fold (chars a)=chars a:=by
 have ha:Norm.Bp (chars a):=by
  intro c hc;obtain ⟨b,hb,rfl⟩:=List.mem_map.1 hc;have:=h b hb;omega
 rw [Norm.Gy ha];unfold chars;rw [List.map_map];refine List.map_congr_left λb hb=>?_;have h1:Aw b=b:=by
  have h2:∀ (t:List UInt8),t.map Aw=t->∀ b ∈ t,Aw b=b:=by
   intro t;induction t with
   | nil=>intro _ b hb;cases hb
   | cons x t ih =>
    intro e b hb;rw [List.map_cons] at e;injection e with e1 e2
    rcases jal.1 hb with rfl | hb
    · exact e1
    · exact ih e2 b hb
  exact h2 a hs b hb
 have hb1:=h b hb;show (if 65<=(b.toNat:Int)/\(b.toNat:Int)<=90 then (b.toNat:Int)+32 else b.toNat)=b.toNat;rw [if_neg];intro hc;unfold Aw at h1;rw [if_pos jO] at h1;have:=congrArg UInt8.toNat h1;rw [Au jO] at this;omega
theorem Aon:∀ c ∈ sign,c.toNat<128:=by decide
theorem Of:sign.map Aw=sign:=by decide
theorem back {L:List Int} (hr:Ad L=true) (hf:Fold.fold L=L) {a u:List UInt8} (h:Eh L=(0,a,u)) :
  ∃ U:List Int,u=Ae U/\Ad U=true/\Fold.fold U=U/\U.length<=63/\Eh U=(0,a,u)/\(∀ c ∈ a,c.toNat<128)/\Fold.fold (chars a)=chars a/\Eh (chars a)=(0,a,u)/\0<a.length/\a.length<=63:=by
 have hfix:∀ x ∈ L,Fold.fo x=x:=by rw [<- hf];exact Fold.Km L
 unfold Eh at h;by_cases h1:Bp (Ae L)=false
 ·rw [if_pos h1] at h;by_cases h2:Dg L=0
  ·rw [if_pos h2] at h;obtain ⟨-,rfl,rfl⟩:(0:Int)=0/\sign ++ Puny.Bb L=a/\Ae L=u:=by
    injection h with e1 e2
    injection e2 with e2 e3
    exact ⟨e1,e2,e3⟩
   have R:=Hm h2;have hge:=Ux hr;have hsh:=R.short;have hlt:∀ c ∈ sign ++ Puny.Bb L,c.toNat<128:=λc hc=>by
    rcases jap.1 hc with hc | hc
    ·exact Aon c hc
    ·exact Puny.Agm hr c hc
   have hsm:(sign ++ Puny.Bb L).map Aw=sign ++ Puny.Bb L:=by rw [List.map_append,Of,Xw hr hfix]
   refine ⟨L,rfl,hr,hf,by omega,?_,hlt,Adz hlt hsm,?_,by rw [jab];show 0<4+_;omega,by rw [jab];show 4+_<=63;omega⟩
   ·unfold Eh;rw [if_pos h1,if_pos h2]
   ·unfold Eh;rw [show Ae (chars (sign ++ Puny.Bb L))=sign ++ Puny.Bb L from Du _ hlt];rw [if_neg (by rw [D5.2 hlt];decide),if_pos (by rw [List.take_append_of_le_length jD];rfl)];rw [show (sign ++ Puny.Bb L).drop 4=Puny.Bb L from List.drop_left' rfl,Puny.Hz hr jO];simp only;rw [if_neg (by rw [jab];show ¬ 63<4+_;omega),if_neg (by rw [h2];decide),if_neg jS]
  ·rw [if_neg h2] at h;injection h with e1 e2
   exact absurd e1 h2
 ·rw [if_neg h1] at h;have ha:∀ c ∈ Ae L,c.toNat<128:=D5.1 (by simpa using h1);have hch:chars (Ae L)=L:=Ga (Da ha) hr (Du _ ha);by_cases h3:(Ae L).take 4=sign
  ·rw [if_pos h3] at h;cases hd:Puny.Dt ((Ae L).drop 4) with
   | none =>
    rw [hd] at h;simp only at h;injection h with e1 e2
    exact absurd e1 jD
   | some l =>
    rw [hd] at h;simp only at h;by_cases h4:63<(Ae L).length
    ·rw [if_pos h4] at h;injection h with e1 e2
     exact absurd e1 jD
    ·rw [if_neg h4] at h;by_cases h5:Dg l ≠ 0
     ·rw [if_pos h5] at h;injection h with e1 e2
      exact absurd e1 h5
     ·rw [if_neg h5] at h;rw [Decidable.not_not] at h5;by_cases h6:Puny.Bb l ≠ (Ae L).drop 4
      ·rw [if_pos h6] at h;injection h with e1 e2
       exact absurd e1 jD
      ·rw [if_neg h6] at h;obtain ⟨-,rfl,rfl⟩:(0:Int)=0/\Ae L=a/\Ae l=u:=by
        injection h with e1 e2
        injection e2 with e2 e3
        exact ⟨e1,e2,e3⟩
       rw [Decidable.not_not] at h6;have R:=Hm h5;obtain ⟨hrl,-,hll⟩:=Puny.Tl hd;have hge:=Ux hrl;have hsh:=R.short;have hcat:sign ++ Puny.Bb l=Ae L:=by rw [h6,<- h3,List.take_append_drop]
       refine ⟨l,rfl,hrl,R.fold,by omega,?_,ha,by rw [hch];exact hf,?_,?_,by omega⟩
       ·unfold Eh;rw [if_pos R.wide,if_pos h5,hcat]
       ·rw [hch];unfold Eh;rw [if_neg h1,if_pos h3,hd];simp only;rw [if_neg h4,if_neg (by rw [h5];decide),if_neg (by rw [h6];simp)]
       ·rw [<- hcat,jab];show 0<4+_;omega
  ·rw [if_neg h3] at h;by_cases h4:Cx (Ae L)=0
   ·rw [if_pos h4] at h;obtain ⟨-,rfl,rfl⟩:(0:Int)=0/\Ae L=a/\Ae L=u:=by
     injection h with e1 e2
     injection e2 with e2 e3
     exact ⟨e1,e2,e3⟩
    have hb:Eh L=(0,Ae L,Ae L):=by
     unfold Eh;rw [if_neg h1,if_neg h3,if_pos h4]
    have hl:0<(Ae L).length/\(Ae L).length<=63:=by
     unfold Cx at h4;split at h4
     ·omega
     ·split at h4
      ·omega
      ·omega
    have hLL:L.length=(Ae L).length:=by
     have:=congrArg List.length hch;unfold chars at this;rw [jai] at this;exact this.symm
    refine ⟨L,rfl,hr,hf,by omega,hb,ha,by rw [hch];exact hf,by rw [hch];exact hb,hl.1,hl.2⟩
   ·rw [if_neg h4] at h;injection h with e1 e2
    exact absurd e1 h4
end Lab
end
section
open Go.RowKit Utf
namespace Lab
theorem Jf {s:List UInt8} (h:(A9 s).2=-1):Ad (ints (A9 s).1)=true/\s=Ae (ints (A9 s).1):=by
 obtain ⟨h1,-,h3⟩:=Cu (s:=s) (m:=(A9 s).1) (z:=(A9 s).2) rfl;obtain ⟨h4,h5⟩:=Iy _ h1;refine ⟨h4,?_⟩;rcases h3 with ⟨-,h3⟩ | ⟨k,hk,-⟩
 · rw [h5,h3]
 · omega
theorem Q8 (x:Int) (t:List Int) (h:0<=x/\x<128):Ae (x::t)=UInt8.ofNat x.toNat::Ae t:=by
 unfold Ae;rw [jao];unfold enc;rw [if_pos jO];rfl
theorem Aq9 {s:List UInt8} (h:Df s=0):∃ l,A9 s=(l.map Int.toNat,-1)/\Ad l=true/\s=Ae l/\Akb l/\l[0]! ≠ 45/\Ab l[0]! = 0/\∀ x ∈ l,Bm x ≠ 0/\Bm x ≠ 1/\Bm x ≠ 8:=by
 unfold Df at h;by_cases hz:(A9 s).2=-1
 ·rw [if_pos hz] at h;obtain ⟨h1,h2⟩:=Jf hz;have R:=Hm h;refine ⟨ints (A9 s).1,?_,h1,h2,R,?_,?_,λx hx=>(R.still x hx).2.2⟩
  ·have:=D4 h1;rw [<- h2] at this;exact this
  ·intro e;have hne:=V6 R;have hd:=R.dash;cases hl:ints (A9 s).1 with
   | nil=>exact hne hl
   | cons x t =>
    rw [hl] at e hd;have e':x=45:=e;subst e';rw [Q8 45 t jO] at hd;unfold Cw Cv at hd;simp at hd
  ·rcases Vl (ints (A9 s).1)[0]! with hm | hm
   ·unfold Vk at hm;exact absurd (of_decide_eq_true hm).2.1 R.mark
   ·exact hm.1
 ·rw [if_neg hz] at h;exact absurd h jD
def Rn (bs:List UInt8) (i:Nat):Bool :=
 (Bidi.Bx (Cv bs i) && Cv bs i != 45) || (Cv bs i == 45 && decide (0<i) && decide (i+1<bs.length) && (i != 2 || Cv bs 3 != 45))
theorem Ih {bs:List UInt8} {i:Nat} (h:i<bs.length):Cv bs i=(bs[i].toNat:Int):=by
 unfold Cv;rw [List.getElem?_eq_getElem h];rfl
theorem Ai2 (bs:List UInt8):Cx bs=0 ↔ 0<bs.length/\bs.length<=63/\∀ i,i<bs.length->Rn bs i=true:=by
 unfold Cx;by_cases h0:bs.length=0
 ·rw [if_pos h0];constructor
  ·intro h;exact absurd h jD
  ·rintro ⟨h,-⟩;omega
 ·rw [if_neg h0];by_cases h1:63<bs.length
  ·rw [if_pos h1];constructor
   ·intro h;exact absurd h jD
   ·rintro ⟨-,h,-⟩;omega
  ·rw [if_neg h1];cases ha:(bs.all λc=>Bidi.Bx (c.toNat:Int)) with
   | false =>
    rw [if_pos rfl];constructor
    ·intro h;exact absurd h jD
    ·rintro ⟨-,-,h⟩;exfalso;rw [List.all_eq_false] at ha;obtain ⟨c,hc,hp⟩:=ha;obtain ⟨k,hk,rfl⟩:=List.getElem_of_mem hc;have:=h k hk;unfold Rn at this;rw [Ih hk] at this;simp only [Bool.or_eq_true,jag] at this;rcases this with h2 | h2
     ·exact hp h2.1
     ·have:(bs[k].toNat:Int)=45:=by simpa using h2.1.1.1
      rw [this] at hp;exact hp jD
   | true =>
    rw [if_neg jD];rw [jar] at ha;cases hd:Cw bs with
    | true =>
     rw [if_pos rfl];constructor
     ·intro h;exact absurd h jD
     ·rintro ⟨-,-,h⟩;exfalso;unfold Cw at hd;simp only [Bool.or_eq_true,jag,decide_eq_true_eq,beq_iff_eq] at hd;rcases hd with (hd | hd) | ⟨⟨h3,hd2⟩,hd3⟩
      ·have:=h 0 jO;unfold Rn at this;rw [hd] at this;simp at this
      ·have:=h (bs.length - 1) jO;unfold Rn at this;rw [hd] at this;simp at this;omega
      ·have:=h 2 jO;unfold Rn at this;rw [hd2,hd3] at this;simp at this
    | false =>
     rw [if_neg jD];refine ⟨λ_=>⟨by omega,by omega,λi hi=>?_⟩,λ_=>rfl⟩;unfold Cw at hd;simp only [Bool.or_eq_false_iff,Bool.and_eq_false_iff,decide_eq_false_iff_not,beq_eq_false_iff_ne] at hd;obtain ⟨⟨d0,d1⟩,d2⟩:=hd;have hp:=ha bs[i] (List.getElem_mem hi);rw [<- Ih hi] at hp;unfold Rn;rw [hp];by_cases h45:Cv bs i=45
     ·have i0:i ≠ 0:=λe=>d0 (by rw [<- e];exact h45);have i1:i ≠ bs.length - 1:=λe=>d1 (by rw [<- e];exact h45);rw [h45];have h2:(i != 2 || Cv bs 3 != 45)=true:=by
       by_cases i2:i=2
       ·subst i2;rcases d2 with (d2 | d2) | d2
        · exact absurd jO d2
        · exact absurd h45 d2
        · simp [d2]
       ·simp [i2]
      rw [h2,decide_eq_true (show 0<i by omega),decide_eq_true (show i+1<bs.length by omega)];rfl
     ·simp [h45]
def Ll (bs:List UInt8):Int:=if (Bj bs).1 ≠ 0 then 0 else if Bp bs=false then 3 else if (bs.take 4).map Aw=sign then 2 else 1
theorem Ac2 (b:UInt8) (h:b.toNat<128):(Aw b).toNat<128:=by
 unfold Aw;split
 · rw [Au jO];omega
 · exact h
theorem Ny {s:List UInt8} (h:∀ c ∈ s,c.toNat<128):Bj s=Eh (chars (s.map Aw)):=by
 have e:s=Ae (chars s):=(Du s h).symm;rw [e,Ds (Da h),<- e];congr 1;have ha:Norm.Bp (chars s):=by
  intro c hc;obtain ⟨b,hb,rfl⟩:=List.mem_map.1 hc;have:=h b hb;omega
 rw [Norm.Gy ha];unfold chars;rw [List.map_map,List.map_map];refine List.map_congr_left λb hb=>?_;have hb1:=h b hb;show (if 65<=(b.toNat:Int)/\(b.toNat:Int)<=90 then (b.toNat:Int)+32 else b.toNat)=((Aw b).toNat:Int)
 unfold Aw;by_cases hc:65<=b.toNat/\b.toNat<=90
 ·rw [if_pos jO,if_pos hc,Au jO];omega
 ·rw [if_neg jO,if_neg hc]
theorem Agq {L:List Int} (hr:Ad L=true) {a u:List UInt8} (h:Eh L=(0,a,u)) :
  (Bp u=false/\4<a.length/\a.take 4=sign/\Df u=0/\(Bp (Ae L)=true->(Ae L).take 4=sign)) \/
  (Bp u=true/\¬ (4<a.length/\a.take 4=sign)/\a=u/\Cx a=0/\Bp (Ae L)=true/\(Ae L).take 4 ≠ sign):=by
 unfold Eh at h;by_cases h1:Bp (Ae L)=false
 ·rw [if_pos h1] at h;by_cases h2:Dg L=0
  ·rw [if_pos h2] at h;injection h with e1 e2
   injection e2 with e2 e3
   subst e2 e3;have R:=Hm h2;have hge:=Ux hr;have hne:0<L.length:=List.length_pos_iff.2 (V6 R);refine .inl ⟨h1,by rw [jab];show 4<4+_;omega,by rw [List.take_append_of_le_length jD];rfl,by rw [Gx hr];exact h2,λh=>by rw [h1] at h;cases h⟩
  ·rw [if_neg h2] at h;injection h with e1 e2
   exact absurd e1 h2
 ·rw [if_neg h1] at h;have hA:Bp (Ae L)=true:=by simpa using h1
  by_cases h3:(Ae L).take 4=sign
  ·rw [if_pos h3] at h;cases hd:Puny.Dt ((Ae L).drop 4) with
   | none =>
    rw [hd] at h;simp only at h;injection h with e1 e2
    exact absurd e1 jD
   | some l =>
    rw [hd] at h;simp only at h;by_cases h4:63<(Ae L).length
    ·rw [if_pos h4] at h;injection h with e1 e2
     exact absurd e1 jD
    ·rw [if_neg h4] at h;by_cases h5:Dg l ≠ 0
     ·rw [if_pos h5] at h;injection h with e1 e2
      exact absurd e1 h5
     ·rw [if_neg h5] at h;rw [Decidable.not_not] at h5;by_cases h6:Puny.Bb l ≠ (Ae L).drop 4
      ·rw [if_pos h6] at h;injection h with e1 e2
       exact absurd e1 jD
      ·rw [if_neg h6] at h;rw [Decidable.not_not] at h6;injection h with e1 e2
       injection e2 with e2 e3
       subst e2 e3;have R:=Hm h5;obtain ⟨hrl,-,-⟩:=Puny.Tl hd;have hge:=Ux hrl;have hne:0<l.length:=List.length_pos_iff.2 (V6 R);have hl:=congrArg List.length h6;rw [jaj] at hl;exact .inl ⟨R.wide,by omega,h3,by rw [Gx hrl];exact h5,λ_=>h3⟩
  ·rw [if_neg h3] at h;by_cases h4:Cx (Ae L)=0
   ·rw [if_pos h4] at h;injection h with e1 e2
    injection e2 with e2 e3
    subst e2 e3;exact .inr ⟨hA,λh=>h3 h.2,rfl,h4,hA,h3⟩
   ·rw [if_neg h4] at h;injection h with e1 e2
    exact absurd e1 h4
theorem Arh {l:List Int} (h:Ad l=true):Bj (Ae (Fold.fold l))=Bj (Ae l)/\Bj (Ae (Norm.down false l))=Bj (Ae l):=by
 rw [Ds (Dj h),Ds h,Ds (Gp false h),Fold.F2,Fold.X0];exact ⟨rfl,rfl⟩
end Lab
end
