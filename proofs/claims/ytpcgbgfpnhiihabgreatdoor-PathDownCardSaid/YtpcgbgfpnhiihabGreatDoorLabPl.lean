import Derived.Test.YtpcgbgfpnhiihabGreatDoorFoldB
import Derived.Test.YtpcgbgfpnhiihabGreatDoorPunyA
import Derived.Test.YtpcgbgfpnhiihabGreatDoorCtxAll
namespace Go.Proofs.YtpcgbgfpnhiihabGreatDoor
section
namespace Bidi
def Ad5 (b:Int):Bool:=b == 2 || b == 3 || b == 5
def has (l:List Int):Bool:=l.any λr=>Ad5 (Bz r)
def Ahq (b:Int):Int:=if b=3 then 2 else if b=1\/b=2 then b else 0
def side:List Int->Int
 | []=>0
 | r::_=>Ahq (Bz r)
def Am6:List Int->Int
 | []=>0
 | r::l=>if Bz r=6 then Am6 l else Bz r
def stop (l:List Int):Int:=Am6 l.reverse
def any (b:Int) (l:List Int):Bool:=l.any λr=>Bz r == b
def Aas (s:Int):Bool:=s == 2 || s == 3 || s == 4 || s == 5
def Afu (s:Int):Bool:=s == 1 || s == 4
def Ht (l:List Int):Bool :=
 if side l=2 then !any 1 l && Aas (stop l) && !(any 4 l && any 5 l)
 else if side l=1 then !has l && Afu (stop l) else false
def Xy (l:List Int):Bool:=l.isEmpty || Ht l
theorem Adx {l:List Int} (h:l ≠ []):Xy l=Ht l:=by
 cases l with
 | nil=>exact absurd rfl h
 | cons a l=>rfl
theorem X5 (l:List Int):side l=0\/side l=1\/side l=2:=by
 cases l with
 | nil=>exact .inl rfl
 | cons a l=>unfold side Ahq;split<;>(try split)<;>omega
theorem Au2 {l:List Int} (h:l ≠ []) (m:List Int):side (l ++ m)=side l:=by
 cases l with
 | nil=>exact absurd rfl h
 | cons a l=>rfl
theorem U3 (b:Int) (l m:List Int):any b (l ++ m)=(any b l || any b m):=by unfold any;rw [List.any_append]
theorem Awm (l m:List Int):has (l ++ m)=(has l || has m):=by unfold has;rw [List.any_append]
theorem Ac7 (l:List Int):has l=(any 2 l || any 3 l || any 5 l):=by
 unfold has any Ad5;induction l with
 | nil=>rfl
 | cons a l ih =>
  simp only [List.any_cons,ih];cases (Bz a == 2)<;>cases (Bz a == 3)<;>cases (Bz a == 5)<;>simp
theorem Aq4 (l:List Int) (x:Int) (h:Bz x ≠ 6):stop (l ++ [x])=Bz x:=by
 unfold stop;rw [List.reverse_append];show Am6 (x::l.reverse)=_;rw [Am6,if_neg h]
def Ca (c:Int):Bool:=(decide (97<=c) && decide (c<=122)) || (decide (65<=c) && decide (c<=90)) || (decide (48<=c) && decide (c<=57)) || c == 45
theorem Ak2:∀ i ∈ List.range 10,Bz (48+(i:Nat))=4:=by decide +kernel
theorem Aja {c:Int} (h:48<=c/\c<=57):Bz c=4:=by
 have:=Ak2 (c - 48).toNat (by rw [List.mem_range];omega);rwa [show (48:Int)+((c - 48).toNat:Int)=c by omega] at this
theorem digits {l:List Int} (hl:l ≠ []) (h:Xy l=true) {c:Int} (hc:48<=c/\c<=57):Xy (l ++ [c])=!any 5 l/\side (l ++ [c])=side l/\stop (l ++ [c])=4:=by
 have h4:=Aja hc;have h1:=Au2 hl [c];have h2:stop (l ++ [c])=4:=by rw [Aq4 _ _ jO,h4]
 refine ⟨?_,h1,h2⟩;rw [Adx hl] at h;rw [Adx jS];have a1:any 1 (l ++ [c])=any 1 l:=by rw [U3];simp [any,h4]
 have a4:any 4 (l ++ [c])=true:=by rw [U3];simp [any,h4]
 have a5:any 5 (l ++ [c])=any 5 l:=by rw [U3];simp [any,h4]
 have ah:has (l ++ [c])=has l:=by rw [Awm];simp [has,Ad5,h4]
 unfold Ht at h ⊢;rw [h1,h2,a1,a4,a5,ah];rcases X5 l with e | e | e
 ·rw [if_neg jO,if_neg jO] at h;cases h
 ·rw [if_neg jO,if_pos e,jag,Bool.not_eq_true'] at h;rw [if_neg jO,if_pos e,h.1];rw [Ac7] at h;simp only [Bool.or_eq_false_iff] at h;rw [h.1.2];rfl
 ·rw [if_pos e,jag,jag] at h;rw [if_pos e,h.1.1];simp [Aas]
end Bidi
end
section
open Go.RowKit Utf
theorem Dr {l:List Int} (h:Ae l=true):Ae (Fold.fold l)=true:=Wx (Oz false (Q0 h))
namespace Lab
def Bh (r:Int):Bool:=r == 45 || (decide (2<=Dh r) && decide (Dh r<=5) && match Ah r with | none=>true | some y=>!y.soft && !y.out)
def Dx (bs:List UInt8):Bool:=bs.all λc=>decide (c.toNat<128)
def Dp (bs:List UInt8) (i:Nat):Int:=(((bs[i]?).getD 0).toNat:Int)
def Fw (bs:List UInt8):Bool:=Dp bs 0 == 45 || Dp bs (bs.length - 1) == 45 || (decide (3<bs.length) && Dp bs 2 == 45 && Dp bs 3 == 45)
def Fz (bs:List UInt8):Int :=
 if bs.length=0 then 13 else if 63<bs.length then 5 else if (bs.all λc=>Bidi.Ca (c.toNat:Int))=false then 8 else if Fw bs then 11 else 0
def nfc (l:List Int):List Int:=Norm.join (Norm.down false l)
def Fj (l:List Int):Bool:=(List.range l.length).any λi=>Ctx.Xb l (i:Nat) == 2 || (Ctx.Xb l (i:Nat) == 0 && !Bh l[i]!)
def Eh (l:List Int):Int :=
 if Dx (Ag l)=true\/nfc l ≠ l then 4 else if Fw (Ag l) then 11 else if Dh l[0]! = 4 then 10 else if Fj l then 8 else if Bidi.has l && !Bidi.Xy l then 9 else if 59<(Puny.Bm l).length then 5 else 0
def Ft (bs:List UInt8):Int:=if (Au bs).2=-1 then Eh (ints (Au bs).1) else 7
def sign:List UInt8:=[120,110,45,45]
def Ef (L:List Int):Int × List UInt8 × List UInt8 :=
 if Dx (Ag L)=false then (if Eh L=0 then (0,sign ++ Puny.Bm L,Ag L) else (Eh L,[],[]))
 else if (Ag L).take 4=sign then match Puny.Hj ((Ag L).drop 4) with
  | none=>(12,[],[])
  | some l=>if 63<(Ag L).length then (5,[],[]) else if Eh l ≠ 0 then (Eh l,[],[]) else if Puny.Bm l ≠ (Ag L).drop 4 then (12,[],[]) else (0,Ag L,Ag l)
 else if Fz (Ag L)=0 then (0,Ag L,Ag L) else (Fz (Ag L),[],[])
def Dm (bs:List UInt8):Int × List UInt8 × List UInt8:=if (Au bs).2=-1 then Ef (Fold.fold (ints (Au bs).1)) else (7,[],[])
theorem To {l:List Int} (h:Ae l=true):Ft (Ag l)=Eh l:=by
 unfold Ft;rw [Ff h,if_pos rfl,(C8 h).1]
theorem E9 {l:List Int} (h:Ae l=true):Dm (Ag l)=Ef (Fold.fold l):=by
 unfold Dm;rw [Ff h,if_pos rfl,(C8 h).1]
theorem Ip {a b:List Int} (ha:Ae a=true) (hb:Ae b=true) (h:Ag a=Ag b):a=b:=by
 have h1:=Ff ha;rw [h,Ff hb] at h1;have h2:=(Prod.mk.inj h1).1;rw [<- (C8 ha).1,<- (C8 hb).1,h2]
def Akc (x:Int):Bool:=decide (Fold.fo x=x) && decide (Ah x=none) && !Norm.syl x && decide (Dh x ≠ 0/\Dh x ≠ 1/\Dh x ≠ 8)
theorem Aqk:∀ x ∈ [8204,8205,183,885,1523,1524,12539] ++ (List.range 10).map (λi:Nat=>(1632:Int)+i) ++ (List.range 10).map (λi:Nat=>(1776:Int)+i),Akc x=true:=by decide +kernel
theorem Atz {x:Int} (h:Ctx.Br x=true):Akc x=true:=by
 apply Aqk;unfold Ctx.Br at h;simp only [Bool.or_eq_true,beq_iff_eq,jag,decide_eq_true_eq] at h;simp only [jap,jal,List.mem_map,List.mem_range,List.not_mem_nil,or_false];rcases h with (((((((h | h) | h) | h) | h) | h) | h) | ⟨h1,h2⟩) | ⟨h1,h2⟩
 · exact .inl (.inl (.inl h))
 · exact .inl (.inl (.inr (.inl h)))
 · exact .inl (.inl (.inr (.inr (.inl h))))
 · exact .inl (.inl (.inr (.inr (.inr (.inl h)))))
 · exact .inl (.inl (.inr (.inr (.inr (.inr (.inl h))))))
 · exact .inl (.inl (.inr (.inr (.inr (.inr (.inr (.inl h)))))))
 · exact .inl (.inl (.inr (.inr (.inr (.inr (.inr (.inr h)))))))
 · exact .inl (.inr ⟨(x - 1632).toNat,by omega,by omega⟩)
 · exact .inr ⟨(x - 1776).toNat,by omega,by omega⟩
theorem Aqi:∀ y ∈ splits,y.soft=false->Norm.pieces true y.rune=Norm.pieces false y.rune:=by decide +kernel
theorem Aqn:∀ y ∈ splits,Bl y.rune=false:=by decide +kernel
theorem Yw {x:Int} (h:Bl x=true):Ah x=some ⟨x,x - 65248,0,true,true⟩:=by
 unfold Ah rowOf;cases ho:Gy Sp.rune Sp.rune splits x with
 | none=>simp [h]
 | some y =>
  obtain ⟨h1,h2,h3⟩:=C9 ho;have:=Aqn y h1;rw [show y.rune=x by omega,h] at this;cases this
def Still (x:Int):Prop:=Fold.fo x=x/\Norm.pieces true x=Norm.pieces false x/\Dh x ≠ 0/\Dh x ≠ 1/\Dh x ≠ 8
theorem Gk {x:Int} (hs:Norm.syl x=false) (h:Ah x=none) (soft:Bool):Norm.pieces soft x=[x]:=by
 rw [Norm.Az,hs,h];rfl
theorem Agr {x:Int} (h:Ctx.Br x=true):Still x:=by
 have:=Atz h;unfold Akc at this;simp only [jag,decide_eq_true_eq,Bool.not_eq_true'] at this;obtain ⟨⟨⟨h1,h2⟩,h3⟩,h4⟩:=this;exact ⟨h1,by rw [Gk h3 h2,Gk h3 h2],h4⟩
theorem Ai4:Still 45:=by
 have h:=Norm.Py (c:=45) jO;refine ⟨by rw [Norm.Px jO];rfl,?_,by decide +kernel⟩;rw [Norm.Dl.1 (Norm.I9 jO true),Norm.Dl.1 (Norm.I9 jO false)]
theorem Aiy {x:Int} (h:Bh x=true):Still x:=by
 by_cases h45:x=45
 ·subst h45;exact Ai4
 ·unfold Bh at h;rw [beq_eq_false_iff_ne.2 h45,Bool.false_or,jag,jag,decide_eq_true_eq,decide_eq_true_eq] at h;obtain ⟨⟨c1,c2⟩,hsp⟩:=h;have hw:Bl x=false:=by
   cases hw:Bl x with
   | false=>rfl
   | true=>rw [Yw hw] at hsp;cases hsp
  have hlow:Fp x=x:=by
   rcases Ao3 x with h | h
   ·exact h
   ·unfold Atq at h;have:=(of_decide_eq_true h).2.1;omega
  refine ⟨?_,?_,by omega,by omega,by omega⟩
  ·unfold Fold.fo Fold.narrow;rw [hw];exact hlow
  ·cases ho:Ah x with
   | some y =>
    rw [ho] at hsp;simp only [jag,Bool.not_eq_true'] at hsp;rcases Bj ho with ⟨h1,rfl⟩ | ⟨h1,-⟩
    · exact Aqi y h1 hsp.1
    · rw [hw] at h1;cases h1
   | none =>
    cases hs:Norm.syl x with
    | false=>rw [Gk hs ho,Gk hs ho]
    | true=>rw [Norm.Az,Norm.Az,hs];rfl
theorem Av3 {l:List Int} (h:Fj l=false):∀ x ∈ l,Still x:=by
 intro x hx;obtain ⟨k,hk,rfl⟩:=List.getElem_of_mem hx;unfold Fj at h;rw [List.any_eq_false] at h;have h1:=h k (List.mem_range.2 hk);rw [Bool.or_eq_true,not_or] at h1;rw [getElem!_pos l k hk] at h1;cases hn:Ctx.Br l[k] with
 | true=>exact Agr hn
 | false =>
  have h0:Ctx.Xb l (k:Nat)=0:=by rw [Ctx.He hk,getElem!_pos l k hk,hn];rfl
  apply Aiy;cases hc:Bh l[k] with
  | true=>rfl
  | false=>exact absurd (by rw [h0,hc];rfl) h1.2
theorem Apc {l:List Int} (h:∀ x ∈ l,Still x):l.map Fold.fo=l:=Fold.Vg λc hc=>(h c hc).1
theorem Ajd {l:List Int} (h:∀ x ∈ l,Still x):Norm.down true l=Norm.down false l:=by
 unfold Norm.down Norm.split
 congr 1;induction l with
 | nil=>rfl
 | cons x l ih =>
  rw [jao,jao,(h x jS).2.1,ih λy hy=>h y (by simp [hy])]
structure Axx (l:List Int):Prop where
 still:∀ x ∈ l,Still x
 wide:Dx (Ag l)=false
 same:nfc l=l
 fold:Fold.fold l=l
 soft:Norm.join (Norm.down true l)=l
 dash:Fw (Ag l)=false
 mark:Dh l[0]! ≠ 4
 short:(Puny.Bm l).length<=59
theorem My {l:List Int} (h:Eh l=0):Axx l:=by
 unfold Eh at h;split at h
 ·omega
 ·rename_i h1
  rw [not_or,Decidable.not_not] at h1;split at h
  ·omega
  ·rename_i h2
   split at h
   ·omega
   ·rename_i h3
    split at h
    ·omega
    ·rename_i h4
     split at h
     ·omega
     ·split at h
      ·omega
      ·rename_i h6
       have hs:=Av3 (Bool.not_eq_true _ ▸ h4);refine ⟨hs,by simpa using h1.1,h1.2,?_,?_,by simpa using h2,h3,by omega⟩
       ·unfold Fold.fold;rw [Apc hs];exact h1.2
       ·rw [Ajd hs];exact h1.2
theorem Ei {bs:List UInt8}:Dx bs=true ↔ ∀ c ∈ bs,c.toNat<128:=by
 unfold Dx;rw [jar];constructor
 · intro h c hc;exact of_decide_eq_true (h c hc)
 · intro h c hc;exact decide_eq_true (h c hc)
theorem Xv {l:List Int} (h:Axx l):l ≠ []:=λe=>by
 subst e;have:=h.wide;cases this
theorem Ajl {l:List Int} (h:Ae l=true):l.length<=(Puny.Bm l).length:=by
 have h1:=Puny.Ox h;have h2:=Puny.Qn (Puny.Fx l) 72 (Puny.lt 128 l).length true;unfold Puny.Bm Puny.Cv Puny.Bd;rw [jab,jab,jai,jai];omega
theorem Aqy {x:Int} (h0:0<=x) (h1:x<128) (h:Fold.fo x=x):Am (UInt8.ofNat x.toNat)=UInt8.ofNat x.toNat:=by
 rw [Norm.Px ⟨h0,h1⟩] at h;have hn:(UInt8.ofNat x.toNat).toNat=x.toNat:=UInt8.toNat_ofNat_of_lt' (by show x.toNat<256;omega);unfold Am;rw [if_neg];rw [hn];intro hc;rw [if_pos jO] at h;omega
theorem Aal {l:List Int} (hr:Ae l=true) (h:∀ x ∈ l,Fold.fo x=x):(Puny.Bm l).map Am=Puny.Bm l:=by
 refine (List.map_congr_left λc hc=>?_).trans (List.map_id _);show Am c=c;unfold Puny.Bm at hc;rcases jap.1 hc with hc | hc
 ·rcases jap.1 hc with hc | hc
  ·unfold Puny.Bd at hc;obtain ⟨x,hx,rfl⟩:=List.mem_map.1 hc;have h1:=Puny.Adg hx;exact Aqy (Puny.Te hr x h1.1) h1.2 (h x h1.1)
  ·unfold Puny.Jw at hc;split at hc
   · cases hc
   · rw [List.mem_singleton] at hc;subst hc;decide
 ·obtain ⟨v,hv,rfl⟩:=List.mem_map.1 hc;exact Puny.X9 (Puny.Kv _ _ _ _ (Puny.Gs (Ek hr)) v hv)
def chars (a:List UInt8):List Int:=a.map λb=>(b.toNat:Int)
theorem Ea {a:List UInt8} (h:∀ c ∈ a,c.toNat<128):Ae (chars a)=true:=by
 unfold Ae chars;rw [jar];intro c hc;obtain ⟨b,hb,rfl⟩:=List.mem_map.1 hc;have:=h b hb;exact (Ak _).2 jO
theorem Aiz {a:List UInt8} (h:∀ c ∈ a,c.toNat<128) (hs:a.map Am=a):Fold.fold (chars a)=chars a:=by
 have ha:Norm.Dx (chars a):=by
  intro c hc;obtain ⟨b,hb,rfl⟩:=List.mem_map.1 hc;have:=h b hb;omega
 rw [Norm.Jj ha];unfold chars;rw [List.map_map];refine List.map_congr_left λb hb=>?_;have h1:Am b=b:=by
  have h2:∀ (t:List UInt8),t.map Am=t->∀ b ∈ t,Am b=b:=by
   intro t;induction t with
   | nil=>intro _ b hb;cases hb
   | cons x t ih =>
    intro e b hb;rw [List.map_cons] at e;injection e with e1 e2
    rcases jal.1 hb with rfl | hb
    · exact e1
    · exact ih e2 b hb
  exact h2 a hs b hb
 have hb1:=h b hb;show (if 65<=(b.toNat:Int)/\(b.toNat:Int)<=90 then (b.toNat:Int)+32 else b.toNat)=b.toNat;rw [if_neg];intro hc;unfold Am at h1;rw [if_pos jO] at h1;have:=congrArg UInt8.toNat h1;rw [Ba jO] at this;omega
theorem Axo:∀ c ∈ sign,c.toNat<128:=by decide
theorem Pk:sign.map Am=sign:=by decide
theorem back {L:List Int} (hr:Ae L=true) (hf:Fold.fold L=L) {a u:List UInt8} (h:Ef L=(0,a,u)) :
  ∃ U:List Int,u=Ag U/\Ae U=true/\Fold.fold U=U/\U.length<=63/\Ef U=(0,a,u)/\(∀ c ∈ a,c.toNat<128)/\Fold.fold (chars a)=chars a/\Ef (chars a)=(0,a,u)/\0<a.length/\a.length<=63:=by
 have hfix:∀ x ∈ L,Fold.fo x=x:=by rw [<- hf];exact Fold.Qt L
 unfold Ef at h;by_cases h1:Dx (Ag L)=false
 ·rw [if_pos h1] at h;by_cases h2:Eh L=0
  ·rw [if_pos h2] at h;obtain ⟨-,rfl,rfl⟩:(0:Int)=0/\sign ++ Puny.Bm L=a/\Ag L=u:=by
    injection h with e1 e2
    injection e2 with e2 e3
    exact ⟨e1,e2,e3⟩
   have R:=My h2;have hge:=Ajl hr;have hsh:=R.short;have hlt:∀ c ∈ sign ++ Puny.Bm L,c.toNat<128:=λc hc=>by
    rcases jap.1 hc with hc | hc
    ·exact Axo c hc
    ·exact Puny.Ame hr c hc
   have hsm:(sign ++ Puny.Bm L).map Am=sign ++ Puny.Bm L:=by rw [List.map_append,Pk,Aal hr hfix]
   refine ⟨L,rfl,hr,hf,by omega,?_,hlt,Aiz hlt hsm,?_,by rw [jab];show 0<4+_;omega,by rw [jab];show 4+_<=63;omega⟩
   ·unfold Ef;rw [if_pos h1,if_pos h2]
   ·unfold Ef;rw [show Ag (chars (sign ++ Puny.Bm L))=sign ++ Puny.Bm L from Ej _ hlt];rw [if_neg (by rw [Ei.2 hlt];decide),if_pos (by rw [List.take_append_of_le_length jD];rfl)];rw [show (sign ++ Puny.Bm L).drop 4=Puny.Bm L from List.drop_left' rfl,Puny.Acp hr jO];simp only;rw [if_neg (by rw [jab];show ¬ 63<4+_;omega),if_neg (by rw [h2];decide),if_neg jS]
  ·rw [if_neg h2] at h;injection h with e1 e2
   exact absurd e1 h2
 ·rw [if_neg h1] at h;have ha:∀ c ∈ Ag L,c.toNat<128:=Ei.1 (by simpa using h1);have hch:chars (Ag L)=L:=Ip (Ea ha) hr (Ej _ ha);by_cases h3:(Ag L).take 4=sign
  ·rw [if_pos h3] at h;cases hd:Puny.Hj ((Ag L).drop 4) with
   | none =>
    rw [hd] at h;simp only at h;injection h with e1 e2
    exact absurd e1 jD
   | some l =>
    rw [hd] at h;simp only at h;by_cases h4:63<(Ag L).length
    ·rw [if_pos h4] at h;injection h with e1 e2
     exact absurd e1 jD
    ·rw [if_neg h4] at h;by_cases h5:Eh l ≠ 0
     ·rw [if_pos h5] at h;injection h with e1 e2
      exact absurd e1 h5
     ·rw [if_neg h5] at h;rw [Decidable.not_not] at h5;by_cases h6:Puny.Bm l ≠ (Ag L).drop 4
      ·rw [if_pos h6] at h;injection h with e1 e2
       exact absurd e1 jD
      ·rw [if_neg h6] at h;obtain ⟨-,rfl,rfl⟩:(0:Int)=0/\Ag L=a/\Ag l=u:=by
        injection h with e1 e2
        injection e2 with e2 e3
        exact ⟨e1,e2,e3⟩
       rw [Decidable.not_not] at h6;have R:=My h5;obtain ⟨hrl,-,hll⟩:=Puny.Acz hd;have hge:=Ajl hrl;have hsh:=R.short;have hcat:sign ++ Puny.Bm l=Ag L:=by rw [h6,<- h3,List.take_append_drop]
       refine ⟨l,rfl,hrl,R.fold,by omega,?_,ha,by rw [hch];exact hf,?_,?_,by omega⟩
       ·unfold Ef;rw [if_pos R.wide,if_pos h5,hcat]
       ·rw [hch];unfold Ef;rw [if_neg h1,if_pos h3,hd];simp only;rw [if_neg h4,if_neg (by rw [h5];decide),if_neg (by rw [h6];simp)]
       ·rw [<- hcat,jab];show 0<4+_;omega
  ·rw [if_neg h3] at h;by_cases h4:Fz (Ag L)=0
   ·rw [if_pos h4] at h;obtain ⟨-,rfl,rfl⟩:(0:Int)=0/\Ag L=a/\Ag L=u:=by
     injection h with e1 e2
     injection e2 with e2 e3
     exact ⟨e1,e2,e3⟩
    have hb:Ef L=(0,Ag L,Ag L):=by
     unfold Ef;rw [if_neg h1,if_neg h3,if_pos h4]
    have hl:0<(Ag L).length/\(Ag L).length<=63:=by
     unfold Fz at h4;split at h4
     ·omega
     ·split at h4
      ·omega
      ·omega
    have hLL:L.length=(Ag L).length:=by
     have:=congrArg List.length hch;unfold chars at this;rw [jai] at this;exact this.symm
    refine ⟨L,rfl,hr,hf,by omega,hb,ha,by rw [hch];exact hf,by rw [hch];exact hb,hl.1,hl.2⟩
   ·rw [if_neg h4] at h;injection h with e1 e2
    exact absurd e1 h4
end Lab
end
section
open Go.RowKit Utf
namespace Lab
theorem Mw {s:List UInt8} (h:(Au s).2=-1):Ae (ints (Au s).1)=true/\s=Ag (ints (Au s).1):=by
 obtain ⟨h1,-,h3⟩:=D5 (s:=s) (m:=(Au s).1) (z:=(Au s).2) rfl;obtain ⟨h4,h5⟩:=Ky _ h1;refine ⟨h4,?_⟩;rcases h3 with ⟨-,h3⟩ | ⟨k,hk,-⟩
 · rw [h5,h3]
 · omega
theorem Aak (x:Int) (t:List Int) (h:0<=x/\x<128):Ag (x::t)=UInt8.ofNat x.toNat::Ag t:=by
 unfold Ag;rw [jao];unfold enc;rw [if_pos jO];rfl
def Sy (bs:List UInt8) (i:Nat):Bool :=
 (Bidi.Ca (Dp bs i) && Dp bs i != 45) || (Dp bs i == 45 && decide (0<i) && decide (i+1<bs.length) && (i != 2 || Dp bs 3 != 45))
theorem Ie {bs:List UInt8} {i:Nat} (h:i<bs.length):Dp bs i=(bs[i].toNat:Int):=by
 unfold Dp;rw [List.getElem?_eq_getElem h];rfl
theorem Apw (bs:List UInt8):Fz bs=0 ↔ 0<bs.length/\bs.length<=63/\∀ i,i<bs.length->Sy bs i=true:=by
 unfold Fz;by_cases h0:bs.length=0
 ·rw [if_pos h0];constructor
  ·intro h;exact absurd h jD
  ·rintro ⟨h,-⟩;omega
 ·rw [if_neg h0];by_cases h1:63<bs.length
  ·rw [if_pos h1];constructor
   ·intro h;exact absurd h jD
   ·rintro ⟨-,h,-⟩;omega
  ·rw [if_neg h1];cases ha:(bs.all λc=>Bidi.Ca (c.toNat:Int)) with
   | false =>
    rw [if_pos rfl];constructor
    ·intro h;exact absurd h jD
    ·rintro ⟨-,-,h⟩;exfalso;rw [List.all_eq_false] at ha;obtain ⟨c,hc,hp⟩:=ha;obtain ⟨k,hk,rfl⟩:=List.getElem_of_mem hc;have:=h k hk;unfold Sy at this;rw [Ie hk] at this;simp only [Bool.or_eq_true,jag] at this;rcases this with h2 | h2
     ·exact hp h2.1
     ·have:(bs[k].toNat:Int)=45:=by simpa using h2.1.1.1
      rw [this] at hp;exact hp jD
   | true =>
    rw [if_neg jD];rw [jar] at ha;cases hd:Fw bs with
    | true =>
     rw [if_pos rfl];constructor
     ·intro h;exact absurd h jD
     ·rintro ⟨-,-,h⟩;exfalso;unfold Fw at hd;simp only [Bool.or_eq_true,jag,decide_eq_true_eq,beq_iff_eq] at hd;rcases hd with (hd | hd) | ⟨⟨h3,hd2⟩,hd3⟩
      ·have:=h 0 jO;unfold Sy at this;rw [hd] at this;simp at this
      ·have:=h (bs.length - 1) jO;unfold Sy at this;rw [hd] at this;simp at this;omega
      ·have:=h 2 jO;unfold Sy at this;rw [hd2,hd3] at this;simp at this
    | false =>
     rw [if_neg jD];refine ⟨λ_=>⟨by omega,by omega,λi hi=>?_⟩,λ_=>rfl⟩;unfold Fw at hd;simp only [Bool.or_eq_false_iff,Bool.and_eq_false_iff,decide_eq_false_iff_not,beq_eq_false_iff_ne] at hd;obtain ⟨⟨d0,d1⟩,d2⟩:=hd;have hp:=ha bs[i] (List.getElem_mem hi);rw [<- Ie hi] at hp;unfold Sy;rw [hp];by_cases h45:Dp bs i=45
     ·have i0:i ≠ 0:=λe=>d0 (by rw [<- e];exact h45);have i1:i ≠ bs.length - 1:=λe=>d1 (by rw [<- e];exact h45);rw [h45];have h2:(i != 2 || Dp bs 3 != 45)=true:=by
       by_cases i2:i=2
       ·subst i2;rcases d2 with (d2 | d2) | d2
        · exact absurd jO d2
        · exact absurd h45 d2
        · simp [d2]
       ·simp [i2]
      rw [h2,decide_eq_true (show 0<i by omega),decide_eq_true (show i+1<bs.length by omega)];rfl
     ·simp [h45]
theorem Ot {s:List UInt8} (h:∀ c ∈ s,c.toNat<128):Dm s=Ef (chars (s.map Am)):=by
 have e:s=Ag (chars s):=(Ej s h).symm;rw [e,E9 (Ea h),<- e];congr 1;have ha:Norm.Dx (chars s):=by
  intro c hc;obtain ⟨b,hb,rfl⟩:=List.mem_map.1 hc;have:=h b hb;omega
 rw [Norm.Jj ha];unfold chars;rw [List.map_map,List.map_map];refine List.map_congr_left λb hb=>?_;have hb1:=h b hb;show (if 65<=(b.toNat:Int)/\(b.toNat:Int)<=90 then (b.toNat:Int)+32 else b.toNat)=((Am b).toNat:Int)
 unfold Am;by_cases hc:65<=b.toNat/\b.toNat<=90
 ·rw [if_pos jO,if_pos hc,Ba jO];omega
 ·rw [if_neg jO,if_neg hc]
end Lab
end
