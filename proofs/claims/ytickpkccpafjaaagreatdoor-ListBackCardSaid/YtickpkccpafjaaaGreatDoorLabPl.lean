import Derived.Test.YtickpkccpafjaaaGreatDoorFoldB
import Derived.Test.YtickpkccpafjaaaGreatDoorPunyA
import Derived.Test.YtickpkccpafjaaaGreatDoorCtxAll
namespace Go.Proofs.YtickpkccpafjaaaGreatDoor
section
namespace Bidi
def Afn (b:Int):Bool:=b == 2 || b == 3 || b == 5
def has (l:List Int):Bool:=l.any λr=>Afn (Bv r)
def Ajq (b:Int):Int:=if b=3 then 2 else if b=1\/b=2 then b else 0
def side:List Int->Int
 | []=>0
 | r::_=>Ajq (Bv r)
def Apx:List Int->Int
 | []=>0
 | r::l=>if Bv r=6 then Apx l else Bv r
def stop (l:List Int):Int:=Apx l.reverse
def any (b:Int) (l:List Int):Bool:=l.any λr=>Bv r == b
def Ab5 (s:Int):Bool:=s == 2 || s == 3 || s == 4 || s == 5
def Ahj (s:Int):Bool:=s == 1 || s == 4
def Ih (l:List Int):Bool :=
 if side l=2 then !any 1 l && Ab5 (stop l) && !(any 4 l && any 5 l)
 else if side l=1 then !has l && Ahj (stop l) else false
def Aaw (l:List Int):Bool:=l.isEmpty || Ih l
theorem Afe {l:List Int} (h:l ≠ []):Aaw l=Ih l:=by
 cases l with
 | nil=>exact absurd rfl h
 | cons a l=>rfl
theorem Zh (l:List Int):side l=0\/side l=1\/side l=2:=by
 cases l with
 | nil=>exact .inl rfl
 | cons a l=>unfold side Ajq;split<;>(try split)<;>omega
theorem Ayf {l:List Int} (h:l ≠ []) (m:List Int):side (l ++ m)=side l:=by
 cases l with
 | nil=>exact absurd rfl h
 | cons a l=>rfl
theorem Vr (b:Int) (l m:List Int):any b (l ++ m)=(any b l || any b m):=by unfold any;rw [List.any_append]
theorem Azz (l m:List Int):has (l ++ m)=(has l || has m):=by unfold has;rw [List.any_append]
theorem Aeq (l:List Int):has l=(any 2 l || any 3 l || any 5 l):=by
 unfold has any Afn;induction l with
 | nil=>rfl
 | cons a l ih =>
  simp only [List.any_cons,ih];cases (Bv a == 2)<;>cases (Bv a == 3)<;>cases (Bv a == 5)<;>simp
theorem At3 (l:List Int) (x:Int) (h:Bv x ≠ 6):stop (l ++ [x])=Bv x:=by
 unfold stop;rw [List.reverse_append];show Apx (x::l.reverse)=_;rw [Apx,if_neg h]
def Bw (c:Int):Bool:=(decide (97<=c) && decide (c<=122)) || (decide (65<=c) && decide (c<=90)) || (decide (48<=c) && decide (c<=57)) || c == 45
theorem Anh:∀ i ∈ List.range 10,Bv (48+(i:Nat))=4:=by decide +kernel
theorem Alg {c:Int} (h:48<=c/\c<=57):Bv c=4:=by
 have:=Anh (c - 48).toNat (by rw [List.mem_range];omega);rwa [show (48:Int)+((c - 48).toNat:Int)=c by omega] at this
theorem digits {l:List Int} (hl:l ≠ []) (h:Aaw l=true) {c:Int} (hc:48<=c/\c<=57):Aaw (l ++ [c])=!any 5 l/\side (l ++ [c])=side l/\stop (l ++ [c])=4:=by
 have h4:=Alg hc;have h1:=Ayf hl [c];have h2:stop (l ++ [c])=4:=by rw [At3 _ _ jO,h4]
 refine ⟨?_,h1,h2⟩;rw [Afe hl] at h;rw [Afe jS];have a1:any 1 (l ++ [c])=any 1 l:=by rw [Vr];simp [any,h4]
 have a4:any 4 (l ++ [c])=true:=by rw [Vr];simp [any,h4]
 have a5:any 5 (l ++ [c])=any 5 l:=by rw [Vr];simp [any,h4]
 have ah:has (l ++ [c])=has l:=by rw [Azz];simp [has,Afn,h4]
 unfold Ih at h ⊢;rw [h1,h2,a1,a4,a5,ah];rcases Zh l with e | e | e
 ·rw [if_neg jO,if_neg jO] at h;cases h
 ·rw [if_neg jO,if_pos e,jag,Bool.not_eq_true'] at h;rw [if_neg jO,if_pos e,h.1];rw [Aeq] at h;simp only [Bool.or_eq_false_iff] at h;rw [h.1.2];rfl
 ·rw [if_pos e,jag,jag] at h;rw [if_pos e,h.1.1];simp [Ab5]
end Bidi
end
section
open Go.RowKit Utf
theorem Ds {l:List Int} (h:Af l=true):Af (Fold.fold l)=true:=X4 (Pp false (Rn h))
namespace Lab
def Ca (r:Int):Bool:=r == 45 || (decide (2<=D4 r) && decide (D4 r<=5) && match Ak r with | none=>true | some y=>!y.soft && !y.out)
def Eg (bs:List UInt8):Bool:=bs.all λc=>decide (c.toNat<128)
def Dr (bs:List UInt8) (i:Nat):Int:=(((bs[i]?).getD 0).toNat:Int)
def Fu (bs:List UInt8):Bool:=Dr bs 0 == 45 || Dr bs (bs.length - 1) == 45 || (decide (3<bs.length) && Dr bs 2 == 45 && Dr bs 3 == 45)
def Fy (bs:List UInt8):Int :=
 if bs.length=0 then 13 else if 63<bs.length then 5 else if (bs.all λc=>Bidi.Bw (c.toNat:Int))=false then 8 else if Fu bs then 11 else 0
def nfc (l:List Int):List Int:=Norm.join (Norm.down false l)
def Gt (l:List Int):Bool:=(List.range l.length).any λi=>Ctx.Yi l (i:Nat) == 2 || (Ctx.Yi l (i:Nat) == 0 && !Ca l[i]!)
def Em (l:List Int):Int :=
 if Eg (Ah l)=true\/nfc l ≠ l then 4 else if Fu (Ah l) then 11 else if D4 l[0]! = 4 then 10 else if Gt l then 8 else if Bidi.has l && !Bidi.Aaw l then 9 else if 59<(Puny.Bk l).length then 5 else 0
def Fq (bs:List UInt8):Int:=if (Aq bs).2=-1 then Em (ints (Aq bs).1) else 7
def sign:List UInt8:=[120,110,45,45]
def D9 (L:List Int):Int × List UInt8 × List UInt8 :=
 if Eg (Ah L)=false then (if Em L=0 then (0,sign ++ Puny.Bk L,Ah L) else (Em L,[],[]))
 else if (Ah L).take 4=sign then match Puny.Hq ((Ah L).drop 4) with
  | none=>(12,[],[])
  | some l=>if 63<(Ah L).length then (5,[],[]) else if Em l ≠ 0 then (Em l,[],[]) else if Puny.Bk l ≠ (Ah L).drop 4 then (12,[],[]) else (0,Ah L,Ah l)
 else if Fy (Ah L)=0 then (0,Ah L,Ah L) else (Fy (Ah L),[],[])
def Da (bs:List UInt8):Int × List UInt8 × List UInt8:=if (Aq bs).2=-1 then D9 (Fold.fold (ints (Aq bs).1)) else (7,[],[])
theorem Um {l:List Int} (h:Af l=true):Fq (Ah l)=Em l:=by
 unfold Fq;rw [Gp h,if_pos rfl,(D5 h).1]
theorem Fa {l:List Int} (h:Af l=true):Da (Ah l)=D9 (Fold.fold l):=by
 unfold Da;rw [Gp h,if_pos rfl,(D5 h).1]
theorem Jg {a b:List Int} (ha:Af a=true) (hb:Af b=true) (h:Ah a=Ah b):a=b:=by
 have h1:=Gp ha;rw [h,Gp hb] at h1;have h2:=(Prod.mk.inj h1).1;rw [<- (D5 ha).1,<- (D5 hb).1,h2]
def Amq (x:Int):Bool:=decide (Fold.fo x=x) && decide (Ak x=none) && !Norm.syl x && decide (D4 x ≠ 0/\D4 x ≠ 1/\D4 x ≠ 8)
theorem Atl:∀ x ∈ [8204,8205,183,885,1523,1524,12539] ++ (List.range 10).map (λi:Nat=>(1632:Int)+i) ++ (List.range 10).map (λi:Nat=>(1776:Int)+i),Amq x=true:=by decide +kernel
theorem Aw7 {x:Int} (h:Ctx.Cg x=true):Amq x=true:=by
 apply Atl;unfold Ctx.Cg at h;simp only [Bool.or_eq_true,beq_iff_eq,jag,decide_eq_true_eq] at h;simp only [jap,jal,List.mem_map,List.mem_range,List.not_mem_nil,or_false];rcases h with (((((((h | h) | h) | h) | h) | h) | h) | ⟨h1,h2⟩) | ⟨h1,h2⟩
 · exact .inl (.inl (.inl h))
 · exact .inl (.inl (.inr (.inl h)))
 · exact .inl (.inl (.inr (.inr (.inl h))))
 · exact .inl (.inl (.inr (.inr (.inr (.inl h)))))
 · exact .inl (.inl (.inr (.inr (.inr (.inr (.inl h))))))
 · exact .inl (.inl (.inr (.inr (.inr (.inr (.inr (.inl h)))))))
 · exact .inl (.inl (.inr (.inr (.inr (.inr (.inr (.inr h)))))))
 · exact .inl (.inr ⟨(x - 1632).toNat,by omega,by omega⟩)
 · exact .inr ⟨(x - 1776).toNat,by omega,by omega⟩
theorem Atj:∀ y ∈ splits,y.soft=false->Norm.pieces true y.rune=Norm.pieces false y.rune:=by decide +kernel
theorem Ato:∀ y ∈ splits,Bj y.rune=false:=by decide +kernel
theorem Z6 {x:Int} (h:Bj x=true):Ak x=some ⟨x,x - 65248,0,true,true⟩:=by
 unfold Ak rowOf;cases ho:Ha Sp.rune Sp.rune splits x with
 | none=>simp [h]
 | some y =>
  obtain ⟨h1,h2,h3⟩:=C8 ho;have:=Ato y h1;rw [show y.rune=x by omega,h] at this;cases this
def Still (x:Int):Prop:=Fold.fo x=x/\Norm.pieces true x=Norm.pieces false x/\D4 x ≠ 0/\D4 x ≠ 1/\D4 x ≠ 8
theorem Gl {x:Int} (hs:Norm.syl x=false) (h:Ak x=none) (soft:Bool):Norm.pieces soft x=[x]:=by
 rw [Norm.A9,hs,h];rfl
theorem Ail {x:Int} (h:Ctx.Cg x=true):Still x:=by
 have:=Aw7 h;unfold Amq at this;simp only [jag,decide_eq_true_eq,Bool.not_eq_true'] at this;obtain ⟨⟨⟨h1,h2⟩,h3⟩,h4⟩:=this;exact ⟨h1,by rw [Gl h3 h2,Gl h3 h2],h4⟩
theorem Ala:Still 45:=by
 have h:=Norm.Qo (c:=45) jO;refine ⟨by rw [Norm.Qn jO];rfl,?_,by decide +kernel⟩;rw [Norm.Dk.1 (Norm.Js jO true),Norm.Dk.1 (Norm.Js jO false)]
theorem Ak6 {x:Int} (h:Ca x=true):Still x:=by
 by_cases h45:x=45
 ·subst h45;exact Ala
 ·unfold Ca at h;rw [beq_eq_false_iff_ne.2 h45,Bool.false_or,jag,jag,decide_eq_true_eq,decide_eq_true_eq] at h;obtain ⟨⟨c1,c2⟩,hsp⟩:=h;have hw:Bj x=false:=by
   cases hw:Bj x with
   | false=>rfl
   | true=>rw [Z6 hw] at hsp;cases hsp
  have hlow:Fo x=x:=by
   rcases Ar6 x with h | h
   ·exact h
   ·unfold Awy at h;have:=(of_decide_eq_true h).2.1;omega
  refine ⟨?_,?_,by omega,by omega,by omega⟩
  ·unfold Fold.fo Fold.narrow;rw [hw];exact hlow
  ·cases ho:Ak x with
   | some y =>
    rw [ho] at hsp;simp only [jag,Bool.not_eq_true'] at hsp;rcases Bi ho with ⟨h1,rfl⟩ | ⟨h1,-⟩
    · exact Atj y h1 hsp.1
    · rw [hw] at h1;cases h1
   | none =>
    cases hs:Norm.syl x with
    | false=>rw [Gl hs ho,Gl hs ho]
    | true=>rw [Norm.A9,Norm.A9,hs];rfl
theorem Aze {l:List Int} (h:Gt l=false):∀ x ∈ l,Still x:=by
 intro x hx;obtain ⟨k,hk,rfl⟩:=List.getElem_of_mem hx;unfold Gt at h;rw [List.any_eq_false] at h;have h1:=h k (List.mem_range.2 hk);rw [Bool.or_eq_true,not_or] at h1;rw [getElem!_pos l k hk] at h1;cases hn:Ctx.Cg l[k] with
 | true=>exact Ail hn
 | false =>
  have h0:Ctx.Yi l (k:Nat)=0:=by rw [Ctx.Is hk,getElem!_pos l k hk,hn];rfl
  apply Ak6;cases hc:Ca l[k] with
  | true=>rfl
  | false=>exact absurd (by rw [h0,hc];rfl) h1.2
theorem Asf {l:List Int} (h:∀ x ∈ l,Still x):l.map Fold.fo=l:=Fold.Wa λc hc=>(h c hc).1
theorem Alj {l:List Int} (h:∀ x ∈ l,Still x):Norm.down true l=Norm.down false l:=by
 unfold Norm.down Norm.split
 congr 1;induction l with
 | nil=>rfl
 | cons x l ih =>
  rw [jao,jao,(h x jS).2.1,ih λy hy=>h y (by simp [hy])]
structure A07 (l:List Int):Prop where
 still:∀ x ∈ l,Still x
 wide:Eg (Ah l)=false
 same:nfc l=l
 fold:Fold.fold l=l
 soft:Norm.join (Norm.down true l)=l
 dash:Fu (Ah l)=false
 mark:D4 l[0]! ≠ 4
 short:(Puny.Bk l).length<=59
theorem Nl {l:List Int} (h:Em l=0):A07 l:=by
 unfold Em at h;split at h
 ·omega
 ·rename_i h1
  rw [not_or,Decidable.not_not] at h1;split at h
  ·omega
  ·rename_i h2
   split at h
   ·omega
   ·rename_i h3
    split at h
    ·omega
    ·rename_i h4
     split at h
     ·omega
     ·split at h
      ·omega
      ·rename_i h6
       have hs:=Aze (Bool.not_eq_true _ ▸ h4);refine ⟨hs,by simpa using h1.1,h1.2,?_,?_,by simpa using h2,h3,by omega⟩
       ·unfold Fold.fold;rw [Asf hs];exact h1.2
       ·rw [Alj hs];exact h1.2
theorem F1 {bs:List UInt8}:Eg bs=true ↔ ∀ c ∈ bs,c.toNat<128:=by
 unfold Eg;rw [jar];constructor
 · intro h c hc;exact of_decide_eq_true (h c hc)
 · intro h c hc;exact decide_eq_true (h c hc)
theorem Ax0 {l:List Int} (h:A07 l):l ≠ []:=λe=>by
 subst e;have:=h.wide;cases this
theorem Alu {l:List Int} (h:Af l=true):l.length<=(Puny.Bk l).length:=by
 have h1:=Puny.Pm h;have h2:=Puny.Q6 (Puny.Fv l) 72 (Puny.lt 128 l).length true;unfold Puny.Bk Puny.Cv Puny.Bg;rw [jab,jab,jai,jai];omega
theorem Atx {x:Int} (h0:0<=x) (h1:x<128) (h:Fold.fo x=x):Bc (UInt8.ofNat x.toNat)=UInt8.ofNat x.toNat:=by
 rw [Norm.Qn ⟨h0,h1⟩] at h;have hn:(UInt8.ofNat x.toNat).toNat=x.toNat:=UInt8.toNat_ofNat_of_lt' (by show x.toNat<256;omega);unfold Bc;rw [if_neg];rw [hn];intro hc;rw [if_pos jO] at h;omega
theorem Abv {l:List Int} (hr:Af l=true) (h:∀ x ∈ l,Fold.fo x=x):(Puny.Bk l).map Bc=Puny.Bk l:=by
 refine (List.map_congr_left λc hc=>?_).trans (List.map_id _);show Bc c=c;unfold Puny.Bk at hc;rcases jap.1 hc with hc | hc
 ·rcases jap.1 hc with hc | hc
  ·unfold Puny.Bg at hc;obtain ⟨x,hx,rfl⟩:=List.mem_map.1 hc;have h1:=Puny.Aey hx;exact Atx (Puny.Ud hr x h1.1) h1.2 (h x h1.1)
  ·unfold Puny.Kk at hc;split at hc
   · cases hc
   · rw [List.mem_singleton] at hc;subst hc;decide
 ·obtain ⟨v,hv,rfl⟩:=List.mem_map.1 hc;exact Puny.Zk (Puny.Ln _ _ _ _ (Puny.Gx (Eo hr)) v hv)
def chars (a:List UInt8):List Int:=a.map λb=>(b.toNat:Int)
theorem Eb {a:List UInt8} (h:∀ c ∈ a,c.toNat<128):Af (chars a)=true:=by
 unfold Af chars;rw [jar];intro c hc;obtain ⟨b,hb,rfl⟩:=List.mem_map.1 hc;have:=h b hb;exact (Al _).2 jO
theorem Ak7 {a:List UInt8} (h:∀ c ∈ a,c.toNat<128) (hs:a.map Bc=a):Fold.fold (chars a)=chars a:=by
 have ha:Norm.Eg (chars a):=by
  intro c hc;obtain ⟨b,hb,rfl⟩:=List.mem_map.1 hc;have:=h b hb;omega
 rw [Norm.J5 ha];unfold chars;rw [List.map_map];refine List.map_congr_left λb hb=>?_;have h1:Bc b=b:=by
  have h2:∀ (t:List UInt8),t.map Bc=t->∀ b ∈ t,Bc b=b:=by
   intro t;induction t with
   | nil=>intro _ b hb;cases hb
   | cons x t ih =>
    intro e b hb;rw [List.map_cons] at e;injection e with e1 e2
    rcases jal.1 hb with rfl | hb
    · exact e1
    · exact ih e2 b hb
  exact h2 a hs b hb
 have hb1:=h b hb;show (if 65<=(b.toNat:Int)/\(b.toNat:Int)<=90 then (b.toNat:Int)+32 else b.toNat)=b.toNat;rw [if_neg];intro hc;unfold Bc at h1;rw [if_pos jO] at h1;have:=congrArg UInt8.toNat h1;rw [Ba jO] at this;omega
theorem A0w:∀ c ∈ sign,c.toNat<128:=by decide
theorem Qd:sign.map Bc=sign:=by decide
theorem back {L:List Int} (hr:Af L=true) (hf:Fold.fold L=L) {a u:List UInt8} (h:D9 L=(0,a,u)) :
  ∃ U:List Int,u=Ah U/\Af U=true/\Fold.fold U=U/\U.length<=63/\D9 U=(0,a,u)/\(∀ c ∈ a,c.toNat<128)/\Fold.fold (chars a)=chars a/\D9 (chars a)=(0,a,u)/\0<a.length/\a.length<=63:=by
 have hfix:∀ x ∈ L,Fold.fo x=x:=by rw [<- hf];exact Fold.Re L
 unfold D9 at h;by_cases h1:Eg (Ah L)=false
 ·rw [if_pos h1] at h;by_cases h2:Em L=0
  ·rw [if_pos h2] at h;obtain ⟨-,rfl,rfl⟩:(0:Int)=0/\sign ++ Puny.Bk L=a/\Ah L=u:=by
    injection h with e1 e2
    injection e2 with e2 e3
    exact ⟨e1,e2,e3⟩
   have R:=Nl h2;have hge:=Alu hr;have hsh:=R.short;have hlt:∀ c ∈ sign ++ Puny.Bk L,c.toNat<128:=λc hc=>by
    rcases jap.1 hc with hc | hc
    ·exact A0w c hc
    ·exact Puny.Aoz hr c hc
   have hsm:(sign ++ Puny.Bk L).map Bc=sign ++ Puny.Bk L:=by rw [List.map_append,Qd,Abv hr hfix]
   refine ⟨L,rfl,hr,hf,by omega,?_,hlt,Ak7 hlt hsm,?_,by rw [jab];show 0<4+_;omega,by rw [jab];show 4+_<=63;omega⟩
   ·unfold D9;rw [if_pos h1,if_pos h2]
   ·unfold D9;rw [show Ah (chars (sign ++ Puny.Bk L))=sign ++ Puny.Bk L from En _ hlt];rw [if_neg (by rw [F1.2 hlt];decide),if_pos (by rw [List.take_append_of_le_length jD];rfl)];rw [show (sign ++ Puny.Bk L).drop 4=Puny.Bk L from List.drop_left' rfl,Puny.Vw hr jO];simp only;rw [if_neg (by rw [jab];show ¬ 63<4+_;omega),if_neg (by rw [h2];decide),if_neg jS]
  ·rw [if_neg h2] at h;injection h with e1 e2
   exact absurd e1 h2
 ·rw [if_neg h1] at h;have ha:∀ c ∈ Ah L,c.toNat<128:=F1.1 (by simpa using h1);have hch:chars (Ah L)=L:=Jg (Eb ha) hr (En _ ha);by_cases h3:(Ah L).take 4=sign
  ·rw [if_pos h3] at h;cases hd:Puny.Hq ((Ah L).drop 4) with
   | none =>
    rw [hd] at h;simp only at h;injection h with e1 e2
    exact absurd e1 jD
   | some l =>
    rw [hd] at h;simp only at h;by_cases h4:63<(Ah L).length
    ·rw [if_pos h4] at h;injection h with e1 e2
     exact absurd e1 jD
    ·rw [if_neg h4] at h;by_cases h5:Em l ≠ 0
     ·rw [if_pos h5] at h;injection h with e1 e2
      exact absurd e1 h5
     ·rw [if_neg h5] at h;rw [Decidable.not_not] at h5;by_cases h6:Puny.Bk l ≠ (Ah L).drop 4
      ·rw [if_pos h6] at h;injection h with e1 e2
       exact absurd e1 jD
      ·rw [if_neg h6] at h;obtain ⟨-,rfl,rfl⟩:(0:Int)=0/\Ah L=a/\Ah l=u:=by
        injection h with e1 e2
        injection e2 with e2 e3
        exact ⟨e1,e2,e3⟩
       rw [Decidable.not_not] at h6;have R:=Nl h5;obtain ⟨hrl,-,hll⟩:=Puny.Aej hd;have hge:=Alu hrl;have hsh:=R.short;have hcat:sign ++ Puny.Bk l=Ah L:=by rw [h6,<- h3,List.take_append_drop]
       refine ⟨l,rfl,hrl,R.fold,by omega,?_,ha,by rw [hch];exact hf,?_,?_,by omega⟩
       ·unfold D9;rw [if_pos R.wide,if_pos h5,hcat]
       ·rw [hch];unfold D9;rw [if_neg h1,if_pos h3,hd];simp only;rw [if_neg h4,if_neg (by rw [h5];decide),if_neg (by rw [h6];simp)]
       ·rw [<- hcat,jab];show 0<4+_;omega
  ·rw [if_neg h3] at h;by_cases h4:Fy (Ah L)=0
   ·rw [if_pos h4] at h;obtain ⟨-,rfl,rfl⟩:(0:Int)=0/\Ah L=a/\Ah L=u:=by
     injection h with e1 e2
     injection e2 with e2 e3
     exact ⟨e1,e2,e3⟩
    have hb:D9 L=(0,Ah L,Ah L):=by
     unfold D9;rw [if_neg h1,if_neg h3,if_pos h4]
    have hl:0<(Ah L).length/\(Ah L).length<=63:=by
     unfold Fy at h4;split at h4
     ·omega
     ·split at h4
      ·omega
      ·omega
    have hLL:L.length=(Ah L).length:=by
     have:=congrArg List.length hch;unfold chars at this;rw [jai] at this;exact this.symm
    refine ⟨L,rfl,hr,hf,by omega,hb,ha,by rw [hch];exact hf,by rw [hch];exact hb,hl.1,hl.2⟩
   ·rw [if_neg h4] at h;injection h with e1 e2
    exact absurd e1 h4
end Lab
end
section
open Go.RowKit Utf
namespace Lab
theorem Pb {s:List UInt8} (h:(Aq s).2=-1):Af (ints (Aq s).1)=true/\s=Ah (ints (Aq s).1):=by
 obtain ⟨h1,-,h3⟩:=D6 (s:=s) (m:=(Aq s).1) (z:=(Aq s).2) rfl;obtain ⟨h4,h5⟩:=Lp _ h1;refine ⟨h4,?_⟩;rcases h3 with ⟨-,h3⟩ | ⟨k,hk,-⟩
 · rw [h5,h3]
 · omega
theorem Abu (x:Int) (t:List Int) (h:0<=x/\x<128):Ah (x::t)=UInt8.ofNat x.toNat::Ah t:=by
 unfold Ah;rw [jao];unfold enc;rw [if_pos jO];rfl
def Tx (bs:List UInt8) (i:Nat):Bool :=
 (Bidi.Bw (Dr bs i) && Dr bs i != 45) || (Dr bs i == 45 && decide (0<i) && decide (i+1<bs.length) && (i != 2 || Dr bs 3 != 45))
theorem Iw {bs:List UInt8} {i:Nat} (h:i<bs.length):Dr bs i=(bs[i].toNat:Int):=by
 unfold Dr;rw [List.getElem?_eq_getElem h];rfl
theorem Asy (bs:List UInt8):Fy bs=0 ↔ 0<bs.length/\bs.length<=63/\∀ i,i<bs.length->Tx bs i=true:=by
 unfold Fy;by_cases h0:bs.length=0
 ·rw [if_pos h0];constructor
  ·intro h;exact absurd h jD
  ·rintro ⟨h,-⟩;omega
 ·rw [if_neg h0];by_cases h1:63<bs.length
  ·rw [if_pos h1];constructor
   ·intro h;exact absurd h jD
   ·rintro ⟨-,h,-⟩;omega
  ·rw [if_neg h1];cases ha:(bs.all λc=>Bidi.Bw (c.toNat:Int)) with
   | false =>
    rw [if_pos rfl];constructor
    ·intro h;exact absurd h jD
    ·rintro ⟨-,-,h⟩;exfalso;rw [List.all_eq_false] at ha;obtain ⟨c,hc,hp⟩:=ha;obtain ⟨k,hk,rfl⟩:=List.getElem_of_mem hc;have:=h k hk;unfold Tx at this;rw [Iw hk] at this;simp only [Bool.or_eq_true,jag] at this;rcases this with h2 | h2
     ·exact hp h2.1
     ·have:(bs[k].toNat:Int)=45:=by simpa using h2.1.1.1
      rw [this] at hp;exact hp jD
   | true =>
    rw [if_neg jD];rw [jar] at ha;cases hd:Fu bs with
    | true =>
     rw [if_pos rfl];constructor
     ·intro h;exact absurd h jD
     ·rintro ⟨-,-,h⟩;exfalso;unfold Fu at hd;simp only [Bool.or_eq_true,jag,decide_eq_true_eq,beq_iff_eq] at hd;rcases hd with (hd | hd) | ⟨⟨h3,hd2⟩,hd3⟩
      ·have:=h 0 jO;unfold Tx at this;rw [hd] at this;simp at this
      ·have:=h (bs.length - 1) jO;unfold Tx at this;rw [hd] at this;simp at this;omega
      ·have:=h 2 jO;unfold Tx at this;rw [hd2,hd3] at this;simp at this
    | false =>
     rw [if_neg jD];refine ⟨λ_=>⟨by omega,by omega,λi hi=>?_⟩,λ_=>rfl⟩;unfold Fu at hd;simp only [Bool.or_eq_false_iff,Bool.and_eq_false_iff,decide_eq_false_iff_not,beq_eq_false_iff_ne] at hd;obtain ⟨⟨d0,d1⟩,d2⟩:=hd;have hp:=ha bs[i] (List.getElem_mem hi);rw [<- Iw hi] at hp;unfold Tx;rw [hp];by_cases h45:Dr bs i=45
     ·have i0:i ≠ 0:=λe=>d0 (by rw [<- e];exact h45);have i1:i ≠ bs.length - 1:=λe=>d1 (by rw [<- e];exact h45);rw [h45];have h2:(i != 2 || Dr bs 3 != 45)=true:=by
       by_cases i2:i=2
       ·subst i2;rcases d2 with (d2 | d2) | d2
        · exact absurd jO d2
        · exact absurd h45 d2
        · simp [d2]
       ·simp [i2]
      rw [h2,decide_eq_true (show 0<i by omega),decide_eq_true (show i+1<bs.length by omega)];rfl
     ·simp [h45]
theorem Pg {s:List UInt8} (h:∀ c ∈ s,c.toNat<128):Da s=D9 (chars (s.map Bc)):=by
 have e:s=Ah (chars s):=(En s h).symm;rw [e,Fa (Eb h),<- e];congr 1;have ha:Norm.Eg (chars s):=by
  intro c hc;obtain ⟨b,hb,rfl⟩:=List.mem_map.1 hc;have:=h b hb;omega
 rw [Norm.J5 ha];unfold chars;rw [List.map_map,List.map_map];refine List.map_congr_left λb hb=>?_;have hb1:=h b hb;show (if 65<=(b.toNat:Int)/\(b.toNat:Int)<=90 then (b.toNat:Int)+32 else b.toNat)=((Bc b).toNat:Int)
 unfold Bc;by_cases hc:65<=b.toNat/\b.toNat<=90
 ·rw [if_pos jO,if_pos hc,Ba jO];omega
 ·rw [if_neg jO,if_neg hc]
end Lab
end
