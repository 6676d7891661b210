import Derived.Test.YtipkfalbepiphaaGreatDoorFoldB
import Derived.Test.YtipkfalbepiphaaGreatDoorPunyA
import Derived.Test.YtipkfalbepiphaaGreatDoorCtxAll
namespace Go.Proofs.YtipkfalbepiphaaGreatDoor
section
namespace Bidi
def Ag7 (b:Int):Bool:=b == 2 || b == 3 || b == 5
def has (l:List Int):Bool:=l.any λr=>Ag7 (Cd r)
def Alj (b:Int):Int:=if b=3 then 2 else if b=1\/b=2 then b else 0
def side:List Int->Int
 | []=>0
 | r::_=>Alj (Cd r)
def Ar6:List Int->Int
 | []=>0
 | r::l=>if Cd r=6 then Ar6 l else Cd r
def stop (l:List Int):Int:=Ar6 l.reverse
def any (b:Int) (l:List Int):Bool:=l.any λr=>Cd r == b
def Adf (s:Int):Bool:=s == 2 || s == 3 || s == 4 || s == 5
def Ai8 (s:Int):Bool:=s == 1 || s == 4
def Iq (l:List Int):Bool :=
 if side l=2 then !any 1 l && Adf (stop l) && !(any 4 l && any 5 l)
 else if side l=1 then !has l && Ai8 (stop l) else false
def Aby (l:List Int):Bool:=l.isEmpty || Iq l
theorem Agy {l:List Int} (h:l ≠ []):Aby l=Iq l:=by
 cases l with
 | nil=>exact absurd rfl h
 | cons a l=>rfl
theorem Aaf (l:List Int):side l=0\/side l=1\/side l=2:=by
 cases l with
 | nil=>exact .inl rfl
 | cons a l=>unfold side Alj;split<;>(try split)<;>omega
theorem A1n {l:List Int} (h:l ≠ []) (m:List Int):side (l ++ m)=side l:=by
 cases l with
 | nil=>exact absurd rfl h
 | cons a l=>rfl
theorem Wu (b:Int) (l m:List Int):any b (l ++ m)=(any b l || any b m):=by unfold any;rw [List.any_append]
theorem A3q (l m:List Int):has (l ++ m)=(has l || has m):=by unfold has;rw [List.any_append]
theorem Afz (l:List Int):has l=(any 2 l || any 3 l || any 5 l):=by
 unfold has any Ag7;induction l with
 | nil=>rfl
 | cons a l ih =>
  simp only [List.any_cons,ih];cases (Cd a == 2)<;>cases (Cd a == 3)<;>cases (Cd a == 5)<;>simp
theorem Awm (l:List Int) (x:Int) (h:Cd x ≠ 6):stop (l ++ [x])=Cd x:=by
 unfold stop;rw [List.reverse_append];show Ar6 (x::l.reverse)=_;rw [Ar6,if_neg h]
def Ce (c:Int):Bool:=(decide (97<=c) && decide (c<=122)) || (decide (65<=c) && decide (c<=90)) || (decide (48<=c) && decide (c<=57)) || c == 45
theorem Apn:∀ i ∈ List.range 10,Cd (48+(i:Nat))=4:=by decide +kernel
theorem Anc {c:Int} (h:48<=c/\c<=57):Cd c=4:=by
 have:=Apn (c - 48).toNat (by rw [List.mem_range];omega);rwa [show (48:Int)+((c - 48).toNat:Int)=c by omega] at this
theorem digits {l:List Int} (hl:l ≠ []) (h:Aby l=true) {c:Int} (hc:48<=c/\c<=57):Aby (l ++ [c])=!any 5 l/\side (l ++ [c])=side l/\stop (l ++ [c])=4:=by
 have h4:=Anc hc;have h1:=A1n hl [c];have h2:stop (l ++ [c])=4:=by rw [Awm _ _ jO,h4]
 refine ⟨?_,h1,h2⟩;rw [Agy hl] at h;rw [Agy jS];have a1:any 1 (l ++ [c])=any 1 l:=by rw [Wu];simp [any,h4]
 have a4:any 4 (l ++ [c])=true:=by rw [Wu];simp [any,h4]
 have a5:any 5 (l ++ [c])=any 5 l:=by rw [Wu];simp [any,h4]
 have ah:has (l ++ [c])=has l:=by rw [A3q];simp [has,Ag7,h4]
 unfold Iq at h ⊢;rw [h1,h2,a1,a4,a5,ah];rcases Aaf l with e | e | e
 ·rw [if_neg jO,if_neg jO] at h;cases h
 ·rw [if_neg jO,if_pos e,jag,Bool.not_eq_true'] at h;rw [if_neg jO,if_pos e,h.1];rw [Afz] at h;simp only [Bool.or_eq_false_iff] at h;rw [h.1.2];rfl
 ·rw [if_pos e,jag,jag] at h;rw [if_pos e,h.1.1];simp [Adf]
end Bidi
end
section
open Go.RowKit Utf
theorem El {l:List Int} (h:Ae l=true):Ae (Fold.fold l)=true:=Y7 (Qo false (Sk h))
namespace Lab
def Cg (r:Int):Bool:=r == 45 || (decide (2<=Ec r) && decide (Ec r<=5) && match Ak r with | none=>true | some y=>!y.soft && !y.out)
def Eb (bs:List UInt8):Bool:=bs.all λc=>decide (c.toNat<128)
def D4 (bs:List UInt8) (i:Nat):Int:=(((bs[i]?).getD 0).toNat:Int)
def F3 (bs:List UInt8):Bool:=D4 bs 0 == 45 || D4 bs (bs.length - 1) == 45 || (decide (3<bs.length) && D4 bs 2 == 45 && D4 bs 3 == 45)
def F9 (bs:List UInt8):Int :=
 if bs.length=0 then 13 else if 63<bs.length then 5 else if (bs.all λc=>Bidi.Ce (c.toNat:Int))=false then 8 else if F3 bs then 11 else 0
def nfc (l:List Int):List Int:=Norm.join (Norm.down false l)
def Hc (l:List Int):Bool:=(List.range l.length).any λi=>Ctx.Zh l (i:Nat) == 2 || (Ctx.Zh l (i:Nat) == 0 && !Cg l[i]!)
def Ev (l:List Int):Int :=
 if Eb (Ah l)=true\/nfc l ≠ l then 4 else if F3 (Ah l) then 11 else if Ec l[0]! = 4 then 10 else if Hc l then 8 else if Bidi.has l && !Bidi.Aby l then 9 else if 59<(Puny.Bq l).length then 5 else 0
def Fz (bs:List UInt8):Int:=if (Au bs).2=-1 then Ev (ints (Au bs).1) else 7
def sign:List UInt8:=[120,110,45,45]
def Eo (L:List Int):Int × List UInt8 × List UInt8 :=
 if Eb (Ah L)=false then (if Ev L=0 then (0,sign ++ Puny.Bq L,Ah L) else (Ev L,[],[]))
 else if (Ah L).take 4=sign then match Puny.Ig ((Ah L).drop 4) with
  | none=>(12,[],[])
  | some l=>if 63<(Ah L).length then (5,[],[]) else if Ev l ≠ 0 then (Ev l,[],[]) else if Puny.Bq l ≠ (Ah L).drop 4 then (12,[],[]) else (0,Ah L,Ah l)
 else if F9 (Ah L)=0 then (0,Ah L,Ah L) else (F9 (Ah L),[],[])
def Dz (bs:List UInt8):Int × List UInt8 × List UInt8:=if (Au bs).2=-1 then Eo (Fold.fold (ints (Au bs).1)) else (7,[],[])
theorem Vj {l:List Int} (h:Ae l=true):Fz (Ah l)=Ev l:=by
 unfold Fz;rw [Gy h,if_pos rfl,(Ed h).1]
theorem Fm {l:List Int} (h:Ae l=true):Dz (Ah l)=Eo (Fold.fold l):=by
 unfold Dz;rw [Gy h,if_pos rfl,(Ed h).1]
theorem Jp {a b:List Int} (ha:Ae a=true) (hb:Ae b=true) (h:Ah a=Ah b):a=b:=by
 have h1:=Gy ha;rw [h,Gy hb] at h1;have h2:=(Prod.mk.inj h1).1;rw [<- (Ed ha).1,<- (Ed hb).1,h2]
def Aoo (x:Int):Bool:=decide (Fold.fo x=x) && decide (Ak x=none) && !Norm.syl x && decide (Ec x ≠ 0/\Ec x ≠ 1/\Ec x ≠ 8)
theorem Av0:∀ x ∈ [8204,8205,183,885,1523,1524,12539] ++ (List.range 10).map (λi:Nat=>(1632:Int)+i) ++ (List.range 10).map (λi:Nat=>(1776:Int)+i),Aoo x=true:=by decide +kernel
theorem A0a {x:Int} (h:Ctx.Ci x=true):Aoo x=true:=by
 apply Av0;unfold Ctx.Ci at h;simp only [Bool.or_eq_true,beq_iff_eq,jag,decide_eq_true_eq] at h;simp only [jap,jal,List.mem_map,List.mem_range,List.not_mem_nil,or_false];rcases h with (((((((h | h) | h) | h) | h) | h) | h) | ⟨h1,h2⟩) | ⟨h1,h2⟩
 · exact .inl (.inl (.inl h))
 · exact .inl (.inl (.inr (.inl h)))
 · exact .inl (.inl (.inr (.inr (.inl h))))
 · exact .inl (.inl (.inr (.inr (.inr (.inl h)))))
 · exact .inl (.inl (.inr (.inr (.inr (.inr (.inl h))))))
 · exact .inl (.inl (.inr (.inr (.inr (.inr (.inr (.inl h)))))))
 · exact .inl (.inl (.inr (.inr (.inr (.inr (.inr (.inr h)))))))
 · exact .inl (.inr ⟨(x - 1632).toNat,by omega,by omega⟩)
 · exact .inr ⟨(x - 1776).toNat,by omega,by omega⟩
theorem Avy:∀ y ∈ splits,y.soft=false->Norm.pieces true y.rune=Norm.pieces false y.rune:=by decide +kernel
theorem Av3:∀ y ∈ splits,Bp y.rune=false:=by decide +kernel
theorem Aa4 {x:Int} (h:Bp x=true):Ak x=some ⟨x,x - 65248,0,true,true⟩:=by
 unfold Ak rowOf;cases ho:Hn Sp.rune Sp.rune splits x with
 | none=>simp [h]
 | some y =>
  obtain ⟨h1,h2,h3⟩:=Dm ho;have:=Av3 y h1;rw [show y.rune=x by omega,h] at this;cases this
def Still (x:Int):Prop:=Fold.fo x=x/\Norm.pieces true x=Norm.pieces false x/\Ec x ≠ 0/\Ec x ≠ 1/\Ec x ≠ 8
theorem Gw {x:Int} (hs:Norm.syl x=false) (h:Ak x=none) (soft:Bool):Norm.pieces soft x=[x]:=by
 rw [Norm.Ba,hs,h];rfl
theorem Akc {x:Int} (h:Ctx.Ci x=true):Still x:=by
 have:=A0a h;unfold Aoo at this;simp only [jag,decide_eq_true_eq,Bool.not_eq_true'] at this;obtain ⟨⟨⟨h1,h2⟩,h3⟩,h4⟩:=this;exact ⟨h1,by rw [Gw h3 h2,Gw h3 h2],h4⟩
theorem Am6:Still 45:=by
 have h:=Norm.Rk (c:=45) jO;refine ⟨by rw [Norm.Rj jO];rfl,?_,by decide +kernel⟩;rw [Norm.Dy.1 (Norm.Kd jO true),Norm.Dy.1 (Norm.Kd jO false)]
theorem Am2 {x:Int} (h:Cg x=true):Still x:=by
 by_cases h45:x=45
 ·subst h45;exact Am6
 ·unfold Cg at h;rw [beq_eq_false_iff_ne.2 h45,Bool.false_or,jag,jag,decide_eq_true_eq,decide_eq_true_eq] at h;obtain ⟨⟨c1,c2⟩,hsp⟩:=h;have hw:Bp x=false:=by
   cases hw:Bp x with
   | false=>rfl
   | true=>rw [Aa4 hw] at hsp;cases hsp
  have hlow:Fx x=x:=by
   rcases Aub x with h | h
   ·exact h
   ·unfold Azy at h;have:=(of_decide_eq_true h).2.1;omega
  refine ⟨?_,?_,by omega,by omega,by omega⟩
  ·unfold Fold.fo Fold.narrow;rw [hw];exact hlow
  ·cases ho:Ak x with
   | some y =>
    rw [ho] at hsp;simp only [jag,Bool.not_eq_true'] at hsp;rcases Bn ho with ⟨h1,rfl⟩ | ⟨h1,-⟩
    · exact Avy y h1 hsp.1
    · rw [hw] at h1;cases h1
   | none =>
    cases hs:Norm.syl x with
    | false=>rw [Gw hs ho,Gw hs ho]
    | true=>rw [Norm.Ba,Norm.Ba,hs];rfl
theorem A2y {l:List Int} (h:Hc l=false):∀ x ∈ l,Still x:=by
 intro x hx;obtain ⟨k,hk,rfl⟩:=List.getElem_of_mem hx;unfold Hc at h;rw [List.any_eq_false] at h;have h1:=h k (List.mem_range.2 hk);rw [Bool.or_eq_true,not_or] at h1;rw [getElem!_pos l k hk] at h1;cases hn:Ctx.Ci l[k] with
 | true=>exact Akc hn
 | false =>
  have h0:Ctx.Zh l (k:Nat)=0:=by rw [Ctx.Jb hk,getElem!_pos l k hk,hn];rfl
  apply Am2;cases hc:Cg l[k] with
  | true=>rfl
  | false=>exact absurd (by rw [h0,hc];rfl) h1.2
theorem Aul {l:List Int} (h:∀ x ∈ l,Still x):l.map Fold.fo=l:=Fold.Xd λc hc=>(h c hc).1
theorem Anh {l:List Int} (h:∀ x ∈ l,Still x):Norm.down true l=Norm.down false l:=by
 unfold Norm.down Norm.split
 congr 1;induction l with
 | nil=>rfl
 | cons x l ih =>
  rw [jao,jao,(h x jS).2.1,ih λy hy=>h y (by simp [hy])]
structure A41 (l:List Int):Prop where
 still:∀ x ∈ l,Still x
 wide:Eb (Ah l)=false
 same:nfc l=l
 fold:Fold.fold l=l
 soft:Norm.join (Norm.down true l)=l
 dash:F3 (Ah l)=false
 mark:Ec l[0]! ≠ 4
 short:(Puny.Bq l).length<=59
theorem Od {l:List Int} (h:Ev l=0):A41 l:=by
 unfold Ev at h;split at h
 ·omega
 ·rename_i h1
  rw [not_or,Decidable.not_not] at h1;split at h
  ·omega
  ·rename_i h2
   split at h
   ·omega
   ·rename_i h3
    split at h
    ·omega
    ·rename_i h4
     split at h
     ·omega
     ·split at h
      ·omega
      ·rename_i h6
       have hs:=A2y (Bool.not_eq_true _ ▸ h4);refine ⟨hs,by simpa using h1.1,h1.2,?_,?_,by simpa using h2,h3,by omega⟩
       ·unfold Fold.fold;rw [Aul hs];exact h1.2
       ·rw [Anh hs];exact h1.2
theorem Du {bs:List UInt8}:Eb bs=true ↔ ∀ c ∈ bs,c.toNat<128:=by
 unfold Eb;rw [jar];constructor
 · intro h c hc;exact of_decide_eq_true (h c hc)
 · intro h c hc;exact decide_eq_true (h c hc)
theorem Alc {l:List Int} (h:A41 l):l ≠ []:=λe=>by
 subst e;have:=h.wide;cases this
theorem Anp {l:List Int} (h:Ae l=true):l.length<=(Puny.Bq l).length:=by
 have h1:=Puny.Ql h;have h2:=Puny.R4 (Puny.F5 l) 72 (Puny.lt 128 l).length true;unfold Puny.Bq Puny.Da Puny.Bg;rw [jab,jab,jai,jai];omega
theorem Awg {x:Int} (h0:0<=x) (h1:x<128) (h:Fold.fo x=x):Af (UInt8.ofNat x.toNat)=UInt8.ofNat x.toNat:=by
 rw [Norm.Rj ⟨h0,h1⟩] at h;have hn:(UInt8.ofNat x.toNat).toNat=x.toNat:=UInt8.toNat_ofNat_of_lt' (by show x.toNat<256;omega);unfold Af;rw [if_neg];rw [hn];intro hc;rw [if_pos jO] at h;omega
theorem Ac6 {l:List Int} (hr:Ae l=true) (h:∀ x ∈ l,Fold.fo x=x):(Puny.Bq l).map Af=Puny.Bq l:=by
 refine (List.map_congr_left λc hc=>?_).trans (List.map_id _);show Af c=c;unfold Puny.Bq at hc;rcases jap.1 hc with hc | hc
 ·rcases jap.1 hc with hc | hc
  ·unfold Puny.Bg at hc;obtain ⟨x,hx,rfl⟩:=List.mem_map.1 hc;have h1:=Puny.Af8 hx;exact Awg (Puny.U8 hr x h1.1) h1.2 (h x h1.1)
  ·unfold Puny.La at hc;split at hc
   · cases hc
   · rw [List.mem_singleton] at hc;subst hc;decide
 ·obtain ⟨v,hv,rfl⟩:=List.mem_map.1 hc;exact Puny.Aak (Puny.Md _ _ _ _ (Puny.Hh (Ew hr)) v hv)
def chars (a:List UInt8):List Int:=a.map λb=>(b.toNat:Int)
theorem Di {a:List UInt8} (h:∀ c ∈ a,c.toNat<128):Ae (chars a)=true:=by
 unfold Ae chars;rw [jar];intro c hc;obtain ⟨b,hb,rfl⟩:=List.mem_map.1 hc;have:=h b hb;exact (An _).2 jO
theorem Am3 {a:List UInt8} (h:∀ c ∈ a,c.toNat<128) (hs:a.map Af=a):Fold.fold (chars a)=chars a:=by
 have ha:Norm.Eb (chars a):=by
  intro c hc;obtain ⟨b,hb,rfl⟩:=List.mem_map.1 hc;have:=h b hb;omega
 rw [Norm.Fu ha];unfold chars;rw [List.map_map];refine List.map_congr_left λb hb=>?_;have h1:Af b=b:=by
  have h2:∀ (t:List UInt8),t.map Af=t->∀ b ∈ t,Af b=b:=by
   intro t;induction t with
   | nil=>intro _ b hb;cases hb
   | cons x t ih =>
    intro e b hb;rw [List.map_cons] at e;injection e with e1 e2
    rcases jal.1 hb with rfl | hb
    · exact e1
    · exact ih e2 b hb
  exact h2 a hs b hb
 have hb1:=h b hb;show (if 65<=(b.toNat:Int)/\(b.toNat:Int)<=90 then (b.toNat:Int)+32 else b.toNat)=b.toNat;rw [if_neg];intro hc;unfold Af at h1;rw [if_pos jO] at h1;have:=congrArg UInt8.toNat h1;rw [Bb jO] at this;omega
theorem A4p:∀ c ∈ sign,c.toNat<128:=by decide
theorem Q4:sign.map Af=sign:=by decide
theorem back {L:List Int} (hr:Ae L=true) (hf:Fold.fold L=L) {a u:List UInt8} (h:Eo L=(0,a,u)) :
  ∃ U:List Int,u=Ah U/\Ae U=true/\Fold.fold U=U/\U.length<=63/\Eo U=(0,a,u)/\(∀ c ∈ a,c.toNat<128)/\Fold.fold (chars a)=chars a/\Eo (chars a)=(0,a,u)/\0<a.length/\a.length<=63:=by
 have hfix:∀ x ∈ L,Fold.fo x=x:=by rw [<- hf];exact Fold.Sd L
 unfold Eo at h;by_cases h1:Eb (Ah L)=false
 ·rw [if_pos h1] at h;by_cases h2:Ev L=0
  ·rw [if_pos h2] at h;obtain ⟨-,rfl,rfl⟩:(0:Int)=0/\sign ++ Puny.Bq L=a/\Ah L=u:=by
    injection h with e1 e2
    injection e2 with e2 e3
    exact ⟨e1,e2,e3⟩
   have R:=Od h2;have hge:=Anp hr;have hsh:=R.short;have hlt:∀ c ∈ sign ++ Puny.Bq L,c.toNat<128:=λc hc=>by
    rcases jap.1 hc with hc | hc
    ·exact A4p c hc
    ·exact Puny.Aq8 hr c hc
   have hsm:(sign ++ Puny.Bq L).map Af=sign ++ Puny.Bq L:=by rw [List.map_append,Q4,Ac6 hr hfix]
   refine ⟨L,rfl,hr,hf,by omega,?_,hlt,Am3 hlt hsm,?_,by rw [jab];show 0<4+_;omega,by rw [jab];show 4+_<=63;omega⟩
   ·unfold Eo;rw [if_pos h1,if_pos h2]
   ·unfold Eo;rw [show Ah (chars (sign ++ Puny.Bq L))=sign ++ Puny.Bq L from Dv _ hlt];rw [if_neg (by rw [Du.2 hlt];decide),if_pos (by rw [List.take_append_of_le_length jD];rfl)];rw [show (sign ++ Puny.Bq L).drop 4=Puny.Bq L from List.drop_left' rfl,Puny.Afl hr jO];simp only;rw [if_neg (by rw [jab];show ¬ 63<4+_;omega),if_neg (by rw [h2];decide),if_neg jS]
  ·rw [if_neg h2] at h;injection h with e1 e2
   exact absurd e1 h2
 ·rw [if_neg h1] at h;have ha:∀ c ∈ Ah L,c.toNat<128:=Du.1 (by simpa using h1);have hch:chars (Ah L)=L:=Jp (Di ha) hr (Dv _ ha);by_cases h3:(Ah L).take 4=sign
  ·rw [if_pos h3] at h;cases hd:Puny.Ig ((Ah L).drop 4) with
   | none =>
    rw [hd] at h;simp only at h;injection h with e1 e2
    exact absurd e1 jD
   | some l =>
    rw [hd] at h;simp only at h;by_cases h4:63<(Ah L).length
    ·rw [if_pos h4] at h;injection h with e1 e2
     exact absurd e1 jD
    ·rw [if_neg h4] at h;by_cases h5:Ev l ≠ 0
     ·rw [if_pos h5] at h;injection h with e1 e2
      exact absurd e1 h5
     ·rw [if_neg h5] at h;rw [Decidable.not_not] at h5;by_cases h6:Puny.Bq l ≠ (Ah L).drop 4
      ·rw [if_pos h6] at h;injection h with e1 e2
       exact absurd e1 jD
      ·rw [if_neg h6] at h;obtain ⟨-,rfl,rfl⟩:(0:Int)=0/\Ah L=a/\Ah l=u:=by
        injection h with e1 e2
        injection e2 with e2 e3
        exact ⟨e1,e2,e3⟩
       rw [Decidable.not_not] at h6;have R:=Od h5;obtain ⟨hrl,-,hll⟩:=Puny.Afq hd;have hge:=Anp hrl;have hsh:=R.short;have hcat:sign ++ Puny.Bq l=Ah L:=by rw [h6,<- h3,List.take_append_drop]
       refine ⟨l,rfl,hrl,R.fold,by omega,?_,ha,by rw [hch];exact hf,?_,?_,by omega⟩
       ·unfold Eo;rw [if_pos R.wide,if_pos h5,hcat]
       ·rw [hch];unfold Eo;rw [if_neg h1,if_pos h3,hd];simp only;rw [if_neg h4,if_neg (by rw [h5];decide),if_neg (by rw [h6];simp)]
       ·rw [<- hcat,jab];show 0<4+_;omega
  ·rw [if_neg h3] at h;by_cases h4:F9 (Ah L)=0
   ·rw [if_pos h4] at h;obtain ⟨-,rfl,rfl⟩:(0:Int)=0/\Ah L=a/\Ah L=u:=by
     injection h with e1 e2
     injection e2 with e2 e3
     exact ⟨e1,e2,e3⟩
    have hb:Eo L=(0,Ah L,Ah L):=by
     unfold Eo;rw [if_neg h1,if_neg h3,if_pos h4]
    have hl:0<(Ah L).length/\(Ah L).length<=63:=by
     unfold F9 at h4;split at h4
     ·omega
     ·split at h4
      ·omega
      ·omega
    have hLL:L.length=(Ah L).length:=by
     have:=congrArg List.length hch;unfold chars at this;rw [jai] at this;exact this.symm
    refine ⟨L,rfl,hr,hf,by omega,hb,ha,by rw [hch];exact hf,by rw [hch];exact hb,hl.1,hl.2⟩
   ·rw [if_neg h4] at h;injection h with e1 e2
    exact absurd e1 h4
end Lab
end
section
open Go.RowKit Utf
namespace Lab
theorem Sx {s:List UInt8} (h:(Au s).2=-1):Ae (ints (Au s).1)=true/\s=Ah (ints (Au s).1):=by
 obtain ⟨h1,-,h3⟩:=Eu (s:=s) (m:=(Au s).1) (z:=(Au s).2) rfl;obtain ⟨h4,h5⟩:=Mh _ h1;refine ⟨h4,?_⟩;rcases h3 with ⟨-,h3⟩ | ⟨k,hk,-⟩
 · rw [h5,h3]
 · omega
theorem Ac5 (x:Int) (t:List Int) (h:0<=x/\x<128):Ah (x::t)=UInt8.ofNat x.toNat::Ah t:=by
 unfold Ah;rw [jao];unfold enc;rw [if_pos jO];rfl
def Uy (bs:List UInt8) (i:Nat):Bool :=
 (Bidi.Ce (D4 bs i) && D4 bs i != 45) || (D4 bs i == 45 && decide (0<i) && decide (i+1<bs.length) && (i != 2 || D4 bs 3 != 45))
theorem Je {bs:List UInt8} {i:Nat} (h:i<bs.length):D4 bs i=(bs[i].toNat:Int):=by
 unfold D4;rw [List.getElem?_eq_getElem h];rfl
theorem Au9 (bs:List UInt8):F9 bs=0 ↔ 0<bs.length/\bs.length<=63/\∀ i,i<bs.length->Uy bs i=true:=by
 unfold F9;by_cases h0:bs.length=0
 ·rw [if_pos h0];constructor
  ·intro h;exact absurd h jD
  ·rintro ⟨h,-⟩;omega
 ·rw [if_neg h0];by_cases h1:63<bs.length
  ·rw [if_pos h1];constructor
   ·intro h;exact absurd h jD
   ·rintro ⟨-,h,-⟩;omega
  ·rw [if_neg h1];cases ha:(bs.all λc=>Bidi.Ce (c.toNat:Int)) with
   | false =>
    rw [if_pos rfl];constructor
    ·intro h;exact absurd h jD
    ·rintro ⟨-,-,h⟩;exfalso;rw [List.all_eq_false] at ha;obtain ⟨c,hc,hp⟩:=ha;obtain ⟨k,hk,rfl⟩:=List.getElem_of_mem hc;have:=h k hk;unfold Uy at this;rw [Je hk] at this;simp only [Bool.or_eq_true,jag] at this;rcases this with h2 | h2
     ·exact hp h2.1
     ·have:(bs[k].toNat:Int)=45:=by simpa using h2.1.1.1
      rw [this] at hp;exact hp jD
   | true =>
    rw [if_neg jD];rw [jar] at ha;cases hd:F3 bs with
    | true =>
     rw [if_pos rfl];constructor
     ·intro h;exact absurd h jD
     ·rintro ⟨-,-,h⟩;exfalso;unfold F3 at hd;simp only [Bool.or_eq_true,jag,decide_eq_true_eq,beq_iff_eq] at hd;rcases hd with (hd | hd) | ⟨⟨h3,hd2⟩,hd3⟩
      ·have:=h 0 jO;unfold Uy at this;rw [hd] at this;simp at this
      ·have:=h (bs.length - 1) jO;unfold Uy at this;rw [hd] at this;simp at this;omega
      ·have:=h 2 jO;unfold Uy at this;rw [hd2,hd3] at this;simp at this
    | false =>
     rw [if_neg jD];refine ⟨λ_=>⟨by omega,by omega,λi hi=>?_⟩,λ_=>rfl⟩;unfold F3 at hd;simp only [Bool.or_eq_false_iff,Bool.and_eq_false_iff,decide_eq_false_iff_not,beq_eq_false_iff_ne] at hd;obtain ⟨⟨d0,d1⟩,d2⟩:=hd;have hp:=ha bs[i] (List.getElem_mem hi);rw [<- Je hi] at hp;unfold Uy;rw [hp];by_cases h45:D4 bs i=45
     ·have i0:i ≠ 0:=λe=>d0 (by rw [<- e];exact h45);have i1:i ≠ bs.length - 1:=λe=>d1 (by rw [<- e];exact h45);rw [h45];have h2:(i != 2 || D4 bs 3 != 45)=true:=by
       by_cases i2:i=2
       ·subst i2;rcases d2 with (d2 | d2) | d2
        · exact absurd jO d2
        · exact absurd h45 d2
        · simp [d2]
       ·simp [i2]
      rw [h2,decide_eq_true (show 0<i by omega),decide_eq_true (show i+1<bs.length by omega)];rfl
     ·simp [h45]
theorem Qf {s:List UInt8} (h:∀ c ∈ s,c.toNat<128):Dz s=Eo (chars (s.map Af)):=by
 have e:s=Ah (chars s):=(Dv s h).symm;rw [e,Fm (Di h),<- e];congr 1;have ha:Norm.Eb (chars s):=by
  intro c hc;obtain ⟨b,hb,rfl⟩:=List.mem_map.1 hc;have:=h b hb;omega
 rw [Norm.Fu ha];unfold chars;rw [List.map_map,List.map_map];refine List.map_congr_left λb hb=>?_;have hb1:=h b hb;show (if 65<=(b.toNat:Int)/\(b.toNat:Int)<=90 then (b.toNat:Int)+32 else b.toNat)=((Af b).toNat:Int)
 unfold Af;by_cases hc:65<=b.toNat/\b.toNat<=90
 ·rw [if_pos jO,if_pos hc,Bb jO];omega
 ·rw [if_neg jO,if_neg hc]
end Lab
end
