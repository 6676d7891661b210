import Derived.Test.YtppmbilonaflfaaGreatDoorFoldB
import Derived.Test.YtppmbilonaflfaaGreatDoorPunyA
import Derived.Test.YtppmbilonaflfaaGreatDoorCtxAll
namespace Go.Proofs.YtppmbilonaflfaaGreatDoor
section
namespace Bidi
def Aco (b:Int):Bool:=b == 2 || b == 3 || b == 5
def has (l:List Int):Bool:=l.any λr=>Aco (Ba r)
def Aba (b:Int):Int:=if b=3 then 2 else if b=1\/b=2 then b else 0
def side:List Int->Int
 | []=>0
 | r::_=>Aba (Ba r)
def Al5:List Int->Int
 | []=>0
 | r::l=>if Ba r=6 then Al5 l else Ba r
def stop (l:List Int):Int:=Al5 l.reverse
def any (b:Int) (l:List Int):Bool:=l.any λr=>Ba r == b
def Zj (s:Int):Bool:=s == 2 || s == 3 || s == 4 || s == 5
def Afi (s:Int):Bool:=s == 1 || s == 4
def Gr (l:List Int):Bool :=
 if side l=2 then !any 1 l && Zj (stop l) && !(any 4 l && any 5 l)
 else if side l=1 then !has l && Afi (stop l) else false
def Uq (l:List Int):Bool:=l.isEmpty || Gr l
theorem Va {l:List Int} (h:l ≠ []):Uq l=Gr l:=by
 cases l with
 | nil=>exact absurd rfl h
 | cons a l=>rfl
theorem We (l:List Int):side l=0\/side l=1\/side l=2:=by
 cases l with
 | nil=>exact .inl rfl
 | cons a l=>unfold side Aba;split<;>(try split)<;>omega
theorem Arj {l:List Int} (h:l ≠ []) (m:List Int):side (l ++ m)=side l:=by
 cases l with
 | nil=>exact absurd rfl h
 | cons a l=>rfl
theorem Uu (b:Int) (l m:List Int):any b (l ++ m)=(any b l || any b m):=by unfold any;rw [List.any_append]
theorem Avd (l m:List Int):has (l ++ m)=(has l || has m):=by unfold has;rw [List.any_append]
theorem U5 (l:List Int):has l=(any 2 l || any 3 l || any 5 l):=by
 unfold has any Aco
 induction l with
 | nil=>rfl
 | cons a l ih =>
  simp only [List.any_cons,ih]
  cases (Ba a == 2)<;>cases (Ba a == 3)<;>cases (Ba a == 5)<;>simp
theorem any_none {b:Int} {l:List Int} (h:∀ r ∈ l,Ba r ≠ b):any b l=false:=by
 unfold any
 rw [List.any_eq_false]
 intro r hr
 simpa using h r hr
theorem Abc (l:List Int) (x:Int) (h:Ba x ≠ 6):stop (l ++ [x])=Ba x:=by
 unfold stop
 rw [List.reverse_append]
 show Al5 (x::l.reverse)=_
 rw [Al5,if_neg h]
def Bl (c:Int):Bool:=(decide (97<=c) && decide (c<=122)) || (decide (65<=c) && decide (c<=90)) || (decide (48<=c) && decide (c<=57)) || c == 45
def Ami (c:Int):Bool:=!Bl c || (if c=45 then Ba c == 7 else if c<65 then Ba c == 4 else Ba c == 1)
theorem Ah9:∀ i ∈ List.range 128,Ami (i:Nat)=true:=by decide +kernel
theorem Ow {c:Int} (h:Bl c=true):(c=45/\Ba c=7)\/(c ≠ 45/\c<65/\Ba c=4)\/(65<=c/\Ba c=1):=by
 have hb:0<=c/\c<128:=by
  unfold Bl at h
  simp only [Bool.or_eq_true,Bool.and_eq_true,decide_eq_true_eq,beq_iff_eq] at h
  omega
 have:=Ah9 c.toNat (by rw [List.mem_range];omega)
 rw [show ((c.toNat:Nat):Int)=c by omega] at this
 unfold Ami at this
 rw [h,Bool.not_true,Bool.false_or] at this
 split at this
 ·exact .inl ⟨by assumption,by simpa using this⟩
 ·split at this
  · exact .inr (.inl ⟨by assumption,by assumption,by simpa using this⟩)
  · exact .inr (.inr ⟨by omega,by simpa using this⟩)
theorem plain {l p:List Int} {x:Int} (h:∀ c ∈ l,Bl c=true) (hl:l=p ++ [x]):Uq l=(decide (65<=l.head!) && x != 45)/\has l=false:=by
 have hb:∀ c ∈ l,Ba c=7\/Ba c=4\/Ba c=1:=λc hc=>by rcases Ow (h c hc) with ⟨_,h⟩ | ⟨_,_,h⟩ | ⟨_,h⟩<;>simp [h]
 have hh:has l=false:=by
  rw [U5,any_none λr hr=>by have:=hb r hr;omega,any_none λr hr=>by have:=hb r hr;omega,any_none λr hr=>by have:=hb r hr;omega]
  rfl
 refine ⟨?_,hh⟩
 have hne:l ≠ []:=by rw [hl];simp
 have hx:=Ow (h x (by rw [hl];simp))
 have hstop:stop l=Ba x:=by rw [hl];exact Abc p x (by rcases hx with ⟨_,h⟩ | ⟨_,_,h⟩ | ⟨_,h⟩<;>omega)
 cases l with
 | nil=>exact absurd rfl hne
 | cons a t =>
  have ha:=Ow (h a (by simp))
  rw [Va hne]
  show Gr (a::t)=(decide (65<=a) && x != 45)
  have hs:side (a::t)=Aba (Ba a):=rfl
  unfold Gr
  rw [hs,hh,hstop]
  rcases ha with ⟨rfl,h1⟩ | ⟨_,h2,h1⟩ | ⟨h2,h1⟩
  ·rw [h1];rfl
  ·rw [h1,decide_eq_false (by omega)];rfl
  ·rw [h1,decide_eq_true h2]
   rcases hx with ⟨rfl,g1⟩ | ⟨g2,_,g1⟩ | ⟨g2,g1⟩
   · rw [g1];rfl
   · rw [g1,show (x != 45)=true by simpa using g2];rfl
   · rw [g1,show (x != 45)=true by rw [bne_iff_ne];omega];rfl
theorem Aky:∀ i ∈ List.range 10,Ba (48+(i:Nat))=4:=by decide +kernel
theorem Ajp {c:Int} (h:48<=c/\c<=57):Ba c=4:=by
 have:=Aky (c - 48).toNat (by rw [List.mem_range];omega)
 rwa [show (48:Int)+((c - 48).toNat:Int)=c by omega] at this
theorem digits {l:List Int} (hl:l ≠ []) (h:Uq l=true) {c:Int} (hc:48<=c/\c<=57):Uq (l ++ [c])=!any 5 l/\side (l ++ [c])=side l/\stop (l ++ [c])=4:=by
 have h4:=Ajp hc
 have h1:=Arj hl [c]
 have h2:stop (l ++ [c])=4:=by rw [Abc _ _ (by omega),h4]
 refine ⟨?_,h1,h2⟩
 rw [Va hl] at h
 rw [Va (by simp)]
 have a1:any 1 (l ++ [c])=any 1 l:=by rw [Uu];simp [any,h4]
 have a4:any 4 (l ++ [c])=true:=by rw [Uu];simp [any,h4]
 have a5:any 5 (l ++ [c])=any 5 l:=by rw [Uu];simp [any,h4]
 have ah:has (l ++ [c])=has l:=by rw [Avd];simp [has,Aco,h4]
 unfold Gr at h ⊢
 rw [h1,h2,a1,a4,a5,ah]
 rcases We l with e | e | e
 ·rw [if_neg (by omega),if_neg (by omega)] at h;cases h
 ·rw [if_neg (by omega),if_pos e,Bool.and_eq_true,Bool.not_eq_true'] at h
  rw [if_neg (by omega),if_pos e,h.1]
  rw [U5] at h
  simp only [Bool.or_eq_false_iff] at h
  rw [h.1.2]
  rfl
 ·rw [if_pos e,Bool.and_eq_true,Bool.and_eq_true] at h
  rw [if_pos e,h.1.1]
  simp [Zj]
end Bidi
end
section
open Go.RowKit Utf
theorem Dg {l:List Int} (h:Ag l=true):Ag (Fold.fold l)=true:=Ym (Pf false (Pv h))
namespace Lab
def Bj (r:Int):Bool:=r == 45 || (decide (2<=Dk r) && decide (Dk r<=5) && match Aj r with | none=>true | some y=>!y.soft && !y.out)
def D6 (bs:List UInt8):Bool:=bs.all λc=>decide (c.toNat<128)
def Dv (bs:List UInt8) (i:Nat):Int:=(((bs[i]?).getD 0).toNat:Int)
def F5 (bs:List UInt8):Bool:=Dv bs 0 == 45 || Dv bs (bs.length - 1) == 45 || (decide (3<bs.length) && Dv bs 2 == 45 && Dv bs 3 == 45)
def F3 (bs:List UInt8):Int :=
 if bs.length=0 then 13 else if 63<bs.length then 5 else if (bs.all λc=>Bidi.Bl (c.toNat:Int))=false then 8 else if F5 bs then 11 else 0
def nfc (l:List Int):List Int:=Norm.join (Norm.down false l)
def Fu (l:List Int):Bool:=(List.range l.length).any λi=>Ctx.Xb l (i:Nat) == 2 || (Ctx.Xb l (i:Nat) == 0 && !Bj l[i]!)
def Ei (l:List Int):Int :=
 if D6 (Ah l)=true\/nfc l ≠ l then 4 else if F5 (Ah l) then 11 else if Dk l[0]! = 4 then 10 else if Fu l then 8 else if Bidi.has l && !Bidi.Uq l then 9 else if 59<(Puny.Bn l).length then 5 else 0
def Fo (bs:List UInt8):Int:=if (Aq bs).2=-1 then Ei (ints (Aq bs).1) else 7
def sign:List UInt8:=[120,110,45,45]
def Ej (L:List Int):Int × List UInt8 × List UInt8 :=
 if D6 (Ah L)=false then (if Ei L=0 then (0,sign ++ Puny.Bn L,Ah L) else (Ei L,[],[]))
 else if (Ah L).take 4=sign then match Puny.Hp ((Ah L).drop 4) with
  | none=>(12,[],[])
  | some l=>if 63<(Ah L).length then (5,[],[]) else if Ei l ≠ 0 then (Ei l,[],[]) else if Puny.Bn l ≠ (Ah L).drop 4 then (12,[],[]) else (0,Ah L,Ah l)
 else if F3 (Ah L)=0 then (0,Ah L,Ah L) else (F3 (Ah L),[],[])
def Ds (bs:List UInt8):Int × List UInt8 × List UInt8:=if (Aq bs).2=-1 then Ej (Fold.fold (ints (Aq bs).1)) else (7,[],[])
theorem Sy {l:List Int} (h:Ag l=true):Fo (Ah l)=Ei l:=by
 unfold Fo
 rw [E8 h,if_pos rfl,(Cr h).1]
theorem Fc {l:List Int} (h:Ag l=true):Ds (Ah l)=Ej (Fold.fold l):=by
 unfold Ds
 rw [E8 h,if_pos rfl,(Cr h).1]
theorem Is {a b:List Int} (ha:Ag a=true) (hb:Ag b=true) (h:Ah a=Ah b):a=b:=by
 have h1:=E8 ha
 rw [h,E8 hb] at h1
 have h2:=(Prod.mk.inj h1).1
 rw [<- (Cr ha).1,<- (Cr hb).1,h2]
def Akf (x:Int):Bool:=decide (Fold.fo x=x) && decide (Aj x=none) && !Norm.syl x && decide (Dk x ≠ 0/\Dk x ≠ 1/\Dk x ≠ 8)
theorem Ao3:∀ x ∈ [8204,8205,183,885,1523,1524,12539] ++ (List.range 10).map (λi:Nat=>(1632:Int)+i) ++ (List.range 10).map (λi:Nat=>(1776:Int)+i),Akf x=true:=by decide +kernel
theorem At7 {x:Int} (h:Ctx.Bw x=true):Akf x=true:=by
 apply Ao3
 unfold Ctx.Bw at h
 simp only [Bool.or_eq_true,beq_iff_eq,Bool.and_eq_true,decide_eq_true_eq] at h
 simp only [List.mem_append,List.mem_cons,List.mem_map,List.mem_range,List.not_mem_nil,or_false]
 rcases h with (((((((h | h) | h) | h) | h) | h) | h) | ⟨h1,h2⟩) | ⟨h1,h2⟩
 · exact .inl (.inl (.inl h))
 · exact .inl (.inl (.inr (.inl h)))
 · exact .inl (.inl (.inr (.inr (.inl h))))
 · exact .inl (.inl (.inr (.inr (.inr (.inl h)))))
 · exact .inl (.inl (.inr (.inr (.inr (.inr (.inl h))))))
 · exact .inl (.inl (.inr (.inr (.inr (.inr (.inr (.inl h)))))))
 · exact .inl (.inl (.inr (.inr (.inr (.inr (.inr (.inr h)))))))
 · exact .inl (.inr ⟨(x - 1632).toNat,by omega,by omega⟩)
 · exact .inr ⟨(x - 1776).toNat,by omega,by omega⟩
theorem Aph:∀ y ∈ splits,y.soft=false->Norm.pieces true y.rune=Norm.pieces false y.rune:=by decide +kernel
theorem Anv:∀ y ∈ splits,Bm y.rune=false:=by decide +kernel
theorem Wf {x:Int} (h:Bm x=true):Aj x=some ⟨x,x - 65248,0,true,true⟩:=by
 unfold Aj rowOf
 cases ho:Gw Sp.rune Sp.rune splits x with
 | none=>simp [h]
 | some y =>
  obtain ⟨h1,h2,h3⟩:=Da ho
  have:=Anv y h1
  rw [show y.rune=x by omega,h] at this
  cases this
def Still (x:Int):Prop:=Fold.fo x=x/\Norm.pieces true x=Norm.pieces false x/\Dk x ≠ 0/\Dk x ≠ 1/\Dk x ≠ 8
theorem Ge {x:Int} (hs:Norm.syl x=false) (h:Aj x=none) (soft:Bool):Norm.pieces soft x=[x]:=by
 rw [Norm.A9,hs,h]
 rfl
theorem Af9 {x:Int} (h:Ctx.Bw x=true):Still x:=by
 have:=At7 h
 unfold Akf at this
 simp only [Bool.and_eq_true,decide_eq_true_eq,Bool.not_eq_true'] at this
 obtain ⟨⟨⟨h1,h2⟩,h3⟩,h4⟩:=this
 exact ⟨h1,by rw [Ge h3 h2,Ge h3 h2],h4⟩
theorem Ajj:Still 45:=by
 have h:=Norm.Px (c:=45) (by omega)
 refine ⟨by rw [Norm.Rh (by omega)];rfl,?_,by decide +kernel⟩
 rw [Norm.Dp.1 (Norm.Jc (by omega) true),Norm.Dp.1 (Norm.Jc (by omega) false)]
theorem Aib {x:Int} (h:Bj x=true):Still x:=by
 by_cases h45:x=45
 ·subst h45;exact Ajj
 ·unfold Bj at h
  rw [beq_eq_false_iff_ne.2 h45,Bool.false_or,Bool.and_eq_true,Bool.and_eq_true,decide_eq_true_eq,decide_eq_true_eq] at h
  obtain ⟨⟨c1,c2⟩,hsp⟩:=h
  have hw:Bm x=false:=by
   cases hw:Bm x with
   | false=>rfl
   | true=>rw [Wf hw] at hsp;cases hsp
  have hlow:Fp x=x:=by
   rcases Anu x with h | h
   ·exact h
   ·unfold Atx at h
    have:=(of_decide_eq_true h).2.1
    omega
  refine ⟨?_,?_,by omega,by omega,by omega⟩
  ·unfold Fold.fo Fold.narrow
   rw [hw]
   exact hlow
  ·cases ho:Aj x with
   | some y =>
    rw [ho] at hsp
    simp only [Bool.and_eq_true,Bool.not_eq_true'] at hsp
    rcases Bk ho with ⟨h1,rfl⟩ | ⟨h1,-⟩
    · exact Aph y h1 hsp.1
    · rw [hw] at h1;cases h1
   | none =>
    cases hs:Norm.syl x with
    | false=>rw [Ge hs ho,Ge hs ho]
    | true=>rw [Norm.A9,Norm.A9,hs];rfl
theorem Avo {l:List Int} (h:Fu l=false):∀ x ∈ l,Still x:=by
 intro x hx
 obtain ⟨k,hk,rfl⟩:=List.getElem_of_mem hx
 unfold Fu at h
 rw [List.any_eq_false] at h
 have h1:=h k (List.mem_range.2 hk)
 rw [Bool.or_eq_true,not_or] at h1
 rw [getElem!_pos l k hk] at h1
 cases hn:Ctx.Bw l[k] with
 | true=>exact Af9 hn
 | false =>
  have h0:Ctx.Xb l (k:Nat)=0:=by rw [Ctx.He hk,getElem!_pos l k hk,hn];rfl
  apply Aib
  cases hc:Bj l[k] with
  | true=>rfl
  | false=>exact absurd (by rw [h0,hc];rfl) h1.2
theorem Aos {l:List Int} (h:∀ x ∈ l,Still x):l.map Fold.fo=l:=Fold.Q8 λc hc=>(h c hc).1
theorem Akp {l:List Int} (h:∀ x ∈ l,Still x):Norm.down true l=Norm.down false l:=by
 unfold Norm.down Norm.split
 congr 1
 induction l with
 | nil=>rfl
 | cons x l ih =>
  rw [List.flatMap_cons,List.flatMap_cons,(h x (by simp)).2.1,ih λy hy=>h y (by simp [hy])]
structure Awx (l:List Int):Prop where
 still:∀ x ∈ l,Still x
 wide:D6 (Ah l)=false
 same:nfc l=l
 fold:Fold.fold l=l
 soft:Norm.join (Norm.down true l)=l
 dash:F5 (Ah l)=false
 mark:Dk l[0]! ≠ 4
 short:(Puny.Bn l).length<=59
theorem Mu {l:List Int} (h:Ei l=0):Awx l:=by
 unfold Ei at h
 split at h
 ·omega
 ·rename_i h1
  rw [not_or,Decidable.not_not] at h1
  split at h
  ·omega
  ·rename_i h2
   split at h
   ·omega
   ·rename_i h3
    split at h
    ·omega
    ·rename_i h4
     split at h
     ·omega
     ·split at h
      ·omega
      ·rename_i h6
       have hs:=Avo (Bool.not_eq_true _ ▸ h4)
       refine ⟨hs,by simpa using h1.1,h1.2,?_,?_,by simpa using h2,h3,by omega⟩
       ·unfold Fold.fold
        rw [Aos hs]
        exact h1.2
       ·rw [Akp hs]
        exact h1.2
theorem Fe {bs:List UInt8}:D6 bs=true ↔ ∀ c ∈ bs,c.toNat<128:=by
 unfold D6
 rw [List.all_eq_true]
 constructor
 · intro h c hc;exact of_decide_eq_true (h c hc)
 · intro h c hc;exact decide_eq_true (h c hc)
theorem Ath {l:List Int} (h:Awx l):l ≠ []:=λe=>by
 subst e
 have:=h.wide
 cases this
theorem Aj0 {l:List Int} (h:Ag l=true):l.length<=(Puny.Bn l).length:=by
 have h1:=Puny.Pq h
 have h2:=Puny.Q4 (Puny.Fz l) 72 (Puny.lt 128 l).length true
 unfold Puny.Bn Puny.Cx Puny.Bg
 rw [List.length_append,List.length_append,List.length_map,List.length_map]
 omega
theorem Aov {x:Int} (h0:0<=x) (h1:x<128) (h:Fold.fo x=x):An (UInt8.ofNat x.toNat)=UInt8.ofNat x.toNat:=by
 rw [Norm.Rh ⟨h0,h1⟩] at h
 have hn:(UInt8.ofNat x.toNat).toNat=x.toNat:=UInt8.toNat_ofNat_of_lt' (by show x.toNat<256;omega)
 unfold An
 rw [if_neg]
 rw [hn]
 intro hc
 rw [if_pos (by omega)] at h
 omega
theorem Z4 {l:List Int} (hr:Ag l=true) (h:∀ x ∈ l,Fold.fo x=x):(Puny.Bn l).map An=Puny.Bn l:=by
 refine (List.map_congr_left λc hc=>?_).trans (List.map_id _)
 show An c=c
 unfold Puny.Bn at hc
 rcases List.mem_append.1 hc with hc | hc
 ·rcases List.mem_append.1 hc with hc | hc
  ·unfold Puny.Bg at hc
   obtain ⟨x,hx,rfl⟩:=List.mem_map.1 hc
   have h1:=Puny.Adh hx
   exact Aov (Puny.R7 hr x h1.1) h1.2 (h x h1.1)
  ·unfold Puny.Jy at hc
   split at hc
   · cases hc
   · rw [List.mem_singleton] at hc;subst hc;decide
 ·obtain ⟨v,hv,rfl⟩:=List.mem_map.1 hc
  exact Puny.W7 (Puny.Kp _ _ _ _ (Puny.G6 (En hr)) v hv)
def chars (a:List UInt8):List Int:=a.map λb=>(b.toNat:Int)
theorem D8 {a:List UInt8} (h:∀ c ∈ a,c.toNat<128):Ag (chars a)=true:=by
 unfold Ag chars
 rw [List.all_eq_true]
 intro c hc
 obtain ⟨b,hb,rfl⟩:=List.mem_map.1 hc
 have:=h b hb
 exact (Al _).2 (by omega)
theorem Ak7 {a:List UInt8} (h:∀ c ∈ a,c.toNat<128) (hs:a.map An=a):Fold.fold (chars a)=chars a:=by
 have ha:Norm.D6 (chars a):=by
  intro c hc
  obtain ⟨b,hb,rfl⟩:=List.mem_map.1 hc
  have:=h b hb
  omega
 rw [Norm.Jt ha]
 unfold chars
 rw [List.map_map]
 refine List.map_congr_left λb hb=>?_
 have h1:An b=b:=by
  have h2:∀ (t:List UInt8),t.map An=t->∀ b ∈ t,An b=b:=by
   intro t
   induction t with
   | nil=>intro _ b hb;cases hb
   | cons x t ih =>
    intro e b hb
    rw [List.map_cons] at e
    injection e with e1 e2
    rcases List.mem_cons.1 hb with rfl | hb
    · exact e1
    · exact ih e2 b hb
  exact h2 a hs b hb
 have hb1:=h b hb
 show (if 65<=(b.toNat:Int)/\(b.toNat:Int)<=90 then (b.toNat:Int)+32 else b.toNat)=b.toNat
 rw [if_neg]
 intro hc
 unfold An at h1
 rw [if_pos (by omega)] at h1
 have:=congrArg UInt8.toNat h1
 rw [Bb (by omega)] at this
 omega
theorem Awo:∀ c ∈ sign,c.toNat<128:=by decide
theorem O6:sign.map An=sign:=by decide
theorem back {L:List Int} (hr:Ag L=true) (hf:Fold.fold L=L) {a u:List UInt8} (h:Ej L=(0,a,u)) :
  ∃ U:List Int,u=Ah U/\Ag U=true/\Fold.fold U=U/\U.length<=63/\Ej U=(0,a,u)/\(∀ c ∈ a,c.toNat<128)/\Fold.fold (chars a)=chars a/\Ej (chars a)=(0,a,u)/\0<a.length/\a.length<=63:=by
 have hfix:∀ x ∈ L,Fold.fo x=x:=by rw [<- hf];exact Fold.Ko L
 unfold Ej at h
 by_cases h1:D6 (Ah L)=false
 ·rw [if_pos h1] at h
  by_cases h2:Ei L=0
  ·rw [if_pos h2] at h
   obtain ⟨-,rfl,rfl⟩:(0:Int)=0/\sign ++ Puny.Bn L=a/\Ah L=u:=by
    injection h with e1 e2
    injection e2 with e2 e3
    exact ⟨e1,e2,e3⟩
   have R:=Mu h2
   have hge:=Aj0 hr
   have hsh:=R.short
   have hlt:∀ c ∈ sign ++ Puny.Bn L,c.toNat<128:=λc hc=>by
    rcases List.mem_append.1 hc with hc | hc
    ·exact Awo c hc
    ·exact Puny.Amo hr c hc
   have hsm:(sign ++ Puny.Bn L).map An=sign ++ Puny.Bn L:=by rw [List.map_append,O6,Z4 hr hfix]
   refine ⟨L,rfl,hr,hf,by omega,?_,hlt,Ak7 hlt hsm,?_,by rw [List.length_append];show 0<4+_;omega,by rw [List.length_append];show 4+_<=63;omega⟩
   ·unfold Ej
    rw [if_pos h1,if_pos h2]
   ·unfold Ej
    rw [show Ah (chars (sign ++ Puny.Bn L))=sign ++ Puny.Bn L from Em _ hlt]
    rw [if_neg (by rw [Fe.2 hlt];decide),if_pos (by rw [List.take_append_of_le_length (by decide)];rfl)]
    rw [show (sign ++ Puny.Bn L).drop 4=Puny.Bn L from List.drop_left' rfl,Puny.Acp hr (by omega)]
    simp only
    rw [if_neg (by rw [List.length_append];show ¬ 63<4+_;omega),if_neg (by rw [h2];decide),if_neg (by simp)]
  ·rw [if_neg h2] at h
   injection h with e1 e2
   exact absurd e1 h2
 ·rw [if_neg h1] at h
  have ha:∀ c ∈ Ah L,c.toNat<128:=Fe.1 (by simpa using h1)
  have hch:chars (Ah L)=L:=Is (D8 ha) hr (Em _ ha)
  by_cases h3:(Ah L).take 4=sign
  ·rw [if_pos h3] at h
   cases hd:Puny.Hp ((Ah L).drop 4) with
   | none =>
    rw [hd] at h
    simp only at h
    injection h with e1 e2
    exact absurd e1 (by decide)
   | some l =>
    rw [hd] at h
    simp only at h
    by_cases h4:63<(Ah L).length
    ·rw [if_pos h4] at h
     injection h with e1 e2
     exact absurd e1 (by decide)
    ·rw [if_neg h4] at h
     by_cases h5:Ei l ≠ 0
     ·rw [if_pos h5] at h
      injection h with e1 e2
      exact absurd e1 h5
     ·rw [if_neg h5] at h
      rw [Decidable.not_not] at h5
      by_cases h6:Puny.Bn l ≠ (Ah L).drop 4
      ·rw [if_pos h6] at h
       injection h with e1 e2
       exact absurd e1 (by decide)
      ·rw [if_neg h6] at h
       obtain ⟨-,rfl,rfl⟩:(0:Int)=0/\Ah L=a/\Ah l=u:=by
        injection h with e1 e2
        injection e2 with e2 e3
        exact ⟨e1,e2,e3⟩
       rw [Decidable.not_not] at h6
       have R:=Mu h5
       obtain ⟨hrl,-,hll⟩:=Puny.Ac4 hd
       have hge:=Aj0 hrl
       have hsh:=R.short
       have hcat:sign ++ Puny.Bn l=Ah L:=by rw [h6,<- h3,List.take_append_drop]
       refine ⟨l,rfl,hrl,R.fold,by omega,?_,ha,by rw [hch];exact hf,?_,?_,by omega⟩
       ·unfold Ej
        rw [if_pos R.wide,if_pos h5,hcat]
       ·rw [hch]
        unfold Ej
        rw [if_neg h1,if_pos h3,hd]
        simp only
        rw [if_neg h4,if_neg (by rw [h5];decide),if_neg (by rw [h6];simp)]
       ·rw [<- hcat,List.length_append]
        show 0<4+_
        omega
  ·rw [if_neg h3] at h
   by_cases h4:F3 (Ah L)=0
   ·rw [if_pos h4] at h
    obtain ⟨-,rfl,rfl⟩:(0:Int)=0/\Ah L=a/\Ah L=u:=by
     injection h with e1 e2
     injection e2 with e2 e3
     exact ⟨e1,e2,e3⟩
    have hb:Ej L=(0,Ah L,Ah L):=by
     unfold Ej
     rw [if_neg h1,if_neg h3,if_pos h4]
    have hl:0<(Ah L).length/\(Ah L).length<=63:=by
     unfold F3 at h4
     split at h4
     ·omega
     ·split at h4
      ·omega
      ·omega
    have hLL:L.length=(Ah L).length:=by
     have:=congrArg List.length hch
     unfold chars at this
     rw [List.length_map] at this
     exact this.symm
    refine ⟨L,rfl,hr,hf,by omega,hb,ha,by rw [hch];exact hf,by rw [hch];exact hb,hl.1,hl.2⟩
   ·rw [if_neg h4] at h
    injection h with e1 e2
    exact absurd e1 h4
end Lab
end
section
open Go.RowKit Utf
namespace Lab
theorem Lr {s:List UInt8} (h:(Aq s).2=-1):Ag (ints (Aq s).1)=true/\s=Ah (ints (Aq s).1):=by
 obtain ⟨h1,-,h3⟩:=Dt (s:=s) (m:=(Aq s).1) (z:=(Aq s).2) rfl
 obtain ⟨h4,h5⟩:=Li _ h1
 refine ⟨h4,?_⟩
 rcases h3 with ⟨-,h3⟩ | ⟨k,hk,-⟩
 · rw [h5,h3]
 · omega
theorem Abf (x:Int) (t:List Int) (h:0<=x/\x<128):Ah (x::t)=UInt8.ofNat x.toNat::Ah t:=by
 unfold Ah
 rw [List.flatMap_cons]
 unfold enc
 rw [if_pos (by omega)]
 rfl
def So (bs:List UInt8) (i:Nat):Bool :=
 (Bidi.Bl (Dv bs i) && Dv bs i != 45) || (Dv bs i == 45 && decide (0<i) && decide (i+1<bs.length) && (i != 2 || Dv bs 3 != 45))
theorem Io {bs:List UInt8} {i:Nat} (h:i<bs.length):Dv bs i=(bs[i].toNat:Int):=by
 unfold Dv
 rw [List.getElem?_eq_getElem h]
 rfl
theorem Apq (bs:List UInt8):F3 bs=0 ↔ 0<bs.length/\bs.length<=63/\∀ i,i<bs.length->So bs i=true:=by
 unfold F3
 by_cases h0:bs.length=0
 ·rw [if_pos h0]
  constructor
  ·intro h;exact absurd h (by decide)
  ·rintro ⟨h,-⟩;omega
 ·rw [if_neg h0]
  by_cases h1:63<bs.length
  ·rw [if_pos h1]
   constructor
   ·intro h;exact absurd h (by decide)
   ·rintro ⟨-,h,-⟩;omega
  ·rw [if_neg h1]
   cases ha:(bs.all λc=>Bidi.Bl (c.toNat:Int)) with
   | false =>
    rw [if_pos rfl]
    constructor
    ·intro h;exact absurd h (by decide)
    ·rintro ⟨-,-,h⟩
     exfalso
     rw [List.all_eq_false] at ha
     obtain ⟨c,hc,hp⟩:=ha
     obtain ⟨k,hk,rfl⟩:=List.getElem_of_mem hc
     have:=h k hk
     unfold So at this
     rw [Io hk] at this
     simp only [Bool.or_eq_true,Bool.and_eq_true] at this
     rcases this with h2 | h2
     ·exact hp h2.1
     ·have:(bs[k].toNat:Int)=45:=by simpa using h2.1.1.1
      rw [this] at hp
      exact hp (by decide)
   | true =>
    rw [if_neg (by decide)]
    rw [List.all_eq_true] at ha
    cases hd:F5 bs with
    | true =>
     rw [if_pos rfl]
     constructor
     ·intro h;exact absurd h (by decide)
     ·rintro ⟨-,-,h⟩
      exfalso
      unfold F5 at hd
      simp only [Bool.or_eq_true,Bool.and_eq_true,decide_eq_true_eq,beq_iff_eq] at hd
      rcases hd with (hd | hd) | ⟨⟨h3,hd2⟩,hd3⟩
      ·have:=h 0 (by omega)
       unfold So at this
       rw [hd] at this
       simp at this
      ·have:=h (bs.length - 1) (by omega)
       unfold So at this
       rw [hd] at this
       simp at this
       omega
      ·have:=h 2 (by omega)
       unfold So at this
       rw [hd2,hd3] at this
       simp at this
    | false =>
     rw [if_neg (by decide)]
     refine ⟨λ_=>⟨by omega,by omega,λi hi=>?_⟩,λ_=>rfl⟩
     unfold F5 at hd
     simp only [Bool.or_eq_false_iff,Bool.and_eq_false_iff,decide_eq_false_iff_not,beq_eq_false_iff_ne] at hd
     obtain ⟨⟨d0,d1⟩,d2⟩:=hd
     have hp:=ha bs[i] (List.getElem_mem hi)
     rw [<- Io hi] at hp
     unfold So
     rw [hp]
     by_cases h45:Dv bs i=45
     ·have i0:i ≠ 0:=λe=>d0 (by rw [<- e];exact h45)
      have i1:i ≠ bs.length - 1:=λe=>d1 (by rw [<- e];exact h45)
      rw [h45]
      have h2:(i != 2 || Dv bs 3 != 45)=true:=by
       by_cases i2:i=2
       ·subst i2
        rcases d2 with (d2 | d2) | d2
        · exact absurd (by omega) d2
        · exact absurd h45 d2
        · simp [d2]
       ·simp [i2]
      rw [h2,decide_eq_true (show 0<i by omega),decide_eq_true (show i+1<bs.length by omega)]
      rfl
     ·simp [h45]
theorem Oo {s:List UInt8} (h:∀ c ∈ s,c.toNat<128):Ds s=Ej (chars (s.map An)):=by
 have e:s=Ah (chars s):=(Em s h).symm
 rw [e,Fc (D8 h),<- e]
 congr 1
 have ha:Norm.D6 (chars s):=by
  intro c hc
  obtain ⟨b,hb,rfl⟩:=List.mem_map.1 hc
  have:=h b hb
  omega
 rw [Norm.Jt ha]
 unfold chars
 rw [List.map_map,List.map_map]
 refine List.map_congr_left λb hb=>?_
 have hb1:=h b hb
 show (if 65<=(b.toNat:Int)/\(b.toNat:Int)<=90 then (b.toNat:Int)+32 else b.toNat)=((An b).toNat:Int)
 unfold An
 by_cases hc:65<=b.toNat/\b.toNat<=90
 ·rw [if_pos (by omega),if_pos hc,Bb (by omega)];omega
 ·rw [if_neg (by omega),if_neg hc]
end Lab
end
end Go.Proofs.YtppmbilonaflfaaGreatDoor
