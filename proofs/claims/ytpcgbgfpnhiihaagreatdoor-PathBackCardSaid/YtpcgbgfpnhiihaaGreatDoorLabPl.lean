import Derived.Test.YtpcgbgfpnhiihaaGreatDoorFoldB
import Derived.Test.YtpcgbgfpnhiihaaGreatDoorPunyA
import Derived.Test.YtpcgbgfpnhiihaaGreatDoorCtxAll
namespace Go.Proofs.YtpcgbgfpnhiihaaGreatDoor
section
namespace Bidi
def Ad0 (b:Int):Bool:=b == 2 || b == 3 || b == 5
def has (l:List Int):Bool:=l.any λr=>Ad0 (Bz r)
def Ahj (b:Int):Int:=if b=3 then 2 else if b=1\/b=2 then b else 0
def side:List Int->Int
 | []=>0
 | r::_=>Ahj (Bz r)
def Amw:List Int->Int
 | []=>0
 | r::l=>if Bz r=6 then Amw l else Bz r
def stop (l:List Int):Int:=Amw l.reverse
def any (b:Int) (l:List Int):Bool:=l.any λr=>Bz r == b
def Aan (s:Int):Bool:=s == 2 || s == 3 || s == 4 || s == 5
def Afn (s:Int):Bool:=s == 1 || s == 4
def Hq (l:List Int):Bool :=
 if side l=2 then !any 1 l && Aan (stop l) && !(any 4 l && any 5 l)
 else if side l=1 then !has l && Afn (stop l) else false
def Xv (l:List Int):Bool:=l.isEmpty || Hq l
theorem Ads {l:List Int} (h:l ≠ []):Xv l=Hq l:=by
 cases l with
 | nil=>exact absurd rfl h
 | cons a l=>rfl
theorem X0 (l:List Int):side l=0\/side l=1\/side l=2:=by
 cases l with
 | nil=>exact .inl rfl
 | cons a l=>unfold side Ahj;split<;>(try split)<;>omega
theorem Aur {l:List Int} (h:l ≠ []) (m:List Int):side (l ++ m)=side l:=by
 cases l with
 | nil=>exact absurd rfl h
 | cons a l=>rfl
theorem Uz (b:Int) (l m:List Int):any b (l ++ m)=(any b l || any b m):=by unfold any;rw [List.any_append]
theorem Av9 (l m:List Int):has (l ++ m)=(has l || has m):=by unfold has;rw [List.any_append]
theorem Ac1 (l:List Int):has l=(any 2 l || any 3 l || any 5 l):=by
 unfold has any Ad0
 induction l with
 | nil=>rfl
 | cons a l ih =>
  simp only [List.any_cons,ih]
  cases (Bz a == 2)<;>cases (Bz a == 3)<;>cases (Bz a == 5)<;>simp
theorem Aqu (l:List Int) (x:Int) (h:Bz x ≠ 6):stop (l ++ [x])=Bz x:=by
 unfold stop
 rw [List.reverse_append]
 show Amw (x::l.reverse)=_
 rw [Amw,if_neg h]
def Ca (c:Int):Bool:=(decide (97<=c) && decide (c<=122)) || (decide (65<=c) && decide (c<=90)) || (decide (48<=c) && decide (c<=57)) || c == 45
theorem Akt:∀ i ∈ List.range 10,Bz (48+(i:Nat))=4:=by decide +kernel
theorem Ai3 {c:Int} (h:48<=c/\c<=57):Bz c=4:=by
 have:=Akt (c - 48).toNat (by rw [List.mem_range];omega)
 rwa [show (48:Int)+((c - 48).toNat:Int)=c by omega] at this
theorem digits {l:List Int} (hl:l ≠ []) (h:Xv l=true) {c:Int} (hc:48<=c/\c<=57):Xv (l ++ [c])=!any 5 l/\side (l ++ [c])=side l/\stop (l ++ [c])=4:=by
 have h4:=Ai3 hc
 have h1:=Aur hl [c]
 have h2:stop (l ++ [c])=4:=by rw [Aqu _ _ (by omega),h4]
 refine ⟨?_,h1,h2⟩
 rw [Ads hl] at h
 rw [Ads (by simp)]
 have a1:any 1 (l ++ [c])=any 1 l:=by rw [Uz];simp [any,h4]
 have a4:any 4 (l ++ [c])=true:=by rw [Uz];simp [any,h4]
 have a5:any 5 (l ++ [c])=any 5 l:=by rw [Uz];simp [any,h4]
 have ah:has (l ++ [c])=has l:=by rw [Av9];simp [has,Ad0,h4]
 unfold Hq at h ⊢
 rw [h1,h2,a1,a4,a5,ah]
 rcases X0 l with e | e | e
 ·rw [if_neg (by omega),if_neg (by omega)] at h;cases h
 ·rw [if_neg (by omega),if_pos e,Bool.and_eq_true,Bool.not_eq_true'] at h
  rw [if_neg (by omega),if_pos e,h.1]
  rw [Ac1] at h
  simp only [Bool.or_eq_false_iff] at h
  rw [h.1.2]
  rfl
 ·rw [if_pos e,Bool.and_eq_true,Bool.and_eq_true] at h
  rw [if_pos e,h.1.1]
  simp [Aan]
end Bidi
end
section
open Go.RowKit Utf
theorem D8 {l:List Int} (h:Af l=true):Af (Fold.fold l)=true:=Wu (Oy false (Q0 h))
namespace Lab
def Bo (r:Int):Bool:=r == 45 || (decide (2<=Dc r) && decide (Dc r<=5) && match Aj r with | none=>true | some y=>!y.soft && !y.out)
def Du (bs:List UInt8):Bool:=bs.all λc=>decide (c.toNat<128)
def Dk (bs:List UInt8) (i:Nat):Int:=(((bs[i]?).getD 0).toNat:Int)
def Fp (bs:List UInt8):Bool:=Dk bs 0 == 45 || Dk bs (bs.length - 1) == 45 || (decide (3<bs.length) && Dk bs 2 == 45 && Dk bs 3 == 45)
def Fu (bs:List UInt8):Int :=
 if bs.length=0 then 13 else if 63<bs.length then 5 else if (bs.all λc=>Bidi.Ca (c.toNat:Int))=false then 8 else if Fp bs then 11 else 0
def nfc (l:List Int):List Int:=Norm.join (Norm.down false l)
def Hg (l:List Int):Bool:=(List.range l.length).any λi=>Ctx.W9 l (i:Nat) == 2 || (Ctx.W9 l (i:Nat) == 0 && !Bo l[i]!)
def Ez (l:List Int):Int :=
 if Du (Ah l)=true\/nfc l ≠ l then 4 else if Fp (Ah l) then 11 else if Dc l[0]! = 4 then 10 else if Hg l then 8 else if Bidi.has l && !Bidi.Xv l then 9 else if 59<(Puny.Bm l).length then 5 else 0
def Fl (bs:List UInt8):Int:=if (As bs).2=-1 then Ez (ints (As bs).1) else 7
def sign:List UInt8:=[120,110,45,45]
def Ej (L:List Int):Int × List UInt8 × List UInt8 :=
 if Du (Ah L)=false then (if Ez L=0 then (0,sign ++ Puny.Bm L,Ah L) else (Ez L,[],[]))
 else if (Ah L).take 4=sign then match Puny.Hi ((Ah L).drop 4) with
  | none=>(12,[],[])
  | some l=>if 63<(Ah L).length then (5,[],[]) else if Ez l ≠ 0 then (Ez l,[],[]) else if Puny.Bm l ≠ (Ah L).drop 4 then (12,[],[]) else (0,Ah L,Ah l)
 else if Fu (Ah L)=0 then (0,Ah L,Ah L) else (Fu (Ah L),[],[])
def Er (bs:List UInt8):Int × List UInt8 × List UInt8:=if (As bs).2=-1 then Ej (Fold.fold (ints (As bs).1)) else (7,[],[])
theorem To {l:List Int} (h:Af l=true):Fl (Ah l)=Ez l:=by
 unfold Fl
 rw [Fv h,if_pos rfl,(Dg h).1]
theorem Ia {l:List Int} (h:Af l=true):Er (Ah l)=Ej (Fold.fold l):=by
 unfold Er
 rw [Fv h,if_pos rfl,(Dg h).1]
theorem Io {a b:List Int} (ha:Af a=true) (hb:Af b=true) (h:Ah a=Ah b):a=b:=by
 have h1:=Fv ha
 rw [h,Fv hb] at h1
 have h2:=(Prod.mk.inj h1).1
 rw [<- (Dg ha).1,<- (Dg hb).1,h2]
def Aj5 (x:Int):Bool:=decide (Fold.fo x=x) && decide (Aj x=none) && !Norm.syl x && decide (Dc x ≠ 0/\Dc x ≠ 1/\Dc x ≠ 8)
theorem Aqa:∀ x ∈ [8204,8205,183,885,1523,1524,12539] ++ (List.range 10).map (λi:Nat=>(1632:Int)+i) ++ (List.range 10).map (λi:Nat=>(1776:Int)+i),Aj5 x=true:=by decide +kernel
theorem Ato {x:Int} (h:Ctx.Br x=true):Aj5 x=true:=by
 apply Aqa
 unfold Ctx.Br at h
 simp only [Bool.or_eq_true,beq_iff_eq,Bool.and_eq_true,decide_eq_true_eq] at h
 simp only [List.mem_append,List.mem_cons,List.mem_map,List.mem_range,List.not_mem_nil,or_false]
 rcases h with (((((((h | h) | h) | h) | h) | h) | h) | ⟨h1,h2⟩) | ⟨h1,h2⟩
 · exact .inl (.inl (.inl h))
 · exact .inl (.inl (.inr (.inl h)))
 · exact .inl (.inl (.inr (.inr (.inl h))))
 · exact .inl (.inl (.inr (.inr (.inr (.inl h)))))
 · exact .inl (.inl (.inr (.inr (.inr (.inr (.inl h))))))
 · exact .inl (.inl (.inr (.inr (.inr (.inr (.inr (.inl h)))))))
 · exact .inl (.inl (.inr (.inr (.inr (.inr (.inr (.inr h)))))))
 · exact .inl (.inr ⟨(x - 1632).toNat,by omega,by omega⟩)
 · exact .inr ⟨(x - 1776).toNat,by omega,by omega⟩
theorem Ap8:∀ y ∈ splits,y.soft=false->Norm.pieces true y.rune=Norm.pieces false y.rune:=by decide +kernel
theorem Aqd:∀ y ∈ splits,Bl y.rune=false:=by decide +kernel
theorem Yt {x:Int} (h:Bl x=true):Aj x=some ⟨x,x - 65248,0,true,true⟩:=by
 unfold Aj rowOf
 cases ho:Gv Sp.rune Sp.rune splits x with
 | none=>simp [h]
 | some y =>
  obtain ⟨h1,h2,h3⟩:=Cz ho
  have:=Aqd y h1
  rw [show y.rune=x by omega,h] at this
  cases this
def Still (x:Int):Prop:=Fold.fo x=x/\Norm.pieces true x=Norm.pieces false x/\Dc x ≠ 0/\Dc x ≠ 1/\Dc x ≠ 8
theorem Gh {x:Int} (hs:Norm.syl x=false) (h:Aj x=none) (soft:Bool):Norm.pieces soft x=[x]:=by
 rw [Norm.Ay,hs,h]
 rfl
theorem Agi {x:Int} (h:Ctx.Br x=true):Still x:=by
 have:=Ato h
 unfold Aj5 at this
 simp only [Bool.and_eq_true,decide_eq_true_eq,Bool.not_eq_true'] at this
 obtain ⟨⟨⟨h1,h2⟩,h3⟩,h4⟩:=this
 exact ⟨h1,by rw [Gh h3 h2,Gh h3 h2],h4⟩
theorem Aix:Still 45:=by
 have h:=Norm.Py (c:=45) (by omega)
 refine ⟨by rw [Norm.Px (by omega)];rfl,?_,by decide +kernel⟩
 rw [Norm.Di.1 (Norm.I8 (by omega) true),Norm.Di.1 (Norm.I8 (by omega) false)]
theorem Air {x:Int} (h:Bo x=true):Still x:=by
 by_cases h45:x=45
 ·subst h45;exact Aix
 ·unfold Bo at h
  rw [beq_eq_false_iff_ne.2 h45,Bool.false_or,Bool.and_eq_true,Bool.and_eq_true,decide_eq_true_eq,decide_eq_true_eq] at h
  obtain ⟨⟨c1,c2⟩,hsp⟩:=h
  have hw:Bl x=false:=by
   cases hw:Bl x with
   | false=>rfl
   | true=>rw [Yt hw] at hsp;cases hsp
  have hlow:Fi x=x:=by
   rcases Aou x with h | h
   ·exact h
   ·unfold Atf at h
    have:=(of_decide_eq_true h).2.1
    omega
  refine ⟨?_,?_,by omega,by omega,by omega⟩
  ·unfold Fold.fo Fold.narrow
   rw [hw]
   exact hlow
  ·cases ho:Aj x with
   | some y =>
    rw [ho] at hsp
    simp only [Bool.and_eq_true,Bool.not_eq_true'] at hsp
    rcases Bi ho with ⟨h1,rfl⟩ | ⟨h1,-⟩
    · exact Ap8 y h1 hsp.1
    · rw [hw] at h1;cases h1
   | none =>
    cases hs:Norm.syl x with
    | false=>rw [Gh hs ho,Gh hs ho]
    | true=>rw [Norm.Ay,Norm.Ay,hs];rfl
theorem Avr {l:List Int} (h:Hg l=false):∀ x ∈ l,Still x:=by
 intro x hx
 obtain ⟨k,hk,rfl⟩:=List.getElem_of_mem hx
 unfold Hg at h
 rw [List.any_eq_false] at h
 have h1:=h k (List.mem_range.2 hk)
 rw [Bool.or_eq_true,not_or] at h1
 rw [getElem!_pos l k hk] at h1
 cases hn:Ctx.Br l[k] with
 | true=>exact Agi hn
 | false =>
  have h0:Ctx.W9 l (k:Nat)=0:=by rw [Ctx.Ha hk,getElem!_pos l k hk,hn];rfl
  apply Air
  cases hc:Bo l[k] with
  | true=>rfl
  | false=>exact absurd (by rw [h0,hc];rfl) h1.2
theorem Ao3 {l:List Int} (h:∀ x ∈ l,Still x):l.map Fold.fo=l:=Fold.Vd λc hc=>(h c hc).1
theorem Ai6 {l:List Int} (h:∀ x ∈ l,Still x):Norm.down true l=Norm.down false l:=by
 unfold Norm.down Norm.split
 congr 1
 induction l with
 | nil=>rfl
 | cons x l ih =>
  rw [List.flatMap_cons,List.flatMap_cons,(h x (by simp)).2.1,ih λy hy=>h y (by simp [hy])]
structure Ayp (l:List Int):Prop where
 still:∀ x ∈ l,Still x
 wide:Du (Ah l)=false
 same:nfc l=l
 fold:Fold.fold l=l
 soft:Norm.join (Norm.down true l)=l
 dash:Fp (Ah l)=false
 mark:Dc l[0]! ≠ 4
 short:(Puny.Bm l).length<=59
theorem Rf {l:List Int} (h:Ez l=0):Ayp l:=by
 unfold Ez at h
 split at h
 ·omega
 ·rename_i h1
  rw [not_or,Decidable.not_not] at h1
  split at h
  ·omega
  ·rename_i h2
   split at h
   ·omega
   ·rename_i h3
    split at h
    ·omega
    ·rename_i h4
     split at h
     ·omega
     ·split at h
      ·omega
      ·rename_i h6
       have hs:=Avr (Bool.not_eq_true _ ▸ h4)
       refine ⟨hs,by simpa using h1.1,h1.2,?_,?_,by simpa using h2,h3,by omega⟩
       ·unfold Fold.fold
        rw [Ao3 hs]
        exact h1.2
       ·rw [Ai6 hs]
        exact h1.2
theorem Fx {bs:List UInt8}:Du bs=true ↔ ∀ c ∈ bs,c.toNat<128:=by
 unfold Du
 rw [List.all_eq_true]
 constructor
 · intro h c hc;exact of_decide_eq_true (h c hc)
 · intro h c hc;exact decide_eq_true (h c hc)
theorem right_ne {l:List Int} (h:Ayp l):l ≠ []:=λe=>by
 subst e
 have:=h.wide
 cases this
theorem Aje {l:List Int} (h:Af l=true):l.length<=(Puny.Bm l).length:=by
 have h1:=Puny.Ow h
 have h2:=Puny.Qm (Puny.Fq l) 72 (Puny.lt 128 l).length true
 unfold Puny.Bm Puny.Cs Puny.Bc
 rw [List.length_append,List.length_append,List.length_map,List.length_map]
 omega
theorem Aqo {x:Int} (h0:0<=x) (h1:x<128) (h:Fold.fo x=x):An (UInt8.ofNat x.toNat)=UInt8.ofNat x.toNat:=by
 rw [Norm.Px ⟨h0,h1⟩] at h
 have hn:(UInt8.ofNat x.toNat).toNat=x.toNat:=UInt8.toNat_ofNat_of_lt' (by show x.toNat<256;omega)
 unfold An
 rw [if_neg]
 rw [hn]
 intro hc
 rw [if_pos (by omega)] at h
 omega
theorem Aah {l:List Int} (hr:Af l=true) (h:∀ x ∈ l,Fold.fo x=x):(Puny.Bm l).map An=Puny.Bm l:=by
 refine (List.map_congr_left λc hc=>?_).trans (List.map_id _)
 show An c=c
 unfold Puny.Bm at hc
 rcases List.mem_append.1 hc with hc | hc
 ·rcases List.mem_append.1 hc with hc | hc
  ·unfold Puny.Bc at hc
   obtain ⟨x,hx,rfl⟩:=List.mem_map.1 hc
   have h1:=Puny.Ac9 hx
   exact Aqo (Puny.Te hr x h1.1) h1.2 (h x h1.1)
  ·unfold Puny.Jy at hc
   split at hc
   · cases hc
   · rw [List.mem_singleton] at hc;subst hc;decide
 ·obtain ⟨v,hv,rfl⟩:=List.mem_map.1 hc
  exact Puny.X6 (Puny.Kv _ _ _ _ (Puny.Gp (Ef hr)) v hv)
def chars (a:List UInt8):List Int:=a.map λb=>(b.toNat:Int)
theorem Et {a:List UInt8} (h:∀ c ∈ a,c.toNat<128):Af (chars a)=true:=by
 unfold Af chars
 rw [List.all_eq_true]
 intro c hc
 obtain ⟨b,hb,rfl⟩:=List.mem_map.1 hc
 have:=h b hb
 exact (Al _).2 (by omega)
theorem Ais {a:List UInt8} (h:∀ c ∈ a,c.toNat<128) (hs:a.map An=a):Fold.fold (chars a)=chars a:=by
 have ha:Norm.Du (chars a):=by
  intro c hc
  obtain ⟨b,hb,rfl⟩:=List.mem_map.1 hc
  have:=h b hb
  omega
 rw [Norm.Ji ha]
 unfold chars
 rw [List.map_map]
 refine List.map_congr_left λb hb=>?_
 have h1:An b=b:=by
  have h2:∀ (t:List UInt8),t.map An=t->∀ b ∈ t,An b=b:=by
   intro t
   induction t with
   | nil=>intro _ b hb;cases hb
   | cons x t ih =>
    intro e b hb
    rw [List.map_cons] at e
    injection e with e1 e2
    rcases List.mem_cons.1 hb with rfl | hb
    · exact e1
    · exact ih e2 b hb
  exact h2 a hs b hb
 have hb1:=h b hb
 show (if 65<=(b.toNat:Int)/\(b.toNat:Int)<=90 then (b.toNat:Int)+32 else b.toNat)=b.toNat
 rw [if_neg]
 intro hc
 unfold An at h1
 rw [if_pos (by omega)] at h1
 have:=congrArg UInt8.toNat h1
 rw [A9 (by omega)] at this
 omega
theorem Aw9:∀ c ∈ sign,c.toNat<128:=by decide
theorem Pk:sign.map An=sign:=by decide
theorem back {L:List Int} (hr:Af L=true) (hf:Fold.fold L=L) {a u:List UInt8} (h:Ej L=(0,a,u)) :
  ∃ U:List Int,u=Ah U/\Af U=true/\Fold.fold U=U/\U.length<=63/\Ej U=(0,a,u)/\(∀ c ∈ a,c.toNat<128)/\Fold.fold (chars a)=chars a/\Ej (chars a)=(0,a,u)/\0<a.length/\a.length<=63:=by
 have hfix:∀ x ∈ L,Fold.fo x=x:=by rw [<- hf];exact Fold.Qs L
 unfold Ej at h
 by_cases h1:Du (Ah L)=false
 ·rw [if_pos h1] at h
  by_cases h2:Ez L=0
  ·rw [if_pos h2] at h
   obtain ⟨-,rfl,rfl⟩:(0:Int)=0/\sign ++ Puny.Bm L=a/\Ah L=u:=by
    injection h with e1 e2
    injection e2 with e2 e3
    exact ⟨e1,e2,e3⟩
   have R:=Rf h2
   have hge:=Aje hr
   have hsh:=R.short
   have hlt:∀ c ∈ sign ++ Puny.Bm L,c.toNat<128:=λc hc=>by
    rcases List.mem_append.1 hc with hc | hc
    ·exact Aw9 c hc
    ·exact Puny.Al5 hr c hc
   have hsm:(sign ++ Puny.Bm L).map An=sign ++ Puny.Bm L:=by rw [List.map_append,Pk,Aah hr hfix]
   refine ⟨L,rfl,hr,hf,by omega,?_,hlt,Ais hlt hsm,?_,by rw [List.length_append];show 0<4+_;omega,by rw [List.length_append];show 4+_<=63;omega⟩
   ·unfold Ej
    rw [if_pos h1,if_pos h2]
   ·unfold Ej
    rw [show Ah (chars (sign ++ Puny.Bm L))=sign ++ Puny.Bm L from Ee _ hlt]
    rw [if_neg (by rw [Fx.2 hlt];decide),if_pos (by rw [List.take_append_of_le_length (by decide)];rfl)]
    rw [show (sign ++ Puny.Bm L).drop 4=Puny.Bm L from List.drop_left' rfl,Puny.Ack hr (by omega)]
    simp only
    rw [if_neg (by rw [List.length_append];show ¬ 63<4+_;omega),if_neg (by rw [h2];decide),if_neg (by simp)]
  ·rw [if_neg h2] at h
   injection h with e1 e2
   exact absurd e1 h2
 ·rw [if_neg h1] at h
  have ha:∀ c ∈ Ah L,c.toNat<128:=Fx.1 (by simpa using h1)
  have hch:chars (Ah L)=L:=Io (Et ha) hr (Ee _ ha)
  by_cases h3:(Ah L).take 4=sign
  ·rw [if_pos h3] at h
   cases hd:Puny.Hi ((Ah L).drop 4) with
   | none =>
    rw [hd] at h
    simp only at h
    injection h with e1 e2
    exact absurd e1 (by decide)
   | some l =>
    rw [hd] at h
    simp only at h
    by_cases h4:63<(Ah L).length
    ·rw [if_pos h4] at h
     injection h with e1 e2
     exact absurd e1 (by decide)
    ·rw [if_neg h4] at h
     by_cases h5:Ez l ≠ 0
     ·rw [if_pos h5] at h
      injection h with e1 e2
      exact absurd e1 h5
     ·rw [if_neg h5] at h
      rw [Decidable.not_not] at h5
      by_cases h6:Puny.Bm l ≠ (Ah L).drop 4
      ·rw [if_pos h6] at h
       injection h with e1 e2
       exact absurd e1 (by decide)
      ·rw [if_neg h6] at h
       obtain ⟨-,rfl,rfl⟩:(0:Int)=0/\Ah L=a/\Ah l=u:=by
        injection h with e1 e2
        injection e2 with e2 e3
        exact ⟨e1,e2,e3⟩
       rw [Decidable.not_not] at h6
       have R:=Rf h5
       obtain ⟨hrl,-,hll⟩:=Puny.Acs hd
       have hge:=Aje hrl
       have hsh:=R.short
       have hcat:sign ++ Puny.Bm l=Ah L:=by rw [h6,<- h3,List.take_append_drop]
       refine ⟨l,rfl,hrl,R.fold,by omega,?_,ha,by rw [hch];exact hf,?_,?_,by omega⟩
       ·unfold Ej
        rw [if_pos R.wide,if_pos h5,hcat]
       ·rw [hch]
        unfold Ej
        rw [if_neg h1,if_pos h3,hd]
        simp only
        rw [if_neg h4,if_neg (by rw [h5];decide),if_neg (by rw [h6];simp)]
       ·rw [<- hcat,List.length_append]
        show 0<4+_
        omega
  ·rw [if_neg h3] at h
   by_cases h4:Fu (Ah L)=0
   ·rw [if_pos h4] at h
    obtain ⟨-,rfl,rfl⟩:(0:Int)=0/\Ah L=a/\Ah L=u:=by
     injection h with e1 e2
     injection e2 with e2 e3
     exact ⟨e1,e2,e3⟩
    have hb:Ej L=(0,Ah L,Ah L):=by
     unfold Ej
     rw [if_neg h1,if_neg h3,if_pos h4]
    have hl:0<(Ah L).length/\(Ah L).length<=63:=by
     unfold Fu at h4
     split at h4
     ·omega
     ·split at h4
      ·omega
      ·omega
    have hLL:L.length=(Ah L).length:=by
     have:=congrArg List.length hch
     unfold chars at this
     rw [List.length_map] at this
     exact this.symm
    refine ⟨L,rfl,hr,hf,by omega,hb,ha,by rw [hch];exact hf,by rw [hch];exact hb,hl.1,hl.2⟩
   ·rw [if_neg h4] at h
    injection h with e1 e2
    exact absurd e1 h4
end Lab
end
section
open Go.RowKit Utf
namespace Lab
theorem Mw {s:List UInt8} (h:(As s).2=-1):Af (ints (As s).1)=true/\s=Ah (ints (As s).1):=by
 obtain ⟨h1,-,h3⟩:=Dw (s:=s) (m:=(As s).1) (z:=(As s).2) rfl
 obtain ⟨h4,h5⟩:=Ky _ h1
 refine ⟨h4,?_⟩
 rcases h3 with ⟨-,h3⟩ | ⟨k,hk,-⟩
 · rw [h5,h3]
 · omega
theorem Aag (x:Int) (t:List Int) (h:0<=x/\x<128):Ah (x::t)=UInt8.ofNat x.toNat::Ah t:=by
 unfold Ah
 rw [List.flatMap_cons]
 unfold enc
 rw [if_pos (by omega)]
 rfl
def Sy (bs:List UInt8) (i:Nat):Bool :=
 (Bidi.Ca (Dk bs i) && Dk bs i != 45) || (Dk bs i == 45 && decide (0<i) && decide (i+1<bs.length) && (i != 2 || Dk bs 3 != 45))
theorem Ib {bs:List UInt8} {i:Nat} (h:i<bs.length):Dk bs i=(bs[i].toNat:Int):=by
 unfold Dk
 rw [List.getElem?_eq_getElem h]
 rfl
theorem Apk (bs:List UInt8):Fu bs=0 ↔ 0<bs.length/\bs.length<=63/\∀ i,i<bs.length->Sy bs i=true:=by
 unfold Fu
 by_cases h0:bs.length=0
 ·rw [if_pos h0]
  constructor
  ·intro h;exact absurd h (by decide)
  ·rintro ⟨h,-⟩;omega
 ·rw [if_neg h0]
  by_cases h1:63<bs.length
  ·rw [if_pos h1]
   constructor
   ·intro h;exact absurd h (by decide)
   ·rintro ⟨-,h,-⟩;omega
  ·rw [if_neg h1]
   cases ha:(bs.all λc=>Bidi.Ca (c.toNat:Int)) with
   | false =>
    rw [if_pos rfl]
    constructor
    ·intro h;exact absurd h (by decide)
    ·rintro ⟨-,-,h⟩
     exfalso
     rw [List.all_eq_false] at ha
     obtain ⟨c,hc,hp⟩:=ha
     obtain ⟨k,hk,rfl⟩:=List.getElem_of_mem hc
     have:=h k hk
     unfold Sy at this
     rw [Ib hk] at this
     simp only [Bool.or_eq_true,Bool.and_eq_true] at this
     rcases this with h2 | h2
     ·exact hp h2.1
     ·have:(bs[k].toNat:Int)=45:=by simpa using h2.1.1.1
      rw [this] at hp
      exact hp (by decide)
   | true =>
    rw [if_neg (by decide)]
    rw [List.all_eq_true] at ha
    cases hd:Fp bs with
    | true =>
     rw [if_pos rfl]
     constructor
     ·intro h;exact absurd h (by decide)
     ·rintro ⟨-,-,h⟩
      exfalso
      unfold Fp at hd
      simp only [Bool.or_eq_true,Bool.and_eq_true,decide_eq_true_eq,beq_iff_eq] at hd
      rcases hd with (hd | hd) | ⟨⟨h3,hd2⟩,hd3⟩
      ·have:=h 0 (by omega)
       unfold Sy at this
       rw [hd] at this
       simp at this
      ·have:=h (bs.length - 1) (by omega)
       unfold Sy at this
       rw [hd] at this
       simp at this
       omega
      ·have:=h 2 (by omega)
       unfold Sy at this
       rw [hd2,hd3] at this
       simp at this
    | false =>
     rw [if_neg (by decide)]
     refine ⟨λ_=>⟨by omega,by omega,λi hi=>?_⟩,λ_=>rfl⟩
     unfold Fp at hd
     simp only [Bool.or_eq_false_iff,Bool.and_eq_false_iff,decide_eq_false_iff_not,beq_eq_false_iff_ne] at hd
     obtain ⟨⟨d0,d1⟩,d2⟩:=hd
     have hp:=ha bs[i] (List.getElem_mem hi)
     rw [<- Ib hi] at hp
     unfold Sy
     rw [hp]
     by_cases h45:Dk bs i=45
     ·have i0:i ≠ 0:=λe=>d0 (by rw [<- e];exact h45)
      have i1:i ≠ bs.length - 1:=λe=>d1 (by rw [<- e];exact h45)
      rw [h45]
      have h2:(i != 2 || Dk bs 3 != 45)=true:=by
       by_cases i2:i=2
       ·subst i2
        rcases d2 with (d2 | d2) | d2
        · exact absurd (by omega) d2
        · exact absurd h45 d2
        · simp [d2]
       ·simp [i2]
      rw [h2,decide_eq_true (show 0<i by omega),decide_eq_true (show i+1<bs.length by omega)]
      rfl
     ·simp [h45]
theorem Oq {s:List UInt8} (h:∀ c ∈ s,c.toNat<128):Er s=Ej (chars (s.map An)):=by
 have e:s=Ah (chars s):=(Ee s h).symm
 rw [e,Ia (Et h),<- e]
 congr 1
 have ha:Norm.Du (chars s):=by
  intro c hc
  obtain ⟨b,hb,rfl⟩:=List.mem_map.1 hc
  have:=h b hb
  omega
 rw [Norm.Ji ha]
 unfold chars
 rw [List.map_map,List.map_map]
 refine List.map_congr_left λb hb=>?_
 have hb1:=h b hb
 show (if 65<=(b.toNat:Int)/\(b.toNat:Int)<=90 then (b.toNat:Int)+32 else b.toNat)=((An b).toNat:Int)
 unfold An
 by_cases hc:65<=b.toNat/\b.toNat<=90
 ·rw [if_pos (by omega),if_pos hc,A9 (by omega)];omega
 ·rw [if_neg (by omega),if_neg hc]
end Lab
end
end Go.Proofs.YtpcgbgfpnhiihaaGreatDoor
