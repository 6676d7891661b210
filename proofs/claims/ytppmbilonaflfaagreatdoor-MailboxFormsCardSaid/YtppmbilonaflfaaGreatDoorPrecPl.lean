import Derived.Test.YtppmbilonaflfaaGreatDoorDomPl
namespace Go.Proofs.YtppmbilonaflfaaGreatDoor
section
open Go.RowKit Utf
namespace Prec
def Bj (r:Int):Bool:=(decide (33<=r) && decide (r<=126)) || (Dk r == 1 && (match Aj r with | none=>true | some y=>!y.soft && !y.out)) || Lab.Bj r
def Fu (l:List Int):Bool:=(List.range l.length).any λi=>Ctx.Xb l (i:Nat) == 2 || (Ctx.Xb l (i:Nat) == 0 && !Bj l[i]!)
def Hw (l:List Int):Int:=if l=[] then 13 else if Fu l then 8 else 0
def Me (bs:List UInt8):Int:=if (Aq bs).2=-1 then Hw (ints (Aq bs).1) else 7
def Ug (L:List Int):Int × List UInt8:=if Hw L ≠ 0 then (Hw L,[]) else if Bidi.has L && !Bidi.Uq L then (9,[]) else (0,Ah L)
def Hs (bs:List UInt8):Int × List UInt8:=if (Aq bs).2=-1 then Ug (Fold.fold (ints (Aq bs).1)) else (7,[])
theorem Ajq {l:List Int} (h:Ag l=true):Me (Ah l)=Hw l:=by
 unfold Me
 rw [E8 h,if_pos rfl,(Cr h).1]
theorem Apl {l:List Int} (h:Ag l=true):Hs (Ah l)=Ug (Fold.fold l):=by
 unfold Hs
 rw [E8 h,if_pos rfl,(Cr h).1]
def Bx (x:Int):Bool:=(decide (0<=x) && decide (x<=32)) || x == 127
def Xt (x:Int):Bool:=!Bj x && !Ctx.Bw x
end Prec
end
section
open Go.RowKit Utf
namespace Prec
theorem Wz {r:Nat} (h:128<=r) (hr:r<=1114111):∀ c ∈ enc r,128<=c.toNat:=by
 intro c hc
 unfold enc at hc
 rw [if_neg (by omega)] at hc
 split at hc
 ·simp only [List.mem_cons,List.not_mem_nil,or_false] at hc
  rcases hc with rfl | rfl<;>rw [Bb (by omega)]<;>omega
 ·split at hc
  ·simp only [List.mem_cons,List.not_mem_nil,or_false] at hc
   rcases hc with rfl | rfl | rfl<;>rw [Bb (by omega)]<;>omega
  ·simp only [List.mem_cons,List.not_mem_nil,or_false] at hc
   rcases hc with rfl | rfl | rfl | rfl<;>rw [Bb (by omega)]<;>omega
theorem Adb:∀ {l:List Int} {c:UInt8},Ag l=true->c ∈ Ah l->c.toNat<128->(c.toNat:Int) ∈ l
 | [],_,_,h,_=>by cases h
 | x::l,c,hr,h,hc=>by
  have h2:Ak x=true/\Ag l=true:=by unfold Ag at hr ⊢;simpa using hr
  unfold Ah at h
  rw [List.flatMap_cons,List.mem_append] at h
  rcases h with h | h
  ·have hx:=(Al _).1 h2.1
   by_cases h128:x<128
   ·unfold enc at h
    rw [if_pos (by omega)] at h
    have hcx:c=u x.toNat:=by simpa using h
    have:c.toNat=x.toNat:=by rw [hcx,Bb (by omega)]
    rw [List.mem_cons]
    exact .inl (by omega)
   ·have:=Wz (by omega:128<=x.toNat) (by omega) c h
    omega
  ·exact List.mem_cons_of_mem _ (Adb h2.2 h hc)
theorem Al8 {bs n:List UInt8} (h:Hs bs=(0,n)):∃ L:List Int,Ag L=true/\Fold.fold L=L/\n=Ah L/\Ug L=(0,Ah L)/\Hw L=0/\(Aq bs).2=-1/\L=Fold.fold (ints (Aq bs).1):=by
 unfold Hs at h
 split at h
 ·rename_i hz
  obtain ⟨h1,-⟩:=Lab.Lr hz
  refine ⟨Fold.fold (ints (Aq bs).1),Dg h1,Fold.Il _,?_⟩
  generalize Fold.fold (ints (Aq bs).1)=L at h
  have h0:=h
  unfold Ug at h
  split at h
  ·rename_i hc
   injection h with h1 h2
   exact absurd h1 hc
  ·rename_i hc
   split at h
   ·injection h with h1 h2
    exact absurd h1 (by decide)
   ·injection h with h1 h2
    subst h2
    exact ⟨rfl,h0,Decidable.not_not.1 hc,hz,rfl⟩
 ·injection h with h1 h2
  exact absurd h1 (by decide)
theorem Ak2 {L:List Int} (hr:Ag L=true) (hf:Fold.fold L=L) (h:Ug L=(0,Ah L)):Hs (Ah L)=(0,Ah L):=by
 rw [Apl hr,hf,h]
theorem Atw {r:Int} (h:Lab.Bj r=true):Bj r=true:=by
 unfold Bj
 rw [h,Bool.or_true]
theorem Av7 {l:List Int} (h:Lab.Fu l=false):Fu l=false:=by
 unfold Lab.Fu at h
 unfold Fu
 rw [List.any_eq_false] at h ⊢
 intro k hk
 have:=h k hk
 rw [Bool.or_eq_true,not_or] at this ⊢
 refine ⟨this.1,λh2=>this.2 ?_⟩
 rw [Bool.and_eq_true,Bool.not_eq_true'] at h2 ⊢
 refine ⟨h2.1,?_⟩
 cases hc:Lab.Bj l[k]! with
 | false=>rfl
 | true=>rw [Atw hc] at h2;exact absurd h2.2 (by decide)
theorem Apn {l:List Int} (h:Lab.Ei l=0):Fold.fold l=l/\Hw l=0/\Ug l=(0,Ah l):=by
 have R:=Lab.Mu h
 have hne:=Lab.Ath R
 unfold Lab.Ei at h
 split at h
 ·exact absurd h (by decide)
 ·split at h
  ·exact absurd h (by decide)
  ·split at h
   ·exact absurd h (by decide)
   ·split at h
    ·exact absurd h (by decide)
    ·rename_i hb
     split at h
     ·exact absurd h (by decide)
     ·rename_i hr
      have hc:Hw l=0:=by
       unfold Hw
       rw [if_neg hne,Av7 (by simpa using hb)]
       rfl
      refine ⟨R.fold,hc,?_⟩
      unfold Ug
      rw [hc,if_neg (by decide),if_neg hr]
theorem Alx {bs:List UInt8} (h:Lab.Fo bs=0):Hs bs=(0,bs)/\Me bs=0:=by
 unfold Lab.Fo at h
 by_cases hz:(Aq bs).2=-1
 ·rw [if_pos hz] at h
  obtain ⟨h1,h2⟩:=Apn h |>.imp_right id
  obtain ⟨-,hs⟩:=Lab.Lr hz
  refine ⟨?_,?_⟩
  ·unfold Hs
   rw [if_pos hz,h1,h2.2,<- hs]
  ·unfold Me
   rw [if_pos hz]
   exact h2.1
 ·rw [if_neg hz] at h
  exact absurd h (by decide)
def printed (c:Int):Bool:=decide (32<c) && decide (c<127)
def Nv (x:Int):Bool:=!Ctx.Bw x && (Bj x == printed x) && !Bidi.Aco (Ba x)
def Bf (bs:List UInt8):Bool:=decide (0<bs.length) && bs.all λc=>printed (c.toNat:Int)
end Prec
end
section
open Go.RowKit Utf
end
end Go.Proofs.YtppmbilonaflfaaGreatDoor
