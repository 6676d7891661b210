import Derived.Test.YtpcgbgfpnhiihaaGreatDoorDomPl
namespace Go.Proofs.YtpcgbgfpnhiihaaGreatDoor
section
open Go.RowKit Utf
namespace Prec
def Bo (r:Int):Bool:=(decide (33<=r) && decide (r<=126)) || (Dc r == 1 && (match Aj r with | none=>true | some y=>!y.soft && !y.out)) || Lab.Bo r
def Hg (l:List Int):Bool:=(List.range l.length).any λi=>Ctx.W9 l (i:Nat) == 2 || (Ctx.W9 l (i:Nat) == 0 && !Bo l[i]!)
def Mb (l:List Int):Int:=if l=[] then 13 else if Hg l then 8 else 0
def Ma (bs:List UInt8):Int:=if (As bs).2=-1 then Mb (ints (As bs).1) else 7
def Axp (L:List Int):Int × List UInt8:=if Mb L ≠ 0 then (Mb L,[]) else if Bidi.has L && !Bidi.Xv L then (9,[]) else (0,Ah L)
def Q3 (bs:List UInt8):Int × List UInt8:=if (As bs).2=-1 then Axp (Fold.fold (ints (As bs).1)) else (7,[])
theorem Ait {l:List Int} (h:Af l=true):Ma (Ah l)=Mb l:=by
 unfold Ma
 rw [Fv h,if_pos rfl,(Dg h).1]
def Bv (x:Int):Bool:=(decide (0<=x) && decide (x<=32)) || x == 127
def Yp (x:Int):Bool:=!Bo x && !Ctx.Br x
end Prec
end
section
open Go.RowKit Utf
namespace Prec
theorem Wh {r:Nat} (h:128<=r) (hr:r<=1114111):∀ c ∈ enc r,128<=c.toNat:=by
 intro c hc
 unfold enc at hc
 rw [if_neg (by omega)] at hc
 split at hc
 ·simp only [List.mem_cons,List.not_mem_nil,or_false] at hc
  rcases hc with rfl | rfl<;>rw [A9 (by omega)]<;>omega
 ·split at hc
  ·simp only [List.mem_cons,List.not_mem_nil,or_false] at hc
   rcases hc with rfl | rfl | rfl<;>rw [A9 (by omega)]<;>omega
  ·simp only [List.mem_cons,List.not_mem_nil,or_false] at hc
   rcases hc with rfl | rfl | rfl | rfl<;>rw [A9 (by omega)]<;>omega
theorem Acg:∀ {l:List Int} {c:UInt8},Af l=true->c ∈ Ah l->c.toNat<128->(c.toNat:Int) ∈ l
 | [],_,_,h,_=>by cases h
 | x::l,c,hr,h,hc=>by
  have h2:Ak x=true/\Af l=true:=by unfold Af at hr ⊢;simpa using hr
  unfold Ah at h
  rw [List.flatMap_cons,List.mem_append] at h
  rcases h with h | h
  ·have hx:=(Al _).1 h2.1
   by_cases h128:x<128
   ·unfold enc at h
    rw [if_pos (by omega)] at h
    have hcx:c=u x.toNat:=by simpa using h
    have:c.toNat=x.toNat:=by rw [hcx,A9 (by omega)]
    rw [List.mem_cons]
    exact .inl (by omega)
   ·have:=Wh (by omega:128<=x.toNat) (by omega) c h
    omega
  ·exact List.mem_cons_of_mem _ (Acg h2.2 h hc)
theorem char_lab {r:Int} (h:Lab.Bo r=true):Bo r=true:=by
 unfold Bo
 rw [h,Bool.or_true]
theorem bad_lab {l:List Int} (h:Lab.Hg l=false):Hg l=false:=by
 unfold Lab.Hg at h
 unfold Hg
 rw [List.any_eq_false] at h ⊢
 intro k hk
 have:=h k hk
 rw [Bool.or_eq_true,not_or] at this ⊢
 refine ⟨this.1,λh2=>this.2 ?_⟩
 rw [Bool.and_eq_true,Bool.not_eq_true'] at h2 ⊢
 refine ⟨h2.1,?_⟩
 cases hc:Lab.Bo l[k]! with
 | false=>rfl
 | true=>rw [char_lab hc] at h2;exact absurd h2.2 (by decide)
theorem wide_name {l:List Int} (h:Lab.Ez l=0):Fold.fold l=l/\Mb l=0/\Axp l=(0,Ah l):=by
 have R:=Lab.Rf h
 have hne:=Lab.right_ne R
 unfold Lab.Ez at h
 split at h
 ·exact absurd h (by decide)
 ·split at h
  ·exact absurd h (by decide)
  ·split at h
   ·exact absurd h (by decide)
   ·split at h
    ·exact absurd h (by decide)
    ·rename_i hb
     split at h
     ·exact absurd h (by decide)
     ·rename_i hr
      have hc:Mb l=0:=by
       unfold Mb
       rw [if_neg hne,bad_lab (by simpa using hb)]
       rfl
      refine ⟨R.fold,hc,?_⟩
      unfold Axp
      rw [hc,if_neg (by decide),if_neg hr]
theorem Am0 {bs:List UInt8} (h:Lab.Fl bs=0):Q3 bs=(0,bs)/\Ma bs=0:=by
 unfold Lab.Fl at h
 by_cases hz:(As bs).2=-1
 ·rw [if_pos hz] at h
  obtain ⟨h1,h2⟩:=wide_name h |>.imp_right id
  obtain ⟨-,hs⟩:=Lab.Mw hz
  refine ⟨?_,?_⟩
  ·unfold Q3
   rw [if_pos hz,h1,h2.2,<- hs]
  ·unfold Ma
   rw [if_pos hz]
   exact h2.1
 ·rw [if_neg hz] at h
  exact absurd h (by decide)
def printed (c:Int):Bool:=decide (32<c) && decide (c<127)
def Np (x:Int):Bool:=!Ctx.Br x && (Bo x == printed x) && !Bidi.Ad0 (Bz x)
def Az (bs:List UInt8):Bool:=decide (0<bs.length) && bs.all λc=>printed (c.toNat:Int)
end Prec
end
section
open Go.RowKit Utf
end
end Go.Proofs.YtpcgbgfpnhiihaaGreatDoor
