import Derived.Test.YtipkfalbepiphaaGreatDoorDomPl
namespace Go.Proofs.YtipkfalbepiphaaGreatDoor
section
open Go.RowKit Utf
namespace Prec
def Cg (r:Int):Bool:=(decide (33<=r) && decide (r<=126)) || (Ec r == 1 && (match Ak r with | none=>true | some y=>!y.soft && !y.out)) || Lab.Cg r
def Hc (l:List Int):Bool:=(List.range l.length).any λi=>Ctx.Zh l (i:Nat) == 2 || (Ctx.Zh l (i:Nat) == 0 && !Cg l[i]!)
def Tz (l:List Int):Int:=if l=[] then 13 else if Hc l then 8 else 0
def Ax8 (bs:List UInt8):Int:=if (Au bs).2=-1 then Tz (ints (Au bs).1) else 7
def Az8 (L:List Int):Int × List UInt8:=if Tz L ≠ 0 then (Tz L,[]) else if Bidi.has L && !Bidi.Aby L then (9,[]) else (0,Ah L)
def Arw (bs:List UInt8):Int × List UInt8:=if (Au bs).2=-1 then Az8 (Fold.fold (ints (Au bs).1)) else (7,[])
def Bz (x:Int):Bool:=(decide (0<=x) && decide (x<=32)) || x == 127
def Aa0 (x:Int):Bool:=!Cg x && !Ctx.Ci x
end Prec
end
section
open Go.RowKit Utf
namespace Prec
theorem Ym {r:Nat} (h:128<=r) (hr:r<=1114111):∀ c ∈ enc r,128<=c.toNat:=by
 intro c hc;unfold enc at hc;rw [if_neg jO] at hc;split at hc
 ·simp only [jal,List.not_mem_nil,or_false] at hc;rcases hc with rfl | rfl<;>rw [Bb jO]<;>omega
 ·split at hc
  ·simp only [jal,List.not_mem_nil,or_false] at hc;rcases hc with rfl | rfl | rfl<;>rw [Bb jO]<;>omega
  ·simp only [jal,List.not_mem_nil,or_false] at hc;rcases hc with rfl | rfl | rfl | rfl<;>rw [Bb jO]<;>omega
theorem Aff:∀ {l:List Int} {c:UInt8},Ae l=true->c ∈ Ah l->c.toNat<128->(c.toNat:Int) ∈ l
 | [],_,_,h,_=>by cases h
 | x::l,c,hr,h,hc=>by
  have h2:Aj x=true/\Ae l=true:=by unfold Ae at hr ⊢;simpa using hr
  unfold Ah at h;rw [jao,jap] at h;rcases h with h | h
  ·have hx:=(An _).1 h2.1;by_cases h128:x<128
   ·unfold enc at h;rw [if_pos jO] at h;have hcx:c=u x.toNat:=by simpa using h
    have:c.toNat=x.toNat:=by rw [hcx,Bb jO]
    rw [jal];exact .inl jO
   ·have:=Ym (by omega:128<=x.toNat) jO c h;omega
  ·exact List.mem_cons_of_mem _ (Aff h2.2 h hc)
theorem Ax7 {r:Int} (h:Lab.Cg r=true):Cg r=true:=by
 unfold Cg;rw [h,Bool.or_true]
theorem A2x {l:List Int} (h:Lab.Hc l=false):Hc l=false:=by
 unfold Lab.Hc at h;unfold Hc;rw [List.any_eq_false] at h ⊢;intro k hk;have:=h k hk;rw [Bool.or_eq_true,not_or] at this ⊢;refine ⟨this.1,λh2=>this.2 ?_⟩;rw [jag,Bool.not_eq_true'] at h2 ⊢;refine ⟨h2.1,?_⟩;cases hc:Lab.Cg l[k]! with
 | false=>rfl
 | true=>rw [Ax7 hc] at h2;exact absurd h2.2 jD
theorem Aw7 {l:List Int} (h:Lab.Ev l=0):Fold.fold l=l/\Tz l=0/\Az8 l=(0,Ah l):=by
 have R:=Lab.Od h;have hne:=Lab.Alc R;unfold Lab.Ev at h;split at h
 ·exact absurd h jD
 ·split at h
  ·exact absurd h jD
  ·split at h
   ·exact absurd h jD
   ·split at h
    ·exact absurd h jD
    ·rename_i hb
     split at h
     ·exact absurd h jD
     ·rename_i hr
      have hc:Tz l=0:=by
       unfold Tz;rw [if_neg hne,A2x (by simpa using hb)];rfl
      refine ⟨R.fold,hc,?_⟩;unfold Az8;rw [hc,if_neg jD,if_neg hr]
theorem Asd {bs:List UInt8} (h:Lab.Fz bs=0):Arw bs=(0,bs)/\Ax8 bs=0:=by
 unfold Lab.Fz at h;by_cases hz:(Au bs).2=-1
 ·rw [if_pos hz] at h;obtain ⟨h1,h2⟩:=Aw7 h |>.imp_right id
  obtain ⟨-,hs⟩:=Lab.Sx hz;refine ⟨?_,?_⟩
  ·unfold Arw;rw [if_pos hz,h1,h2.2,<- hs]
  ·unfold Ax8;rw [if_pos hz];exact h2.1
 ·rw [if_neg hz] at h;exact absurd h jD
def printed (c:Int):Bool:=decide (32<c) && decide (c<127)
def Ou (x:Int):Bool:=!Ctx.Ci x && (Cg x == printed x) && !Bidi.Ag7 (Cd x)
def Aw (bs:List UInt8):Bool:=decide (0<bs.length) && bs.all λc=>printed (c.toNat:Int)
theorem Hq (bs:List UInt8):Aw (bs.map Af)=Aw bs:=by
 unfold Aw;rw [jai,List.all_map];congr 1;congr 1
 funext c
 have hs:((Af c).toNat:Int)=if 65<=c.toNat/\c.toNat<=90 then (c.toNat:Int)+32 else c.toNat:=by
  unfold Af;by_cases hc:65<=c.toNat/\c.toNat<=90
  · rw [if_pos hc,if_pos hc,Bb jO];omega
  · rw [if_neg hc,if_neg hc]
 show printed ((Af c).toNat:Int)=printed (c.toNat:Int);rw [hs];unfold printed;by_cases hc:65<=c.toNat/\c.toNat<=90
 ·rw [if_pos hc,decide_eq_true (show (32:Int)<(c.toNat:Int)+32 by omega),decide_eq_true (show (c.toNat:Int)+32<127 by omega),decide_eq_true (show (32:Int)<(c.toNat:Int) by omega),decide_eq_true (show (c.toNat:Int)<127 by omega)]
 ·rw [if_neg hc]
end Prec
end
section
open Go.RowKit Utf
end
