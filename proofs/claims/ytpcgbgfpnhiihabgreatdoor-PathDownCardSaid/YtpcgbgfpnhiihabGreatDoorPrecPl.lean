import Derived.Test.YtpcgbgfpnhiihabGreatDoorDomPl
namespace Go.Proofs.YtpcgbgfpnhiihabGreatDoor
section
open Go.RowKit Utf
namespace Prec
def Bh (r:Int):Bool:=(decide (33<=r) && decide (r<=126)) || (Dh r == 1 && (match Ah r with | none=>true | some y=>!y.soft && !y.out)) || Lab.Bh r
def Fj (l:List Int):Bool:=(List.range l.length).any λi=>Ctx.Xb l (i:Nat) == 2 || (Ctx.Xb l (i:Nat) == 0 && !Bh l[i]!)
def Io (l:List Int):Int:=if l=[] then 13 else if Fj l then 8 else 0
def Ly (bs:List UInt8):Int:=if (Au bs).2=-1 then Io (ints (Au bs).1) else 7
def Amv (L:List Int):Int × List UInt8:=if Io L ≠ 0 then (Io L,[]) else if Bidi.has L && !Bidi.Xy L then (9,[]) else (0,Ag L)
def Q1 (bs:List UInt8):Int × List UInt8:=if (Au bs).2=-1 then Amv (Fold.fold (ints (Au bs).1)) else (7,[])
theorem Ai0 {l:List Int} (h:Ae l=true):Ly (Ag l)=Io l:=by
 unfold Ly;rw [Ff h,if_pos rfl,(C8 h).1]
def Bv (x:Int):Bool:=(decide (0<=x) && decide (x<=32)) || x == 127
def Ys (x:Int):Bool:=!Bh x && !Ctx.Br x
end Prec
end
section
open Go.RowKit Utf
namespace Prec
theorem Wk {r:Nat} (h:128<=r) (hr:r<=1114111):∀ c ∈ enc r,128<=c.toNat:=by
 intro c hc;unfold enc at hc;rw [if_neg jO] at hc;split at hc
 ·simp only [jal,List.not_mem_nil,or_false] at hc;rcases hc with rfl | rfl<;>rw [Ba jO]<;>omega
 ·split at hc
  ·simp only [jal,List.not_mem_nil,or_false] at hc;rcases hc with rfl | rfl | rfl<;>rw [Ba jO]<;>omega
  ·simp only [jal,List.not_mem_nil,or_false] at hc;rcases hc with rfl | rfl | rfl | rfl<;>rw [Ba jO]<;>omega
theorem Ack:∀ {l:List Int} {c:UInt8},Ae l=true->c ∈ Ag l->c.toNat<128->(c.toNat:Int) ∈ l
 | [],_,_,h,_=>by cases h
 | x::l,c,hr,h,hc=>by
  have h2:Ai x=true/\Ae l=true:=by unfold Ae at hr ⊢;simpa using hr
  unfold Ag at h;rw [jao,jap] at h;rcases h with h | h
  ·have hx:=(Ak _).1 h2.1;by_cases h128:x<128
   ·unfold enc at h;rw [if_pos jO] at h;have hcx:c=u x.toNat:=by simpa using h
    have:c.toNat=x.toNat:=by rw [hcx,Ba jO]
    rw [jal];exact .inl jO
   ·have:=Wk (by omega:128<=x.toNat) jO c h;omega
  ·exact List.mem_cons_of_mem _ (Ack h2.2 h hc)
theorem Asf {r:Int} (h:Lab.Bh r=true):Bh r=true:=by
 unfold Bh;rw [h,Bool.or_true]
theorem Av2 {l:List Int} (h:Lab.Fj l=false):Fj l=false:=by
 unfold Lab.Fj at h;unfold Fj;rw [List.any_eq_false] at h ⊢;intro k hk;have:=h k hk;rw [Bool.or_eq_true,not_or] at this ⊢;refine ⟨this.1,λh2=>this.2 ?_⟩;rw [jag,Bool.not_eq_true'] at h2 ⊢;refine ⟨h2.1,?_⟩;cases hc:Lab.Bh l[k]! with
 | false=>rfl
 | true=>rw [Asf hc] at h2;exact absurd h2.2 jD
theorem Ark {l:List Int} (h:Lab.Eh l=0):Fold.fold l=l/\Io l=0/\Amv l=(0,Ag l):=by
 have R:=Lab.My h;have hne:=Lab.Xv R;unfold Lab.Eh at h;split at h
 ·exact absurd h jD
 ·split at h
  ·exact absurd h jD
  ·split at h
   ·exact absurd h jD
   ·split at h
    ·exact absurd h jD
    ·rename_i hb
     split at h
     ·exact absurd h jD
     ·rename_i hr
      have hc:Io l=0:=by
       unfold Io;rw [if_neg hne,Av2 (by simpa using hb)];rfl
      refine ⟨R.fold,hc,?_⟩;unfold Amv;rw [hc,if_neg jD,if_neg hr]
theorem Ana {bs:List UInt8} (h:Lab.Ft bs=0):Q1 bs=(0,bs)/\Ly bs=0:=by
 unfold Lab.Ft at h;by_cases hz:(Au bs).2=-1
 ·rw [if_pos hz] at h;obtain ⟨h1,h2⟩:=Ark h |>.imp_right id
  obtain ⟨-,hs⟩:=Lab.Mw hz;refine ⟨?_,?_⟩
  ·unfold Q1;rw [if_pos hz,h1,h2.2,<- hs]
  ·unfold Ly;rw [if_pos hz];exact h2.1
 ·rw [if_neg hz] at h;exact absurd h jD
def printed (c:Int):Bool:=decide (32<c) && decide (c<127)
def Nq (x:Int):Bool:=!Ctx.Br x && (Bh x == printed x) && !Bidi.Ad5 (Bz x)
def A9 (bs:List UInt8):Bool:=decide (0<bs.length) && bs.all λc=>printed (c.toNat:Int)
end Prec
end
section
open Go.RowKit Utf
end
