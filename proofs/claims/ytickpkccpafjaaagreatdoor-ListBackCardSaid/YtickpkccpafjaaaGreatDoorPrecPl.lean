import Derived.Test.YtickpkccpafjaaaGreatDoorDomPl
namespace Go.Proofs.YtickpkccpafjaaaGreatDoor
section
open Go.RowKit Utf
namespace Prec
def Ca (r:Int):Bool:=(decide (33<=r) && decide (r<=126)) || (D4 r == 1 && (match Ak r with | none=>true | some y=>!y.soft && !y.out)) || Lab.Ca r
def Gt (l:List Int):Bool:=(List.range l.length).any λi=>Ctx.Yi l (i:Nat) == 2 || (Ctx.Yi l (i:Nat) == 0 && !Ca l[i]!)
def Ta (l:List Int):Int:=if l=[] then 13 else if Gt l then 8 else 0
def Avc (bs:List UInt8):Int:=if (Aq bs).2=-1 then Ta (ints (Aq bs).1) else 7
def Aw6 (L:List Int):Int × List UInt8:=if Ta L ≠ 0 then (Ta L,[]) else if Bidi.has L && !Bidi.Aaw L then (9,[]) else (0,Ah L)
def A1e (bs:List UInt8):Int × List UInt8:=if (Aq bs).2=-1 then Aw6 (Fold.fold (ints (Aq bs).1)) else (7,[])
def Br (x:Int):Bool:=(decide (0<=x) && decide (x<=32)) || x == 127
def Z1 (x:Int):Bool:=!Ca x && !Ctx.Cg x
end Prec
end
section
open Go.RowKit Utf
namespace Prec
theorem Xk {r:Nat} (h:128<=r) (hr:r<=1114111):∀ c ∈ enc r,128<=c.toNat:=by
 intro c hc;unfold enc at hc;rw [if_neg jO] at hc;split at hc
 ·simp only [jal,List.not_mem_nil,or_false] at hc;rcases hc with rfl | rfl<;>rw [Ba jO]<;>omega
 ·split at hc
  ·simp only [jal,List.not_mem_nil,or_false] at hc;rcases hc with rfl | rfl | rfl<;>rw [Ba jO]<;>omega
  ·simp only [jal,List.not_mem_nil,or_false] at hc;rcases hc with rfl | rfl | rfl | rfl<;>rw [Ba jO]<;>omega
theorem Ad9:∀ {l:List Int} {c:UInt8},Af l=true->c ∈ Ah l->c.toNat<128->(c.toNat:Int) ∈ l
 | [],_,_,h,_=>by cases h
 | x::l,c,hr,h,hc=>by
  have h2:Ai x=true/\Af l=true:=by unfold Af at hr ⊢;simpa using hr
  unfold Ah at h;rw [jao,jap] at h;rcases h with h | h
  ·have hx:=(Al _).1 h2.1;by_cases h128:x<128
   ·unfold enc at h;rw [if_pos jO] at h;have hcx:c=u x.toNat:=by simpa using h
    have:c.toNat=x.toNat:=by rw [hcx,Ba jO]
    rw [jal];exact .inl jO
   ·have:=Xk (by omega:128<=x.toNat) jO c h;omega
  ·exact List.mem_cons_of_mem _ (Ad9 h2.2 h hc)
theorem Avb {r:Int} (h:Lab.Ca r=true):Ca r=true:=by
 unfold Ca;rw [h,Bool.or_true]
theorem Azd {l:List Int} (h:Lab.Gt l=false):Gt l=false:=by
 unfold Lab.Gt at h;unfold Gt;rw [List.any_eq_false] at h ⊢;intro k hk;have:=h k hk;rw [Bool.or_eq_true,not_or] at this ⊢;refine ⟨this.1,λh2=>this.2 ?_⟩;rw [jag,Bool.not_eq_true'] at h2 ⊢;refine ⟨h2.1,?_⟩;cases hc:Lab.Ca l[k]! with
 | false=>rfl
 | true=>rw [Avb hc] at h2;exact absurd h2.2 jD
theorem Auh {l:List Int} (h:Lab.Em l=0):Fold.fold l=l/\Ta l=0/\Aw6 l=(0,Ah l):=by
 have R:=Lab.Nl h;have hne:=Lab.Ax0 R;unfold Lab.Em at h;split at h
 ·exact absurd h jD
 ·split at h
  ·exact absurd h jD
  ·split at h
   ·exact absurd h jD
   ·split at h
    ·exact absurd h jD
    ·rename_i hb
     split at h
     ·exact absurd h jD
     ·rename_i hr
      have hc:Ta l=0:=by
       unfold Ta;rw [if_neg hne,Azd (by simpa using hb)];rfl
      refine ⟨R.fold,hc,?_⟩;unfold Aw6;rw [hc,if_neg jD,if_neg hr]
theorem Ap1 {bs:List UInt8} (h:Lab.Fq bs=0):A1e bs=(0,bs)/\Avc bs=0:=by
 unfold Lab.Fq at h;by_cases hz:(Aq bs).2=-1
 ·rw [if_pos hz] at h;obtain ⟨h1,h2⟩:=Auh h |>.imp_right id
  obtain ⟨-,hs⟩:=Lab.Pb hz;refine ⟨?_,?_⟩
  ·unfold A1e;rw [if_pos hz,h1,h2.2,<- hs]
  ·unfold Avc;rw [if_pos hz];exact h2.1
 ·rw [if_neg hz] at h;exact absurd h jD
def printed (c:Int):Bool:=decide (32<c) && decide (c<127)
def N5 (x:Int):Bool:=!Ctx.Cg x && (Ca x == printed x) && !Bidi.Afn (Bv x)
def Ao (bs:List UInt8):Bool:=decide (0<bs.length) && bs.all λc=>printed (c.toNat:Int)
end Prec
end
section
open Go.RowKit Utf
end
