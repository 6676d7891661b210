import Derived.Test.YtickpkccpafjaaaGreatDoorCtxEnd
import Derived.Test.YtickpkccpafjaaaGreatDoorBidiAll
import Derived.Test.YtickpkccpafjaaaGreatDoorDomMid
namespace Go.Proofs.YtickpkccpafjaaaGreatDoor
section
open Go.RowKit Utf
end
section
open Go.RowKit Utf
def A2h (l:List Int) (k:Nat):Prop:=∀ i,i<k->¬ (Ctx.Yi l (i:Nat)=2\/(Ctx.Yi l (i:Nat)=0/\Lab.Ca l[i]! = false))
end
section
open Go.RowKit Utf
end
section
open Go.RowKit Utf
end
section
open Go.RowKit Utf
def Jb (p:Int × List (List Int)) (w:World) (e:Ending) (w':World):Prop :=
 ∃ v,e=.returned (.tuple #[v,.int .i64 p.1])/\Aab v (p.2.map Ah) w'/\Below w.heap.size w w'
theorem Pw {E:Int} {w w':World} (hb:Below w.heap.size w w'):Jb (E,[]) w (.returned (.tuple #[.slice none 0 0,.int .i64 E])) w':=⟨_,rfl,Aab.nil _,hb⟩
end
section
open Go.RowKit Utf
namespace Dom
theorem Aet {bs:List UInt8} (hm:∀ m,Aq bs=(m,-1)->(Fold.fold (ints m)).length<=420):(Df bs).2.length<=32/\∀ p ∈ (Df bs).2,Af p=true/\p.length<=420/\Fold.fold p=p:=by
 unfold Df;by_cases hz:(Aq bs).2=-1
 ·rw [if_pos hz];have h1:=hm (Aq bs).1 (by rw [<- hz]);have h2:=Ds (Lab.Pb hz).1;have hp:=Yx (ints (Aq bs).1);generalize Fold.fold (ints (Aq bs).1)=L at h1 h2 hp;split
  ·exact ⟨by decide,λp hp=>by cases hp⟩
  ·split
   · exact ⟨by decide,λp hp=>by cases hp⟩
   · exact ⟨by show (cut L).length<=32;omega,λp hq=>⟨N9 h2 p hq,Nat.le_trans (Aov L p hq) h1,hp p hq⟩⟩
 ·rw [if_neg hz];exact ⟨by decide,λp hp=>by cases hp⟩
theorem Arv {p:List Int} (hr:Af p=true) (h:Db p=0):(Ap p).length<=63/\(Cj p).length<=252:=by
 have hb:Lab.D9 (Fold.fold p)=(0,Ap p,Cj p):=by
  rw [<- Lab.Fa hr,<- h];rfl
 obtain ⟨U,hu,-,-,-,-,-,-,-,l1,l2,-,-⟩:=Lab.clean (Ds hr) (Fold.I6 p) hb;have:=Gh U;rw [hu];omega
theorem Axe {ps:List (List Int)} {k:Nat} (hk:k<ps.length) (h:∀ j,j<k->Db ps[j]! = 0) (he:Db ps[k]! ≠ 0):Fp ps=(Db ps[k]!,[],[]):=by
 unfold Fp;rw [Rc (λp=>Db p != 0) ps k hk (λj hj=>by rw [h j hj];rfl) (bne_iff_ne.2 he)]
theorem A0k {ps:List (List Int)} (h:∀ j,j<ps.length->Db ps[j]! = 0):Fp ps=if 253<(Cp (ps.map Ap)).length then (5,[],[]) else (0,Cp (ps.map Ap),Cp (ps.map Cj)):=by
 unfold Fp;rw [Th (λp=>Db p != 0) ps (λj hj=>by rw [h j hj];rfl)]
theorem At7 {ps:List (List Int)} {k:Nat} (hk:k<ps.length) (f:List Int->List UInt8):(ps.take (k+1)).map f=(ps.take k).map f ++ [f ps[k]!]:=by
 rw [List.take_add_one,List.getElem?_eq_getElem hk,getElem!_pos ps k hk,List.map_append];rfl
end Dom
end
section
open Go.RowKit Utf
namespace Dom
end Dom
end
