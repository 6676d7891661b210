import Derived.Test.YtipkfalbepiphaaGreatDoorCtxEnd
import Derived.Test.YtipkfalbepiphaaGreatDoorBidiAll
import Derived.Test.YtipkfalbepiphaaGreatDoorDomMid
namespace Go.Proofs.YtipkfalbepiphaaGreatDoor
section
open Go.RowKit Utf
end
section
open Go.RowKit Utf
def Aa9 (l:List Int) (k:Nat):Prop:=∀ i,i<k->¬ (Ctx.Zh l (i:Nat)=2\/(Ctx.Zh l (i:Nat)=0/\Lab.Cg l[i]! = false))
end
section
open Go.RowKit Utf
end
section
open Go.RowKit Utf
end
section
open Go.RowKit Utf
def Jl (p:Int × List (List Int)) (w:World) (e:Ending) (w':World):Prop :=
 ∃ v,e=.returned (.tuple #[v,.int .i64 p.1])/\Amj v (p.2.map Ah) w'/\Below w.heap.size w w'
theorem Qv {E:Int} {w w':World} (hb:Below w.heap.size w w'):Jl (E,[]) w (.returned (.tuple #[.slice none 0 0,.int .i64 E])) w':=⟨_,rfl,Amj.nil _,hb⟩
end
section
open Go.RowKit Utf
namespace Dom
theorem Af3 {bs:List UInt8} (hm:∀ m,Au bs=(m,-1)->(Fold.fold (ints m)).length<=520):(Cz bs).2.length<=32/\∀ p ∈ (Cz bs).2,Ae p=true/\p.length<=520/\Fold.fold p=p:=by
 unfold Cz;by_cases hz:(Au bs).2=-1
 ·rw [if_pos hz];have h1:=hm (Au bs).1 (by rw [<- hz]);have h2:=El (Lab.Sx hz).1;have hp:=Zw (ints (Au bs).1);generalize Fold.fold (ints (Au bs).1)=L at h1 h2 hp;split
  ·exact ⟨by decide,λp hp=>by cases hp⟩
  ·split
   · exact ⟨by decide,λp hp=>by cases hp⟩
   · exact ⟨by show (cut L).length<=32;omega,λp hq=>⟨Ox h2 p hq,Nat.le_trans (Aq4 L p hq) h1,hp p hq⟩⟩
 ·rw [if_neg hz];exact ⟨by decide,λp hp=>by cases hp⟩
theorem At0 {p:List Int} (hr:Ae p=true) (h:Dp p=0):(Aq p).length<=63/\(Cs p).length<=252:=by
 have hb:Lab.Eo (Fold.fold p)=(0,Aq p,Cs p):=by
  rw [<- Lab.Fm hr,<- h];rfl
 obtain ⟨U,hu,-,-,-,-,-,-,-,l1,l2,-,-⟩:=Lab.clean (El hr) (Fold.Le p) hb;have:=Gr U;rw [hu];omega
theorem A0j {ps:List (List Int)} {k:Nat} (hk:k<ps.length) (h:∀ j,j<k->Dp ps[j]! = 0) (he:Dp ps[k]! ≠ 0):Fy ps=(Dp ps[k]!,[],[]):=by
 unfold Fy;rw [R9 (λp=>Dp p != 0) ps k hk (λj hj=>by rw [h j hj];rfl) (bne_iff_ne.2 he)]
theorem A36 {ps:List (List Int)} (h:∀ j,j<ps.length->Dp ps[j]! = 0):Fy ps=if 253<(Cy (ps.map Aq)).length then (5,[],[]) else (0,Cy (ps.map Aq),Cy (ps.map Cs)):=by
 unfold Fy;rw [Ug (λp=>Dp p != 0) ps (λj hj=>by rw [h j hj];rfl)]
theorem Awv {ps:List (List Int)} {k:Nat} (hk:k<ps.length) (f:List Int->List UInt8):(ps.take (k+1)).map f=(ps.take k).map f ++ [f ps[k]!]:=by
 rw [List.take_add_one,List.getElem?_eq_getElem hk,getElem!_pos ps k hk,List.map_append];rfl
end Dom
end
section
open Go.RowKit Utf
namespace Dom
end Dom
end
