import Derived.Test.YtpcgbgfpnhiihabGreatDoorCtxEnd
import Derived.Test.YtpcgbgfpnhiihabGreatDoorBidiAll
import Derived.Test.YtpcgbgfpnhiihabGreatDoorDomMid
namespace Go.Proofs.YtpcgbgfpnhiihabGreatDoor
section
open Go.RowKit Utf
end
section
open Go.RowKit Utf
end
section
open Go.RowKit Utf
end
section
open Go.RowKit Utf
end
section
open Go.RowKit Utf
def Ik (p:Int × List (List Int)) (w:World) (e:Ending) (w':World):Prop :=
 ∃ v,e=.returned (.tuple #[v,.int .i64 p.1])/\Aig v (p.2.map Ag) w'/\Below w.heap.size w w'
theorem Pc {E:Int} {w w':World} (hb:Below w.heap.size w w'):Ik (E,[]) w (.returned (.tuple #[.slice none 0 0,.int .i64 E])) w':=⟨_,rfl,Aig.nil _,hb⟩
end
section
open Go.RowKit Utf
namespace Dom
theorem Ada {bs:List UInt8} (hm:∀ m,Au bs=(m,-1)->(Fold.fold (ints m)).length<=420):(Dg bs).2.length<=32/\∀ p ∈ (Dg bs).2,Ae p=true/\p.length<=420/\Fold.fold p=p:=by
 unfold Dg;by_cases hz:(Au bs).2=-1
 ·rw [if_pos hz];have h1:=hm (Au bs).1 (by rw [<- hz]);have h2:=Dr (Lab.Mw hz).1;have hp:=Xo (ints (Au bs).1);generalize Fold.fold (ints (Au bs).1)=L at h1 h2 hp;split
  ·exact ⟨by decide,λp hp=>by cases hp⟩
  ·split
   · exact ⟨by decide,λp hp=>by cases hp⟩
   · exact ⟨by show (cut L).length<=32;omega,λp hq=>⟨Nu h2 p hq,Nat.le_trans (Amc L p hq) h1,hp p hq⟩⟩
 ·rw [if_neg hz];exact ⟨by decide,λp hp=>by cases hp⟩
theorem Aos {p:List Int} (hr:Ae p=true) (h:Db p=0):(Ap p).length<=63/\(Ci p).length<=252:=by
 have hb:Lab.Ef (Fold.fold p)=(0,Ap p,Ci p):=by
  rw [<- Lab.E9 hr,<- h];rfl
 obtain ⟨U,hu,-,-,-,-,-,-,-,l1,l2,-,-⟩:=Lab.clean (Dr hr) (Fold.J6 p) hb;have:=Fo U;rw [hu];omega
theorem At6 {ps:List (List Int)} {k:Nat} (hk:k<ps.length) (h:∀ j,j<k->Db ps[j]! = 0) (he:Db ps[k]! ≠ 0):Fq ps=(Db ps[k]!,[],[]):=by
 unfold Fq;rw [Qs (λp=>Db p != 0) ps k hk (λj hj=>by rw [h j hj];rfl) (bne_iff_ne.2 he)]
theorem Aw0 {ps:List (List Int)} (h:∀ j,j<ps.length->Db ps[j]! = 0):Fq ps=if 253<(Cq (ps.map Ap)).length then (5,[],[]) else (0,Cq (ps.map Ap),Cq (ps.map Ci)):=by
 unfold Fq;rw [Sh (λp=>Db p != 0) ps (λj hj=>by rw [h j hj];rfl)]
theorem Aq9 {ps:List (List Int)} {k:Nat} (hk:k<ps.length) (f:List Int->List UInt8):(ps.take (k+1)).map f=(ps.take k).map f ++ [f ps[k]!]:=by
 rw [List.take_add_one,List.getElem?_eq_getElem hk,getElem!_pos ps k hk,List.map_append];rfl
end Dom
end
section
open Go.RowKit Utf
namespace Dom
end Dom
end
