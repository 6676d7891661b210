import Derived.Test.YtppmbilonaflfaaGreatDoorCtxEnd
import Derived.Test.YtppmbilonaflfaaGreatDoorBidiAll
import Derived.Test.YtppmbilonaflfaaGreatDoorDomMid
namespace Go.Proofs.YtppmbilonaflfaaGreatDoor
section
open Go.RowKit Utf
end
section
open Go.RowKit Utf
end
section
open Go.RowKit Utf
end
section
open Go.RowKit Utf
end
section
open Go.RowKit Utf
def Iv (p:Int × List (List Int)) (w:World) (e:Ending) (w':World):Prop :=
 ∃ v,e=.returned (.tuple #[v,.int .i64 p.1])/\Aih v (p.2.map Ah) w'/\Below w.heap.size w w'
theorem On {E:Int} {w w':World} (hb:Below w.heap.size w w'):Iv (E,[]) w (.returned (.tuple #[.slice none 0 0,.int .i64 E])) w':=⟨_,rfl,Aih.nil _,hb⟩
end
section
open Go.RowKit Utf
namespace Dom
theorem Acg {bs:List UInt8} (hm:∀ m,Aq bs=(m,-1)->(Fold.fold (ints m)).length<=420):(Dj bs).2.length<=32/\∀ p ∈ (Dj bs).2,Ag p=true/\p.length<=420/\Fold.fold p=p:=by
 unfold Dj
 by_cases hz:(Aq bs).2=-1
 ·rw [if_pos hz]
  have h1:=hm (Aq bs).1 (by rw [<- hz])
  have h2:=Dg (Lab.Lr hz).1
  have hp:=Wn (ints (Aq bs).1)
  generalize Fold.fold (ints (Aq bs).1)=L at h1 h2 hp
  split
  ·exact ⟨by decide,λp hp=>by cases hp⟩
  ·split
   · exact ⟨by decide,λp hp=>by cases hp⟩
   · exact ⟨by show (cut L).length<=32;omega,λp hq=>⟨Nz h2 p hq,Nat.le_trans (Ama L p hq) h1,hp p hq⟩⟩
 ·rw [if_neg hz]
  exact ⟨by decide,λp hp=>by cases hp⟩
theorem Amy {p:List Int} (hr:Ag p=true) (h:Dh p=0):(As p).length<=63/\(Ck p).length<=252:=by
 have hb:Lab.Ej (Fold.fold p)=(0,As p,Ck p):=by
  rw [<- Lab.Fc hr,<- h]
  rfl
 obtain ⟨U,hu,-,-,-,-,-,-,-,l1,l2,-,-⟩:=Lab.clean (Dg hr) (Fold.Il p) hb
 have:=Fm U
 rw [hu]
 omega
theorem Asm {ps:List (List Int)} {k:Nat} (hk:k<ps.length) (h:∀ j,j<k->Dh ps[j]! = 0) (he:Dh ps[k]! ≠ 0):Fw ps=(Dh ps[k]!,[],[]):=by
 unfold Fw
 rw [Pr (λp=>Dh p != 0) ps k hk (λj hj=>by rw [h j hj];rfl) (bne_iff_ne.2 he)]
theorem Avb {ps:List (List Int)} (h:∀ j,j<ps.length->Dh ps[j]! = 0):Fw ps=if 253<(Cq (ps.map As)).length then (5,[],[]) else (0,Cq (ps.map As),Cq (ps.map Ck)):=by
 unfold Fw
 rw [Ry (λp=>Dh p != 0) ps (λj hj=>by rw [h j hj];rfl)]
theorem Ap0 {ps:List (List Int)} {k:Nat} (hk:k<ps.length) (f:List Int->List UInt8):(ps.take (k+1)).map f=(ps.take k).map f ++ [f ps[k]!]:=by
 rw [List.take_add_one,List.getElem?_eq_getElem hk,getElem!_pos ps k hk,List.map_append]
 rfl
end Dom
end
section
open Go.RowKit Utf
namespace Dom
end Dom
end
end Go.Proofs.YtppmbilonaflfaaGreatDoor
