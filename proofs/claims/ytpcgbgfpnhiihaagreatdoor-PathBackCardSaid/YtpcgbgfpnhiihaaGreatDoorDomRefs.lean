import Derived.Test.YtpcgbgfpnhiihaaGreatDoorCtxEnd
import Derived.Test.YtpcgbgfpnhiihaaGreatDoorBidiAll
import Derived.Test.YtpcgbgfpnhiihaaGreatDoorDomMid
namespace Go.Proofs.YtpcgbgfpnhiihaaGreatDoor
section
open Go.RowKit Utf
end
section
open Go.RowKit Utf
end
section
open Go.RowKit Utf
end
section
open Go.RowKit Utf
end
section
open Go.RowKit Utf
def Ik (p:Int × List (List Int)) (w:World) (e:Ending) (w':World):Prop :=
 ∃ v,e=.returned (.tuple #[v,.int .i64 p.1])/\Ah9 v (p.2.map Ah) w'/\Below w.heap.size w w'
theorem Pb {E:Int} {w w':World} (hb:Below w.heap.size w w'):Ik (E,[]) w (.returned (.tuple #[.slice none 0 0,.int .i64 E])) w':=⟨_,rfl,Ah9.nil _,hb⟩
end
section
open Go.RowKit Utf
namespace Dom
theorem Ac4 {bs:List UInt8} (hm:∀ m,As bs=(m,-1)->(Fold.fold (ints m)).length<=420):(Db bs).2.length<=32/\∀ p ∈ (Db bs).2,Af p=true/\p.length<=420/\Fold.fold p=p:=by
 unfold Db
 by_cases hz:(As bs).2=-1
 ·rw [if_pos hz]
  have h1:=hm (As bs).1 (by rw [<- hz])
  have h2:=D8 (Lab.Mw hz).1
  have hp:=Xm (ints (As bs).1)
  generalize Fold.fold (ints (As bs).1)=L at h1 h2 hp
  split
  ·exact ⟨by decide,λp hp=>by cases hp⟩
  ·split
   · exact ⟨by decide,λp hp=>by cases hp⟩
   · exact ⟨by show (cut L).length<=32;omega,λp hq=>⟨Nt h2 p hq,Nat.le_trans (Al3 L p hq) h1,hp p hq⟩⟩
 ·rw [if_neg hz]
  exact ⟨by decide,λp hp=>by cases hp⟩
theorem Aok {p:List Int} (hr:Af p=true) (h:D5 p=0):(Bh p).length<=63/\(Dq p).length<=252:=by
 have hb:Lab.Ej (Fold.fold p)=(0,Bh p,Dq p):=by
  rw [<- Lab.Ia hr,<- h]
  rfl
 obtain ⟨U,hu,-,-,-,-,-,-,-,l1,l2,-,-⟩:=Lab.clean (D8 hr) (Fold.Nv p) hb
 have:=Fh U
 rw [hu]
 omega
theorem Atv {ps:List (List Int)} {k:Nat} (hk:k<ps.length) (h:∀ j,j<k->D5 ps[j]! = 0) (he:D5 ps[k]! ≠ 0):Fj ps=(D5 ps[k]!,[],[]):=by
 unfold Fj
 rw [Qr (λp=>D5 p != 0) ps k hk (λj hj=>by rw [h j hj];rfl) (bne_iff_ne.2 he)]
theorem Awn {ps:List (List Int)} (h:∀ j,j<ps.length->D5 ps[j]! = 0):Fj ps=if 253<(Cw (ps.map Bh)).length then (5,[],[]) else (0,Cw (ps.map Bh),Cw (ps.map Dq)):=by
 unfold Fj
 rw [Sh (λp=>D5 p != 0) ps (λj hj=>by rw [h j hj];rfl)]
theorem Aqz {ps:List (List Int)} {k:Nat} (hk:k<ps.length) (f:List Int->List UInt8):(ps.take (k+1)).map f=(ps.take k).map f ++ [f ps[k]!]:=by
 rw [List.take_add_one,List.getElem?_eq_getElem hk,getElem!_pos ps k hk,List.map_append]
 rfl
end Dom
end
section
open Go.RowKit Utf
namespace Dom
end Dom
end
end Go.Proofs.YtpcgbgfpnhiihaaGreatDoor
