import Derived.Test.YtppmbilonaflfaaGreatDoorMbxPl
namespace Go.Proofs.YtppmbilonaflfaaGreatDoor
open Go.RowKit Utf
theorem Ho {l:List UInt8} (h:l.length<=400):Az ⟨l.toArray⟩:=D5 (by show l.toArray.size<=_;rw [List.size_toArray];exact h)
theorem Aom {x:ByteArray} (hx:x.size<=400):Az ⟨(Mbx.Ek x.data.toList).toArray⟩:=by
 have hxl:x.data.toList.length=x.size:=by simp
 unfold Mbx.Ek
 obtain ⟨⟨E,n⟩,hn⟩:∃ p,Prec.Hs x.data.toList=p:=⟨_,rfl⟩
 rw [hn]
 simp only
 by_cases hE:E=0
 ·rw [if_pos hE]
  subst hE
  obtain ⟨L,rL,fL,rfl,hL,hc,hrd,hLe⟩:=Prec.Al8 hn
  obtain ⟨⟨m,z⟩,hm⟩:∃ p,Aq x.data.toList=p:=⟨_,rfl⟩
  have hz:z=-1:=by rw [hm] at hrd;exact hrd
  subst hz
  rw [hm] at hLe
  have hLl:L.length<=420:=by rw [hLe];exact ((Av6 hx) m hm).2
  have d3:=Lab.Xy L
  have f0:(Fold.fold (ints m)).map Fold.fo=Fold.fold (ints m):=Fold.Q8 (Fold.Ko _)
  have f1:L.map Fold.fo=L:=by rw [hLe];exact f0
  exact Alz rL (by omega) (by rw [f1];omega) (by rw [fL];exact hLl)
 ·rw [if_neg hE]
  exact Ho (by omega)
theorem An1 {y:ByteArray} (hy:y.size<=400):Az ⟨(Mbx.Fl y.data.toList).toArray⟩:=by
 have hyl:y.data.toList.length=y.size:=by simp
 unfold Mbx.Fl
 by_cases hb:Mbx.Bq y.data.toList=true
 ·rw [if_pos hb]
  exact Ho (by rw [List.length_map];omega)
 ·rw [if_neg hb]
  have hb':Mbx.Bq y.data.toList=false:=by simpa using hb
  obtain ⟨⟨E,a,u⟩,hd⟩:∃ p,Dom.Bt y.data.toList=p:=⟨_,rfl⟩
  rw [hd]
  simp only
  by_cases hE:E=0
  ·rw [if_pos hE]
   subst hE
   obtain ⟨-,-,-,-,-,h6,-⟩:=Mbx.Qz hb' hd
   exact Ho (by omega)
  ·rw [if_neg hE]
   exact Ho (by omega)
theorem Mbx.T0 {s x y x' y':List UInt8} {ts:List Lex.Tok} {n:Nat} (hl:Lex.Ij s=(0,0,ts)) (ht:Mbx.take (ts.map Lex.Hl)=some (x',y',n)) (hp:Mbx.Eh s=(0,x,y)):y'=y:=by
 unfold Mbx.Eh Mbx.O0 at hp
 rw [hl,if_neg (by simp)] at hp
 simp only at hp
 rw [ht] at hp
 simp only at hp
 by_cases hn:n=ts.length
 ·rw [if_pos hn] at hp
  by_cases hr:Mbx.Bo x' y'=0
  ·rw [if_pos hr] at hp
   injection hp with _ h
   injection h
  ·rw [if_neg hr] at hp
   injection hp with h _
   exact absurd h hr
 ·rw [if_neg hn] at hp
  injection hp with h _
  cases h
theorem Ao0 {y:ByteArray} (h:Mbx.Bq y.data.toList=true):∃ h0:0<y.size,(y[0].toNat:Int)=91:=by
 obtain ⟨t,ht⟩:=Mbx.Abt h
 have hl:y.data.toList.length=y.size:=by simp
 have h0:0<y.size:=by rw [<- hl,ht];simp
 refine ⟨h0,?_⟩
 have hq:y.data.toList[0]'(by omega)=y[0]:=by simp;rfl
 rw [<- hq]
 simp only [ht]
 rfl
end Go.Proofs.YtppmbilonaflfaaGreatDoor
