import Derived.Test.YthnhgmdlbfbhjaaGreatRows
import Derived.ProofKit
import Derived.OpenShut
import Derived.Test.YthnhgmdlbfbhjaaGreatUtfRow
import Derived.SizedLaws
import Derived.ChangeMaps5
set_option maxRecDepth 100000
namespace Go.Proofs.YthnhgmdlbfbhjaaGreat
section
open Go.ChangeShapes Go.WideShapes Go.ChangeAt Go.RowKit
theorem own:ownKnob Tryz.prog.godebug=none:=by kernel_rfl
section
variable {H:Type} {enc:TypeId × Value->H} {P:Program}
theorem J0 {f:Func} {s:ChangeSpec} {apart fresh handsOn again:Bool} {W W':World} {args:Array Value} {v:Value} {ds gs:List (DataW H)} {old pa pv:List MemPlace}
  (whole:DataW.Whole enc P f.params.toList s.vars apart W args.toList ds gs old)
  (res:∀ (b:Nat) (sp:Nat->Bool) (hd:Bool),DataW.TrodAll enc P W' b sp hd f.resultTypes.toList (v.resultList f.resultTypes.size) (s.fn H (ds ++ gs)).results [])
  (arg:∀ sp:Nat->Bool,(∀ p ∈ old,sp p.block=true)->DataW.TrodAll enc P W' 0 sp true f.params.toList args.toList (s.fn H (ds ++ gs)).args pa)
  (var:∀ sp:Nat->Bool,(∀ p ∈ old,sp p.block=true)->DataW.TrodVars enc P W' sp s.vars (s.fn H (ds ++ gs)).vars pv)
  (places:old=pa ++ pv) (calm:Below W.heap.size W W')
  (ok:∀ (j:Nat) (t:TypeId) (r:Value),f.resultTypes[j]? = some t->(v.resultList f.resultTypes.size)[j]? = some r->Value.okWide P W' .any 0 t r) :
  s.post enc P f apart fresh handsOn again W args v W':=by
 have lt:∀ p ∈ old,p.block<W.heap.size:=λp hp=>whole.lt p hp
 have seen:∀ p ∈ old,(λb=>decide (b<W.heap.size)) p.block=true:=λp hp=>decide_eq_true (lt p hp)
 have mem:∀ p,p ∈ old ↔ p ∈ pa\/p ∈ pv:=λp=>by rw [places,List.mem_append]
 refine ⟨ds,gs,old,[],pa,pv,whole,res _ _ _,arg _ seen,var _ seen,World.keptBut_mono (λp hp=>⟨hp,Or.inr ((mem p).1 hp)⟩) (calm.frame (· ∈ old)),λ_=>?_⟩
 obtain ⟨_,_,_,_,_,frozen,nodup⟩:=whole
 refine ⟨ok,_,_,([] ++ pa) ++ pv,⟨[] ++ pa,pv,trodAll_append (arg _ (λ_ _=>rfl)) (res _ _ _),var _ (λ_ _=>rfl),rfl,λb off hp=>?_,λha=>?_⟩,λp hp _=>?_⟩
 ·have hin:MemPlace.cell b off ∈ old:=by rw [places];simpa using hp
  rw [calm.frozen (lt _ hin)]
  exact frozen b off hin
 ·have:=nodup ha
  rw [places] at this
  simpa using this
 ·rw [places];simpa using hp
end
end
section
open Go.ChangeShapes Go.WideShapes Go.ChangeAt Go.RowKit
theorem Alv:laidOutB Tryz.prog=true:=by kernel_rfl
theorem Ahi:Tryz.prog.cellsOf 21=1:=by kernel_rfl
theorem Asg {n:Int} (h:(Lit.int .u8 n).wf=true):0<=n/\n<=255:=by
 simp only [Lit.wf,Bool.and_eq_true,decide_eq_true_eq] at h
 exact h
theorem As9 {n:Int} (h:(Lit.int .i64 n).wf=true):n<=9223372036854775807:=by
 simp only [Lit.wf,Bool.and_eq_true,decide_eq_true_eq] at h
 exact h.2
section
variable {H:Type} {enc:TypeId × Value->H}
theorem Aq3 {W W':World} {v:Value} {d:DataW H} {ps:List MemPlace} {sp:Nat->Bool} (h:DataW.Trod enc Tryz.prog W 0 (λ_=>true) true 56 v d ps) (hb:Below W.heap.size W W')
  (hlt:∀ x ∈ ps,x.block<W.heap.size) (hsp:∀ x ∈ ps,sp x.block=true):DataW.Trod enc Tryz.prog W' 0 sp true 56 v d ps :=
 WideElems.Trod_stays Alv (by kernel_rfl) (of_decide_eq_true (by kernel_rfl)) h (λx hx=>hb.same (hlt x hx)) hsp
theorem Aqf {W:World} {v:Value} {d:DataW H} {ps:List MemPlace} {r:Reach} {b0:Nat} (hval:Value.okWide Tryz.prog W r b0 56 v) (h:DataW.Trod enc Tryz.prog W 0 (λ_=>true) true 56 v d ps):∃ l,Runes v l W:=by
 obtain ⟨a0,len,cap,rfl⟩:=okWide_slice Tryz.underlying56 hval
 obtain ⟨fuel,hf⟩:=h
 rcases open_ints Tryz.underlying56 Tryz.underlying21 Ahi hf with ⟨hcs,-⟩ | ⟨a,len',cap',zs,hcs,-,hl,-,hz,-,hcell,-⟩
 ·simp [Value.cells] at hcs
  obtain ⟨rfl,rfl,rfl⟩:=hcs
  exact ⟨[],none,0,rfl,Nat.le_refl _,λ_=>rfl,λhp=>absurd hp (by simp)⟩
 ·simp [Value.cells] at hcs
  obtain ⟨rfl,rfl,rfl⟩:=hcs
  simp only [if_true] at hz
  have hll:((zs.take len).map Ca).length=len:=by rw [List.length_map,List.length_take];omega
  refine ⟨zs.take len,some a,cap,by rw [hll],by rw [hll];exact hl,λh=>(by cases h),λhp=>⟨a,rfl,?_,λj u hu=>?_⟩⟩
  ·have h0:=World.block_lt_of_cell? _ _ (hcell 0 (by omega))
   rw [Ah] at h0
   exact h0
  ·have hj:j<((zs.take len).map Ca).length:=(List.getElem?_eq_some_iff.1 hu).1
   have hjz:j<zs.length:=by omega
   rw [hcell j hjz,<- hu,List.getElem?_map,List.getElem?_take,if_pos (by omega),List.getElem?_eq_getElem hjz,show zs.getD j 0=zs[j] by simp [List.getElem?_eq_getElem hjz]]
   rfl
end
end
end Go.Proofs.YthnhgmdlbfbhjaaGreat
