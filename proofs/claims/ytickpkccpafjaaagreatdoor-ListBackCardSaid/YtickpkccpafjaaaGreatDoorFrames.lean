import Derived.Test.YtickpkccpafjaaaGreatDoorRows
import Derived.ProofKit
import Derived.OpenShut
import Derived.SizedLaws
import Derived.ChangeMaps5
import Derived.HandedShaped
import Derived.LaidMore
import Derived.Stop.LaidErr
import Derived.Shelf.Vars
import Derived.Deep.Strs
import Derived.LaidHandle
import Derived.Lay
import Derived.ChangeSame
import Derived.Test.YtickpkccpafjaaaGreatDoorLstA
import Derived.Deep.SlicePairs
set_option maxRecDepth 100000
namespace Go.Proofs.YtickpkccpafjaaaGreatDoor
section
open Go.ChangeShapes Go.WideShapes Go.ChangeAt Go.RowKit
theorem own:ownKnob Tryz.prog.godebug=none:=by kernel_rfl
section
variable {H:Type} {enc:TypeId × Value->H} {P:Program}
theorem Acr {f:Func} {s:ChangeSpec} {apart fresh handsOn again:Bool} {W W':World} {args:Array Value} {v:Value} {ds gs:List (DataW H)} {old pa pv:List MemPlace}
  (whole:DataW.Whole enc P f.params.toList s.vars apart W args.toList ds gs old)
  (res:∀ (b:Nat) (sp:Nat->Bool) (hd:Bool),DataW.TrodAll enc P W' b sp hd f.resultTypes.toList (v.resultList f.resultTypes.size) (s.fn H (ds ++ gs)).results [])
  (arg:∀ sp:Nat->Bool,(∀ p ∈ old,sp p.block=true)->DataW.TrodAll enc P W' 0 sp true f.params.toList args.toList (s.fn H (ds ++ gs)).args pa)
  (var:∀ sp:Nat->Bool,(∀ p ∈ old,sp p.block=true)->DataW.TrodVars enc P W' sp s.vars (s.fn H (ds ++ gs)).vars pv)
  (places:old=pa ++ pv) (calm:Below W.heap.size W W')
  (ok:∀ (j:Nat) (t:TypeId) (r:Value),f.resultTypes[j]? = some t->(v.resultList f.resultTypes.size)[j]? = some r->Value.okWide P W' .any 0 t r) :
  s.post enc P f apart fresh handsOn again W args v W':=by
 have lt:∀ p ∈ old,p.block<W.heap.size:=λp hp=>whole.lt p hp
 have seen:∀ p ∈ old,(λb=>decide (b<W.heap.size)) p.block=true:=λp hp=>decide_eq_true (lt p hp)
 have mem:∀ p,p ∈ old ↔ p ∈ pa\/p ∈ pv:=λp=>by rw [places,List.mem_append]
 refine ⟨ds,gs,old,[],pa,pv,whole,res _ _ _,arg _ seen,var _ seen,World.keptBut_mono (λp hp=>⟨hp,Or.inr ((mem p).1 hp)⟩) (calm.frame (· ∈ old)),λ_=>?_⟩
 obtain ⟨_,_,_,_,_,frozen,nodup⟩:=whole
 refine ⟨ok,_,_,([] ++ pa) ++ pv,⟨[] ++ pa,pv,trodAll_append (arg _ (λ_ _=>rfl)) (res _ _ _),var _ (λ_ _=>rfl),rfl,λb off hp=>?_,λha=>?_⟩,λp hp _=>?_⟩
 ·have hin:MemPlace.cell b off ∈ old:=by rw [places];simpa using hp
  rw [calm.frozen (lt _ hin)]
  exact frozen b off hin
 ·have:=nodup ha
  rw [places] at this
  simpa using this
 ·rw [places];simpa using hp
end
end
section
open Go.ChangeShapes Go.WideShapes Go.ChangeAt Go.RowKit
theorem Awo:laidOutB Tryz.prog=true:=by kernel_rfl
section
variable {H:Type} {enc:TypeId × Value->H}
end
end
section
open Go.RowKit
section
variable {H:Type} {enc:TypeId × Value->H}
theorem Ry {a:Assume} {C:Checked} {os:Os} {f:FuncId} {fn:Func} {s:ChangeSpec} {conds:List PathCond} {apart fresh handsOn again:Bool} {X:World->Array Value->Prop}
  (hX:∀ (w w':World) (args:Array Value),w.heap=w'.heap->X w args->X w' args)
  (own:ownKnob C.prog.godebug=none) (started:os.Started) (noInit:C.prog.inits.idxOf? f=none) (hfn:C.prog.funcs[f]? = some fn)
  (witness:∃ (w:World) (tape:Tape) (i:Input),w.os=os/\(w.forCall tape i).Shaped C.prog/\i.vars=[]/\Input.okWide C.prog (w.forCall tape i) .any w.heap.size f i /\
   ((s.pre enc C.prog fn conds apart (w.forCall tape i).memory i.args/\X (w.forCall tape i).memory i.args)/\sizedMet enc C.prog fn (OpenSpec.ofChange s) apart (w.forCall tape i).memory i.args)/\a.holds C.prog (lone (Frame.enter C.prog f i.args .normal) [] (w.forCall tape i)))
  (contract:∀ (W:World) (base:Nat) (args:Array Value) (ds gs:List (DataW H)) (before:List MemPlace),
   (∀ (j:Nat) t v,fn.params[j]? = some t->args[j]? = some v->Value.okWide C.prog W .any base t v) ->
   DataW.Whole enc C.prog fn.params.toList s.vars apart W args.toList ds gs before ->
   conds.all (PathCond.test C.prog ⟨fn.params.toList,ds,s.plain.varTypes C.prog,gs⟩)=true ->
   X W args->W.ShapedOpen C.prog ->
   a.holds C.prog (lone (Frame.enter C.prog f args .normal) [] W) ->
   Calls C.prog f args W λe W'=>∃ v,e=.returned v/\s.post enc C.prog fn apart fresh handsOn again W args v W') :
  ReturnsInHanded a C os f .any (λw args=>(s.pre enc C.prog fn conds apart w args/\X w args)/\sizedMet enc C.prog fn (OpenSpec.ofChange s) apart w args) (s.post enc C.prog fn apart fresh handsOn again):=by
 refine returnsInHanded_of_calls own started noInit witness ?_
 intro w tape i _ hsh _ hok hpre hholds
 obtain ⟨_,_,_,fn',hfn',_,_,_,_,hval⟩:=hok
 have e:fn'=fn:=Option.some.inj (hfn'.symm.trans hfn)
 subst e
 obtain ⟨⟨⟨ds,gs,before,hw,hc⟩,hx⟩,hz⟩:=hpre
 have hw':=DataW.Whole.of_heap (w':=w.forCall tape i) (by rfl) hw
 refine (contract (w.forCall tape i) w.heap.size i.args ds gs before hval hw' hc (hX _ _ _ (by rfl) hx) hsh hholds).mono λe W' ⟨v,he,hp⟩=>?_
 subst he
 exact ChangeSpec.post_blind hp
end
end
section
open Go.RowKit Go.ChangeShapes Go.ChangeMaps Go.WideShapes Go.Deep
def J9:List (String × DataW Unit):=[("unicode/utf8.acceptRanges", Rows.laid_unicode_utf8_acceptRanges),("unicode/utf8.first", Rows.laid_unicode_utf8_first)]
theorem A1d (os:Os) (args:Array Value):laidMetH Tryz.prog J9 ((World.laidAll Tryz.prog os J9).forCall (λ_ _=>0) ⟨#[],args,[]⟩).memory:=by
 rw [MakeChecks.laidMetH_plain _ _ _ (by kernel_rfl)]
 exact laidMet_laidAll _ (by kernel_rfl) (by kernel_rfl)
section
variable {H:Type} {enc:TypeId × Value->H} {w:World} {base:Nat} {sp:Nat->Bool} {held:Bool}
end
end
section
open Go.RowKit Go.ChangeShapes Go.ChangeMaps Go.WideShapes Go.Deep
section
variable {H:Type} {enc:TypeId × Value->H} {w:World} {base:Nat} {sp:Nat->Bool} {held:Bool}
theorem Abf:Tryz.prog.cellsOf 28=2/\Tryz.prog.cellsOf 9=1:=⟨by kernel_rfl,by kernel_rfl⟩
end
end
section
open Go.RowKit Go.ChangeShapes Go.ChangeMaps Go.WideShapes Go.Deep Go.ChangeAt
def Lst.Narrow (l:List Lst.Ent):Prop:=l.length<=9223372036854775807/\∀ e ∈ l,e.boxes.length<=9223372036854775807
instance:Inhabited Lst.EV:=⟨(⟨false,[],[]⟩,.slice none 0 0)⟩
section
variable {H:Type} {enc:TypeId × Value->H}
theorem A2f {W W':World} {v:Value} {d:DataW H} {ps:List MemPlace} {sp:Nat->Bool} (h:DataW.Trod enc Tryz.prog W 0 (λ_=>true) true 22 v d ps) (hb:Below W.heap.size W W')
  (hlt:∀ x ∈ ps,x.block<W.heap.size) (hsp:∀ x ∈ ps,sp x.block=true):DataW.Trod enc Tryz.prog W' 0 sp true 22 v d ps :=
 WideElems.Trod_stays Awo (by kernel_rfl) (of_decide_eq_true (by kernel_rfl)) h (λx hx=>hb.same (hlt x hx)) hsp
theorem Aa6 {W:World} {a:Addr} {v:Value} (h:W.cell? (a.add 0)=some v):∃ g o,a=⟨g,o,none⟩:=by
 obtain ⟨g,o,sp⟩:=a
 cases sp with
 | none=>exact ⟨g,o,rfl⟩
 | some k =>
  simp only [Addr.add,if_pos,World.cell?] at h
  split at h<;>simp at h
theorem Af3 (g o n:Nat):(⟨g,o,none⟩:Addr).add n=⟨g,o+n,none⟩:=by unfold Addr.add;split<;>simp_all
theorem Aqn:Tryz.prog.cellsOf 47=3/\Tryz.prog.cellsOf 4=1/\Tryz.prog.cellsOf 25=1:=⟨by kernel_rfl,by kernel_rfl,by kernel_rfl⟩
theorem Amz {W:World} {fuel:Nat} {u:Value} {x:DataW H × List MemPlace} (hf:DataW.trod enc Tryz.prog W 0 (λ_=>true) true fuel 25 [u]=some x):∃ l,Pe u l W/\l.length<=9223372036854775807:=by
 obtain ⟨c0,c1⟩:=Abf
 rcases open_slice_pairs Tryz.underlying25 Tryz.underlying28 c0 rfl rfl c1 c1 hf with ⟨hcs,-⟩ | ⟨a,len,cap,m,n,V0,V1,D0,D1,P0,P1,hcs,-,hl,hcap,hm,-,hx⟩
 ·injection hcs with hcs
  rw [hcs]
  exact ⟨[],Pe.nil _,Nat.zero_le _⟩
 ·injection hcs with hcs
  subst hcs
  simp only [if_true] at hm
  obtain ⟨f,hfn⟩:=choose_lt (α:=List UInt8 × List UInt8) (n:=m) (p:=λi q=>V0 i=.string ⟨q.1.toArray⟩/\V1 i=.string ⟨q.2.toArray⟩) λi hi=>by
   obtain ⟨-,-,t0,t1⟩:=hx i hi
   obtain ⟨s0,e0,-,-⟩:=DataW.trod_string Tryz.underlying9 t0
   obtain ⟨s1,e1,-,-⟩:=DataW.trod_string Tryz.underlying9 t1
   injection e0 with e0
   injection e1 with e1
   exact ⟨(s0.data.toList,s1.data.toList),e0,e1⟩
  refine ⟨(List.range len).map f,⟨some a,cap,by simp,by simpa using hl,λhp=>?_⟩,by rw [List.length_map,List.length_range];exact Nat.le_trans hl (Nat.le_trans hcap (by decide))⟩
  rw [List.length_map,List.length_range] at hp ⊢
  have h0:=(hx 0 (by omega)).1
  rw [Nat.zero_mul] at h0
  obtain ⟨g,o,rfl⟩:=Aa6 h0
  refine ⟨g,o,rfl,World.block_lt_of_cell? _ _ h0,λi hi=>?_⟩
  have hn:Lst.Ks ((List.range len).map f) i=f i:=by
   unfold Lst.Ks
   rw [List.getD_eq_getElem?_getD,List.getElem?_map,List.getElem?_range hi]
   rfl
  obtain ⟨k0,k1,-,-⟩:=hx i (by omega)
  obtain ⟨e0,e1⟩:=hfn i (by omega)
  rw [Af3] at k0 k1
  rw [hn]
  exact ⟨by rw [k0,e0],by rw [show o+i*2+1=o+(i*2+1) by omega,k1,e1]⟩
theorem A2g {W:World} {v:Value} {d:DataW H} {ps:List MemPlace} {r:Reach} {b0:Nat} (hval:Value.okWide Tryz.prog W r b0 22 v) (h:DataW.Trod enc Tryz.prog W 0 (λ_=>true) true 22 v d ps):∃ l,Ov v l W/\Lst.Narrow l:=by
 obtain ⟨a0,len0,cap0,rfl⟩:=okWide_slice Tryz.underlying22 hval
 obtain ⟨fuel,hf⟩:=h
 obtain ⟨c0,c1,c2⟩:=Aqn
 obtain ⟨-,c3⟩:=Abf
 rcases open_slice Tryz.underlying22 hf with ⟨hcs,-⟩ | ⟨a,len,cap,m,n,D,Pl,hcs,-,hl,hcap,hm,-,hx⟩
 ·simp [Value.cells] at hcs
  obtain ⟨rfl,rfl,rfl⟩:=hcs
  exact ⟨[],Ov.nil _,Nat.zero_le _,λ_ h=>by cases h⟩
 ·simp [Value.cells] at hcs
  obtain ⟨rfl,rfl,rfl⟩:=hcs
  simp only [if_true] at hm
  rw [c0] at hx
  obtain ⟨f,hfn⟩:=choose_lt (α:=Lst.EV) (n:=m) (p:=λi q=>W.cell? (a.add (i*3))=some (.string ⟨q.1.name.toArray⟩)/\W.cell? (a.add (i*3+1))=some (.bool q.1.grp)/\W.cell? (a.add (i*3+2))=some q.2/\Pe q.2 q.1.boxes W/\q.1.boxes.length<=9223372036854775807) λi hi=>by
   obtain ⟨cs',hc,ht⟩:=hx i hi
   obtain ⟨-,hcl,hat⟩:=World.cells?_some hc
   obtain ⟨y0,y1,y2,n',-,-,t0,t1,t2⟩:=trod_struct3 Tryz.underlying47 ht
   match cs',hcl with
   | [u0,u1,u2],_ =>
   simp [c1,c2,c3] at t0 t1 t2
   obtain ⟨s,e0,-,-⟩:=DataW.trod_string Tryz.underlying9 t0
   obtain ⟨b,e1,-⟩:=DataW.trod_bool Tryz.underlying4 t1
   obtain ⟨bs,hb⟩:=Amz t2
   injection e0 with e0
   injection e1 with e1
   have q0:=hat 0 (by omega)
   have q1:=hat 1 (by omega)
   have q2:=hat 2 (by omega)
   rw [add_add] at q0 q1 q2
   refine ⟨(⟨b,s.data.toList,bs⟩,u2),?_,?_,?_,hb⟩
   · rw [show i*3=i*3+0 by omega,q0,<- e0];rfl
   · rw [q1,<- e1];rfl
   · rw [q2];rfl
  refine ⟨(List.range len0).map λi=>(f i).1,⟨some a,cap0,by simp,by simpa using hl,λhp=>?_⟩,by rw [List.length_map,List.length_range];exact Nat.le_trans hl (Nat.le_trans hcap (by decide)),λe he=>by
   obtain ⟨i,hi,rfl⟩:=List.mem_map.1 he
   exact (hfn i (by have:=List.mem_range.1 hi;omega)).2.2.2.2⟩
  rw [List.length_map,List.length_range] at hp ⊢
  have h0:=(hfn 0 (by omega)).1
  rw [Nat.zero_mul] at h0
  obtain ⟨g,o,rfl⟩:=Aa6 h0
  refine ⟨g,o,rfl,World.block_lt_of_cell? _ _ h0,λi hi=>⟨(f i).2,?_⟩⟩
  have hn:Lst.Eu ((List.range len0).map λi=>(f i).1) i=(f i).1:=by
   unfold Lst.Eu
   rw [List.getD_eq_getElem?_getD,List.getElem?_map,List.getElem?_range hi]
   rfl
  obtain ⟨k0,k1,k2,k3⟩:=hfn i (by omega)
  rw [Af3] at k0 k1 k2
  rw [hn]
  exact ⟨k0,by rw [show o+i*3+1=o+(i*3+1) by omega];exact k1,by rw [show o+i*3+2=o+(i*3+2) by omega];exact k2,k3.1⟩
end
end
end Go.Proofs.YtickpkccpafjaaaGreatDoor
