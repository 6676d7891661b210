import Derived.Test.YtpcgbgfpnhiihabGreatDoorRows
import Derived.WalkKit
import Derived.ProofKit
import Derived.OpenShut
import Derived.HandedShaped
import Derived.LaidMore
import Derived.Stop.LaidErr
import Derived.Shelf.Vars
import Derived.Deep.Strs
import Derived.LaidHandle
import Derived.Lay
import Derived.ChangeSame
set_option maxRecDepth 100000
namespace Go.Proofs.YtpcgbgfpnhiihabGreatDoor
section
open Go.ChangeShapes Go.WideShapes Go.ChangeAt Go.RowKit
theorem own:ownKnob Tryz.prog.godebug=none:=by kernel_rfl
section
variable {H:Type} {enc:TypeId × Value->H} {P:Program}
theorem Apx {f:Func} {s:ChangeSpec} {apart fresh handsOn again:Bool} {W W':World} {args:Array Value} {v:Value} {ds gs:List (DataW H)} {old pa pv:List MemPlace}
  (whole:DataW.Whole enc P f.params.toList s.vars apart W args.toList ds gs old)
  (res:∀ (b:Nat) (sp:Nat->Bool) (hd:Bool),DataW.TrodAll enc P W' b sp hd f.resultTypes.toList (v.resultList f.resultTypes.size) (s.fn H (ds ++ gs)).results [])
  (arg:∀ sp:Nat->Bool,(∀ p ∈ old,sp p.block=true)->DataW.TrodAll enc P W' 0 sp true f.params.toList args.toList (s.fn H (ds ++ gs)).args pa)
  (var:∀ sp:Nat->Bool,(∀ p ∈ old,sp p.block=true)->DataW.TrodVars enc P W' sp s.vars (s.fn H (ds ++ gs)).vars pv)
  (places:old=pa ++ pv) (calm:Below W.heap.size W W')
  (ok:∀ (j:Nat) (t:TypeId) (r:Value),f.resultTypes[j]? = some t->(v.resultList f.resultTypes.size)[j]? = some r->Value.okWide P W' .any 0 t r) :
  s.post enc P f apart fresh handsOn again W args v W':=by
 have lt:∀ p ∈ old,p.block<W.heap.size:=λp hp=>whole.lt p hp
 have seen:∀ p ∈ old,(λb=>decide (b<W.heap.size)) p.block=true:=λp hp=>decide_eq_true (lt p hp)
 have mem:∀ p,p ∈ old ↔ p ∈ pa\/p ∈ pv:=λp=>by rw [places,List.mem_append]
 refine ⟨ds,gs,old,[],pa,pv,whole,res _ _ _,arg _ seen,var _ seen,World.keptBut_mono (λp hp=>⟨hp,Or.inr ((mem p).1 hp)⟩) (calm.frame (· ∈ old)),λ_=>?_⟩
 obtain ⟨_,_,_,_,_,frozen,nodup⟩:=whole
 refine ⟨ok,_,_,([] ++ pa) ++ pv,⟨[] ++ pa,pv,trodAll_append (arg _ (λ_ _=>rfl)) (res _ _ _),var _ (λ_ _=>rfl),rfl,λb off hp=>?_,λha=>?_⟩,λp hp _=>?_⟩
 ·have hin:MemPlace.cell b off ∈ old:=by rw [places];simpa using hp
  rw [calm.frozen (lt _ hin)]
  exact frozen b off hin
 ·have:=nodup ha
  rw [places] at this
  simpa using this
 ·rw [places];simpa using hp
end
end
section
open Go.RowKit
section
variable {H:Type} {enc:TypeId × Value->H}
theorem Adt {a:Assume} {C:Checked} {os:Os} {f:FuncId} {fn:Func} {s:ChangeSpec} {conds:List PathCond} {apart fresh handsOn again:Bool} {X:World->Array Value->Prop}
  (hX:∀ (w w':World) (args:Array Value),w.heap=w'.heap->X w args->X w' args)
  (own:ownKnob C.prog.godebug=none) (started:os.Started) (noInit:C.prog.inits.idxOf? f=none) (hfn:C.prog.funcs[f]? = some fn)
  (witness:∃ (w:World) (tape:Tape) (i:Input),w.os=os/\(w.forCall tape i).Shaped C.prog/\i.vars=[]/\Input.okWide C.prog (w.forCall tape i) .any w.heap.size f i /\
   ((s.pre enc C.prog fn conds apart (w.forCall tape i).memory i.args/\X (w.forCall tape i).memory i.args)/\sizedMet enc C.prog fn (OpenSpec.ofChange s) apart (w.forCall tape i).memory i.args)/\a.holds C.prog (lone (Frame.enter C.prog f i.args .normal) [] (w.forCall tape i)))
  (contract:∀ (W:World) (base:Nat) (args:Array Value) (ds gs:List (DataW H)) (before:List MemPlace),
   (∀ (j:Nat) t v,fn.params[j]? = some t->args[j]? = some v->Value.okWide C.prog W .any base t v) ->
   DataW.Whole enc C.prog fn.params.toList s.vars apart W args.toList ds gs before ->
   conds.all (PathCond.test C.prog ⟨fn.params.toList,ds,s.plain.varTypes C.prog,gs⟩)=true ->
   X W args->W.ShapedOpen C.prog ->
   a.holds C.prog (lone (Frame.enter C.prog f args .normal) [] W) ->
   Calls C.prog f args W λe W'=>∃ v,e=.returned v/\s.post enc C.prog fn apart fresh handsOn again W args v W') :
  ReturnsInHanded a C os f .any (λw args=>(s.pre enc C.prog fn conds apart w args/\X w args)/\sizedMet enc C.prog fn (OpenSpec.ofChange s) apart w args) (s.post enc C.prog fn apart fresh handsOn again):=by
 refine returnsInHanded_of_calls own started noInit witness ?_
 intro w tape i _ hsh _ hok hpre hholds
 obtain ⟨_,_,_,fn',hfn',_,_,_,_,hval⟩:=hok
 have e:fn'=fn:=Option.some.inj (hfn'.symm.trans hfn)
 subst e
 obtain ⟨⟨⟨ds,gs,before,hw,hc⟩,hx⟩,hz⟩:=hpre
 have hw':=DataW.Whole.of_heap (w':=w.forCall tape i) (by rfl) hw
 refine (contract (w.forCall tape i) w.heap.size i.args ds gs before hval hw' hc (hX _ _ _ (by rfl) hx) hsh hholds).mono λe W' ⟨v,he,hp⟩=>?_
 subst he
 exact ChangeSpec.post_blind hp
end
end
section
open Go.RowKit Go.ChangeShapes Go.ChangeMaps Go.WideShapes Go.Deep
def Sr:List (String × DataW Unit):=[("unicode/utf8.acceptRanges", Rows.laid_unicode_utf8_acceptRanges),("unicode/utf8.first", Rows.laid_unicode_utf8_first)]
theorem Aza (os:Os) (args:Array Value):laidMetH Tryz.prog Sr ((World.laidAll Tryz.prog os Sr).forCall (λ_ _=>0) ⟨#[],args,[]⟩).memory:=by
 rw [MakeChecks.laidMetH_plain _ _ _ (by kernel_rfl)]
 exact laidMet_laidAll _ (by kernel_rfl) (by kernel_rfl)
section
variable {H:Type} {enc:TypeId × Value->H} {w:World} {base:Nat} {sp:Nat->Bool} {held:Bool}
end
end
section
open Go.RowKit Go.ChangeShapes Go.ChangeMaps Go.WideShapes Go.Deep
section
variable {H:Type} {enc:TypeId × Value->H} {w:World} {base:Nat} {sp:Nat->Bool} {held:Bool}
theorem Z4:Tryz.prog.cellsOf 23=2/\Tryz.prog.cellsOf 9=1:=⟨by kernel_rfl,by kernel_rfl⟩
end
end
section
open Go.RowKit Go.ChangeShapes Go.ChangeMaps Go.WideShapes Go.Deep
section
variable {H:Type} {enc:TypeId × Value->H} {w:World} {base:Nat} {sp:Nat->Bool} {held:Bool}
abbrev Ax3 (n:Bool) (x y:ByteArray):DataW H:=.agg [.lit (.bool n),.agg [.lit (.string x.data.toList),.lit (.string y.data.toList)]]
theorem V8:Tryz.prog.cellsOf 25=3/\Tryz.prog.cellsOf 4=1:=⟨by kernel_rfl,by kernel_rfl⟩
theorem Apk {r:Reach} {b0:Nat} {v:Value} {d:DataW H} {ps:List MemPlace} (hval:Value.okWide Tryz.prog w r b0 25 v) (hd:DataW.Trod enc Tryz.prog w base sp held 25 v d ps) :
  ∃ (n:Bool) (x y:ByteArray),v=.agg #[.bool n,.string x,.string y]/\d=Ax3 n x y/\ps=[]/\x.size<=maxLen/\y.size<=maxLen:=by
 obtain ⟨p0,p1⟩:=V8
 obtain ⟨c0,c1⟩:=Z4
 obtain ⟨cs,rfl,hsz⟩:=okWide_struct Tryz.underlying25 hval
 obtain ⟨fuel,hf⟩:=hd
 obtain ⟨y0,y1,n,hx,hl,t0,t1⟩:=trod_struct2 Tryz.underlying25 hf
 rw [p0] at hsz
 obtain ⟨l⟩:=cs
 match l,hsz with
 | [u0,u1,u2],_ =>
 simp [Value.cells,p1,c0] at t0 t1
 obtain ⟨b,e0,rfl⟩:=DataW.trod_bool Tryz.underlying4 t0
 obtain ⟨z0,z1,m,hx2,hl2,s0,s1⟩:=trod_struct2 Tryz.underlying23 t1
 simp [c1] at s0 s1
 obtain ⟨x,e1,rfl,wx⟩:=DataW.trod_string Tryz.underlying9 s0
 obtain ⟨y,e2,rfl,wy⟩:=DataW.trod_string Tryz.underlying9 s1
 simp at e0 e1 e2
 subst e0 e1 e2
 subst hx2
 simp only [Prod.mk.injEq] at hx
 exact ⟨b,x,y,rfl,hx.1,hx.2,wx,wy⟩
theorem Aqv {n:Bool} {x y:ByteArray} (wx:x.size<=maxLen) (wy:y.size<=maxLen):DataW.Trod enc Tryz.prog w base sp held 25 (.agg #[.bool n,.string x,.string y]) (Ax3 n x y) []:=by
 obtain ⟨p0,p1⟩:=V8
 obtain ⟨c0,c1⟩:=Z4
 refine ⟨3,?_⟩
 have h2:=trod_struct2_mk (enc:=enc) (w:=w) (base:=base) (spare:=sp) (held:=held) (n:=1) (cs:=[.string x,.string y]) (y0:=(.lit (.string x.data.toList),[])) (y1:=(.lit (.string y.data.toList),[])) Tryz.underlying23 (by rw [c0];rfl)
  (by simp [DataW.trod,c1,Tryz.underlying9,wx]) (by simp [DataW.trod,c1,Tryz.underlying9,wy])
 have h:=trod_struct2_mk (enc:=enc) (w:=w) (base:=base) (spare:=sp) (held:=held) (n:=2) (cs:=[.bool n,.string x,.string y]) (y0:=(.lit (.bool n),[])) (y1:=(.agg [.lit (.string x.data.toList),.lit (.string y.data.toList)],[])) Tryz.underlying25 (by rw [p0];rfl)
  (by simp [DataW.trod,p1,Tryz.underlying4]) (by simpa [c0] using h2)
 simpa [Value.cells] using h
end
end
end Go.Proofs.YtpcgbgfpnhiihabGreatDoor
