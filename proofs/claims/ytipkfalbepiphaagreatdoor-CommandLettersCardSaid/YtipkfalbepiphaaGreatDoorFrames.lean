import Derived.Test.YtipkfalbepiphaaGreatDoorRows
import Derived.ProofKit
import Derived.OpenShut
import Derived.HandedShaped
import Derived.LaidMore
import Derived.Stop.LaidErr
import Derived.Shelf.Vars
import Derived.Deep.Strs
import Derived.LaidHandle
import Derived.Lay
import Derived.ChangeSame
import Derived.Test.YtipkfalbepiphaaGreatDoorCmdA
import Derived.Lib.LaidU8T
set_option maxRecDepth 100000
set_option maxHeartbeats 1000000
namespace Go.Proofs.YtipkfalbepiphaaGreatDoor
section
open Go.ChangeShapes Go.WideShapes Go.ChangeAt Go.RowKit
theorem own:ownKnob Tryz.prog.godebug=none:=by kernel_rfl
section
variable {H:Type} {enc:TypeId × Value->H} {P:Program}
theorem U6 {f:Func} {s:ChangeSpec} {apart fresh handsOn again:Bool} {W W':World} {args:Array Value} {v:Value} {ds gs:List (DataW H)} {old pa pv:List MemPlace}
  (whole:DataW.Whole enc P f.params.toList s.vars apart W args.toList ds gs old)
  (res:∀ (b:Nat) (sp:Nat->Bool) (hd:Bool),DataW.TrodAll enc P W' b sp hd f.resultTypes.toList (v.resultList f.resultTypes.size) (s.fn H (ds ++ gs)).results [])
  (arg:∀ sp:Nat->Bool,(∀ p ∈ old,sp p.block=true)->DataW.TrodAll enc P W' 0 sp true f.params.toList args.toList (s.fn H (ds ++ gs)).args pa)
  (var:∀ sp:Nat->Bool,(∀ p ∈ old,sp p.block=true)->DataW.TrodVars enc P W' sp s.vars (s.fn H (ds ++ gs)).vars pv)
  (places:old=pa ++ pv) (calm:Below W.heap.size W W')
  (ok:∀ (j:Nat) (t:TypeId) (r:Value),f.resultTypes[j]? = some t->(v.resultList f.resultTypes.size)[j]? = some r->Value.okWide P W' .any 0 t r) :
  s.post enc P f apart fresh handsOn again W args v W':=by
 have lt:∀ p ∈ old,p.block<W.heap.size:=λp hp=>whole.lt p hp
 have seen:∀ p ∈ old,(λb=>decide (b<W.heap.size)) p.block=true:=λp hp=>decide_eq_true (lt p hp)
 have mem:∀ p,p ∈ old ↔ p ∈ pa\/p ∈ pv:=λp=>by rw [places,List.mem_append]
 refine ⟨ds,gs,old,[],pa,pv,whole,res _ _ _,arg _ seen,var _ seen,World.keptBut_mono (λp hp=>⟨hp,Or.inr ((mem p).1 hp)⟩) (calm.frame (· ∈ old)),λ_=>?_⟩
 obtain ⟨_,_,_,_,_,frozen,nodup⟩:=whole
 refine ⟨ok,_,_,([] ++ pa) ++ pv,⟨[] ++ pa,pv,trodAll_append (arg _ (λ_ _=>rfl)) (res _ _ _),var _ (λ_ _=>rfl),rfl,λb off hp=>?_,λha=>?_⟩,λp hp _=>?_⟩
 ·have hin:MemPlace.cell b off ∈ old:=by rw [places];simpa using hp
  rw [calm.frozen (lt _ hin)]
  exact frozen b off hin
 ·have:=nodup ha
  rw [places] at this
  simpa using this
 ·rw [places];simpa using hp
end
end
section
open Go.RowKit
section
variable {H:Type} {enc:TypeId × Value->H}
theorem Mz {a:Assume} {C:Checked} {os:Os} {f:FuncId} {fn:Func} {s:ChangeSpec} {conds:List PathCond} {apart fresh handsOn again:Bool} {X:World->Array Value->Prop}
  (hX:∀ (w w':World) (args:Array Value),w.heap=w'.heap->X w args->X w' args)
  (own:ownKnob C.prog.godebug=none) (started:os.Started) (noInit:C.prog.inits.idxOf? f=none) (hfn:C.prog.funcs[f]? = some fn)
  (witness:∃ (w:World) (tape:Tape) (i:Input),w.os=os/\(w.forCall tape i).Shaped C.prog/\i.vars=[]/\Input.okWide C.prog (w.forCall tape i) .any w.heap.size f i /\
   ((s.pre enc C.prog fn conds apart (w.forCall tape i).memory i.args/\X (w.forCall tape i).memory i.args)/\sizedMet enc C.prog fn (OpenSpec.ofChange s) apart (w.forCall tape i).memory i.args)/\a.holds C.prog (lone (Frame.enter C.prog f i.args .normal) [] (w.forCall tape i)))
  (contract:∀ (W:World) (base:Nat) (args:Array Value) (ds gs:List (DataW H)) (before:List MemPlace),
   (∀ (j:Nat) t v,fn.params[j]? = some t->args[j]? = some v->Value.okWide C.prog W .any base t v) ->
   DataW.Whole enc C.prog fn.params.toList s.vars apart W args.toList ds gs before ->
   conds.all (PathCond.test C.prog ⟨fn.params.toList,ds,s.plain.varTypes C.prog,gs⟩)=true ->
   X W args->W.ShapedOpen C.prog ->
   a.holds C.prog (lone (Frame.enter C.prog f args .normal) [] W) ->
   Calls C.prog f args W λe W'=>∃ v,e=.returned v/\s.post enc C.prog fn apart fresh handsOn again W args v W') :
  ReturnsInHanded a C os f .any (λw args=>(s.pre enc C.prog fn conds apart w args/\X w args)/\sizedMet enc C.prog fn (OpenSpec.ofChange s) apart w args) (s.post enc C.prog fn apart fresh handsOn again):=by
 refine returnsInHanded_of_calls own started noInit witness ?_
 intro w tape i _ hsh _ hok hpre hholds
 obtain ⟨_,_,_,fn',hfn',_,_,_,_,hval⟩:=hok
 have e:fn'=fn:=Option.some.inj (hfn'.symm.trans hfn)
 subst e
 obtain ⟨⟨⟨ds,gs,before,hw,hc⟩,hx⟩,hz⟩:=hpre
 have hw':=DataW.Whole.of_heap (w':=w.forCall tape i) (by rfl) hw
 refine (contract (w.forCall tape i) w.heap.size i.args ds gs before hval hw' hc (hX _ _ _ (by rfl) hx) hsh hholds).mono λe W' ⟨v,he,hp⟩=>?_
 subst he
 exact ChangeSpec.post_blind hp
end
end
section
open Go.RowKit Go.ChangeShapes Go.ChangeMaps Go.WideShapes Go.Deep
section
variable {H:Type} {enc:TypeId × Value->H} {w:World} {base:Nat} {sp:Nat->Bool} {held:Bool}
end
end
section
open Go.RowKit Go.ChangeShapes Go.ChangeMaps Go.WideShapes Go.Deep
section
variable {H:Type} {enc:TypeId × Value->H} {w:World} {base:Nat} {sp:Nat->Bool} {held:Bool}
end
end
section
open Go.RowKit Go.ChangeShapes Go.ChangeMaps Go.WideShapes Go.Deep
section
variable {H:Type} {enc:TypeId × Value->H} {w:World} {base:Nat} {sp:Nat->Bool} {held:Bool}
end
end
section
open Go.RowKit Go.ChangeShapes Go.ChangeMaps Go.WideShapes Go.Deep
def F7:List (String × DataW Unit):=[("math/bits.deBruijn32tab", Rows.laid_math_bits_deBruijn32tab),("math/bits.deBruijn64tab", Rows.laid_math_bits_deBruijn64tab),("internal/strconv.uint64pow10", Rows.laid_internal_strconv_uint64pow10),("unicode/utf8.acceptRanges", Rows.laid_unicode_utf8_acceptRanges),("strconv.ErrRange", Rows.laid_strconv_ErrRange),("strconv.ErrSyntax", Rows.laid_strconv_ErrSyntax),("pillarbox/command.words", Rows.laid_pillarbox_command_words),("unicode.CaseRanges", Rows.laid_unicode_CaseRanges),("unicode/utf8.first", Rows.laid_unicode_utf8_first)]
theorem Amb:Tryz.prog.globalNamed "pillarbox/command.words" = some 0/\(Tryz.prog.globals[0]?).map (·.type)=some 64/\Tryz.prog.cellsOf 9=1:=⟨by kernel_rfl,by kernel_rfl,by kernel_rfl⟩
theorem Aqm:(Rows.laid_pillarbox_command_words:DataW Unit)=.agg (Cmd.F6.map λl=>.lit (.string l)):=rfl
theorem Aqn {W:World} (h:Lib.VarReads Tryz.prog W "pillarbox/command.words" Rows.laid_pillarbox_command_words) (i:Nat) (hi:i<8):W.cell? ⟨0,i,none⟩=some (.string ⟨(Cmd.F6[i]'hi).toArray⟩):=by
 obtain ⟨g',t',cs,fuel,p,hg,ht,hv,hd⟩:=h
 obtain ⟨n1,n2,n3⟩:=Amb
 obtain rfl:=Option.some.inj (n1.symm.trans hg)
 obtain rfl:=Option.some.inj (n2.symm.trans ht)
 rw [World.var?_cell n1 hv i]
 obtain ⟨xs,m,-,hx,hl,hn,hf⟩:=DataW.trod_array Tryz.underlying64 hd
 rw [Aqm] at hx
 have hx1:=congrArg Prod.fst hx
 injection hx1 with hx1
 have hfi:=hf i hi
 rw [n3,Nat.mul_one] at hfi
 have hxi:(xs.map (·.1))[i]? = some (.lit (.string (Cmd.F6[i]'hi))):=by
  rw [<- hx1,List.getElem?_map,List.getElem?_eq_getElem hi];rfl
 rw [List.getElem?_map] at hxi
 obtain ⟨y,hy,hy1⟩:=Option.map_eq_some_iff.1 hxi
 rw [hy] at hfi
 obtain ⟨s,e1,e2,-⟩:=DataW.trod_string Tryz.underlying9 hfi
 rw [e2] at hy1
 injection hy1 with hy1
 injection hy1 with hy1
 have h0:(cs.toList.drop i)[0]? = some (.string s):=by
  have h1:=congrArg (λl=>l[0]?) e1
  simp only [List.getElem?_cons_zero] at h1
  rwa [List.getElem?_take_of_lt (by decide)] at h1
 rw [List.getElem?_drop,Nat.add_zero,Array.getElem?_toList] at h0
 rw [h0,<- hy1]
theorem Kp {W:World} (h:laidMetH Tryz.prog F7 W) (hsh:W.ShapedOpen Tryz.prog):Ha W:=by
 rw [MakeChecks.laidMetH_plain _ _ _ (by kernel_rfl)] at h
 refine ⟨⟨Lib.tabIs_of_head Alw (t:=177) (e:=145) (n:=20) (by kernel_rfl) Tryz.underlying177 Tryz.underlying145 (by kernel_rfl) (by kernel_rfl) (laidMet.tail (laidMet.tail h)),?_⟩,?_⟩
 · exact cell_of_shapedOpen_int (P:=Tryz.prog) (g:=3) (t:=3) (zero:=#[.int .i64 0]) hsh (of_decide_eq_true (by kernel_rfl)) (by kernel_rfl) rfl (by kernel_rfl) (by kernel_rfl) Tryz.underlying3
 · exact Aqn (Lib.laidMet.reads h (.tail _ (.tail _ (.tail _ (.tail _ (.tail _ (.tail _ (.head _))))))))
theorem Az1 (os:Os) (args:Array Value):laidMetH Tryz.prog F7 ((World.laidAll Tryz.prog os F7).forCall (λ_ _=>0) ⟨#[],args,[]⟩).memory:=by
 rw [MakeChecks.laidMetH_plain _ _ _ (by kernel_rfl)]
 exact laidMet_laidAll _ (by kernel_rfl) (by kernel_rfl)
section
variable {H:Type} {enc:TypeId × Value->H} {w:World} {base:Nat} {sp:Nat->Bool} {held:Bool}
theorem Ahd {P:Program} {t:TypeId} {f0 f1 f2 f3 f4 f5:Field} {fuel:Nat} {cs:List Value} {x:DataW H × List MemPlace} (ht:P.underlying t=some (.struct #[f0,f1,f2,f3,f4,f5])) (h:DataW.trod enc P w base sp held fuel t cs=some x) :
  ∃
   y0 y1 y2 y3 y4 y5 n,x=(.agg [y0.1,y1.1,y2.1,y3.1,y4.1,y5.1],y0.2 ++ (y1.2 ++ (y2.2 ++ (y3.2 ++ (y4.2 ++ y5.2)))))/\cs.length=P.cellsOf t/\DataW.trod enc P w base sp held n f0.type ((cs.drop f0.offset).take (P.cellsOf f0.type))=some y0 /\
   DataW.trod enc P w base sp held n f1.type ((cs.drop f1.offset).take (P.cellsOf f1.type))=some y1/\DataW.trod enc P w base sp held n f2.type ((cs.drop f2.offset).take (P.cellsOf f2.type))=some y2 /\
   DataW.trod enc P w base sp held n f3.type ((cs.drop f3.offset).take (P.cellsOf f3.type))=some y3/\DataW.trod enc P w base sp held n f4.type ((cs.drop f4.offset).take (P.cellsOf f4.type))=some y4 /\
   DataW.trod enc P w base sp held n f5.type ((cs.drop f5.offset).take (P.cellsOf f5.type))=some y5:=by
 obtain ⟨xs,n,_,rfl,hl,hlen,hf⟩:=DataW.trod_struct ht h
 match xs,hlen with
 | [y0,y1,y2,y3,y4,y5],_=>exact ⟨y0,y1,y2,y3,y4,y5,n,by simp,hl,by simpa using hf 0 f0 rfl,by simpa using hf 1 f1 rfl,by simpa using hf 2 f2 rfl,by simpa using hf 3 f3 rfl,by simpa using hf 4 f4 rfl,by simpa using hf 5 f5 rfl⟩
abbrev A6r (v:Int) (nm:ByteArray) (k:Bool) (x y:ByteArray) (z:Int) (e d:Bool):DataW H:=.agg [.lit (.int .i64 v),.lit (.string nm.data.toList),.agg [.lit (.bool k),.agg [.lit (.string x.data.toList),.lit (.string y.data.toList)]],.lit (.int .i64 z),.lit (.bool e),.lit (.bool d)]
theorem Acl:Tryz.prog.cellsOf 27=8/\Tryz.prog.cellsOf 25=3/\Tryz.prog.cellsOf 23=2/\Tryz.prog.cellsOf 3=1/\Tryz.prog.cellsOf 4=1/\Tryz.prog.cellsOf 9=1:=⟨by kernel_rfl,by kernel_rfl,by kernel_rfl,by kernel_rfl,by kernel_rfl,by kernel_rfl⟩
theorem Asc {n:Int} (h:(Lit.int .i64 n).wf=true):-9223372036854775808<=n/\n<=9223372036854775807:=by
 simp only [Lit.wf,Bool.and_eq_true,decide_eq_true_eq] at h
 exact h
theorem A0m {r:Reach} {b0:Nat} {u:Value} {q:DataW H} {ps:List MemPlace} (hval:Value.okWide Tryz.prog w r b0 27 u) (hd:DataW.Trod enc Tryz.prog w base sp held 27 u q ps) :
  ∃
   (v:Int) (nm:ByteArray) (k:Bool) (x y:ByteArray) (z:Int) (e d:Bool),u=.agg #[.int .i64 v,.string nm,.bool k,.string x,.string y,.int .i64 z,.bool e,.bool d]/\q=A6r v nm k x y z e d/\ps=[] /\
   (Lit.int .i64 v).wf=true/\(Lit.int .i64 z).wf=true/\nm.size<=maxLen/\x.size<=maxLen/\y.size<=maxLen:=by
 obtain ⟨c8,c3,c2,ci,cb,cs1⟩:=Acl
 obtain ⟨cs,rfl,hsz⟩:=okWide_struct Tryz.underlying27 hval
 obtain ⟨fuel,hf⟩:=hd
 obtain ⟨y0,y1,y2,y3,y4,y5,n,hx,hl,t0,t1,t2,t3,t4,t5⟩:=Ahd Tryz.underlying27 hf
 rw [c8] at hsz
 obtain ⟨l⟩:=cs
 match l,hsz with
 | [u0,u1,u2,u3,u4,u5,u6,u7],_ =>
 simp [Value.cells,c3,ci,cb,cs1] at t0 t1 t2 t3 t4 t5
 obtain ⟨v,e0,rfl,wv⟩:=DataW.trod_int Tryz.underlying3 t0
 obtain ⟨nm,e1,rfl,wn⟩:=DataW.trod_string Tryz.underlying9 t1
 obtain ⟨z0,z1,m,hx2,hl2,s0,s1⟩:=trod_struct2 Tryz.underlying25 t2
 simp [cb,c2] at s0 s1
 obtain ⟨k,e2,rfl⟩:=DataW.trod_bool Tryz.underlying4 s0
 obtain ⟨r0,r1,m2,hx3,hl3,q0,q1⟩:=trod_struct2 Tryz.underlying23 s1
 simp [cs1] at q0 q1
 obtain ⟨x,e3,rfl,wx⟩:=DataW.trod_string Tryz.underlying9 q0
 obtain ⟨y,e4,rfl,wy⟩:=DataW.trod_string Tryz.underlying9 q1
 obtain ⟨z,e5,rfl,wz⟩:=DataW.trod_int Tryz.underlying3 t3
 obtain ⟨e,e6,rfl⟩:=DataW.trod_bool Tryz.underlying4 t4
 obtain ⟨d,e7,rfl⟩:=DataW.trod_bool Tryz.underlying4 t5
 simp at e0 e1 e2 e3 e4 e5 e6 e7
 subst e0 e1 e2 e3 e4 e5 e6 e7
 subst hx3
 subst hx2
 simp only [Prod.mk.injEq] at hx
 exact ⟨v,nm,k,x,y,z,e,d,rfl,hx.1,hx.2,wv,wz,wn,wx,wy⟩
theorem A1m {v:Int} {nm:ByteArray} {k:Bool} {x y:ByteArray} {z:Int} {e d:Bool} (wv:(Lit.int .i64 v).wf=true) (wz:(Lit.int .i64 z).wf=true) (wn:nm.size<=maxLen) (wx:x.size<=maxLen) (wy:y.size<=maxLen) :
  DataW.Trod enc Tryz.prog w base sp held 27 (.agg #[.int .i64 v,.string nm,.bool k,.string x,.string y,.int .i64 z,.bool e,.bool d]) (A6r v nm k x y z e d) []:=by
 obtain ⟨c8,c3,c2,ci,cb,cs1⟩:=Acl
 refine ⟨4,?_⟩
 have h2:=trod_struct2_mk (enc:=enc) (w:=w) (base:=base) (spare:=sp) (held:=held) (n:=1) (cs:=[.string x,.string y]) (y0:=(.lit (.string x.data.toList),[])) (y1:=(.lit (.string y.data.toList),[])) Tryz.underlying23 (by rw [c2];rfl)
  (by simp [DataW.trod,cs1,Tryz.underlying9,wx]) (by simp [DataW.trod,cs1,Tryz.underlying9,wy])
 have h3:=trod_struct2_mk (enc:=enc) (w:=w) (base:=base) (spare:=sp) (held:=held) (n:=2) (cs:=[.bool k,.string x,.string y]) (y0:=(.lit (.bool k),[])) (y1:=(.agg [.lit (.string x.data.toList),.lit (.string y.data.toList)],[])) Tryz.underlying25 (by rw [c3];rfl)
  (by simp [DataW.trod,cb,Tryz.underlying4]) (by simpa [c2] using h2)
 have h:=trod_struct_mk (enc:=enc) (w:=w) (base:=base) (spare:=sp) (held:=held) (n:=3) (cs:=[.int .i64 v,.string nm,.bool k,.string x,.string y,.int .i64 z,.bool e,.bool d])
  (xs:=[(.lit (.int .i64 v),[]),(.lit (.string nm.data.toList),[]),(.agg [.lit (.bool k),.agg [.lit (.string x.data.toList),.lit (.string y.data.toList)]],[]),(.lit (.int .i64 z),[]),(.lit (.bool e),[]),(.lit (.bool d),[])]) Tryz.underlying27 (by rw [c8];rfl) (by
   have t0:DataW.trod enc Tryz.prog w base sp held 3 3 [.int .i64 v]=some (.lit (.int .i64 v),[]):=by simp [DataW.trod,Tryz.underlying3,wv]
   have t1:DataW.trod enc Tryz.prog w base sp held 3 9 [.string nm]=some (.lit (.string nm.data.toList),[]):=by simp [DataW.trod,Tryz.underlying9,wn]
   have t3:DataW.trod enc Tryz.prog w base sp held 3 3 [.int .i64 z]=some (.lit (.int .i64 z),[]):=by simp [DataW.trod,Tryz.underlying3,wz]
   have t4:DataW.trod enc Tryz.prog w base sp held 3 4 [.bool e]=some (.lit (.bool e),[]):=by simp [DataW.trod,Tryz.underlying4]
   have t5:DataW.trod enc Tryz.prog w base sp held 3 4 [.bool d]=some (.lit (.bool d),[]):=by simp [DataW.trod,Tryz.underlying4]
   simp [c3,ci,cb,cs1,t0,t1,t3,t4,t5,h3])
 simpa [Value.cells] using h
end
end
end Go.Proofs.YtipkfalbepiphaaGreatDoor
