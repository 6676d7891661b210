import Derived.RangeFuncKeeps
import Derived.Lib.OthersKept
import Derived.Test.YtipkfalbepiphaaGreatDoorRep
set_option maxRecDepth 100000
set_option maxHeartbeats 4000000
namespace Go.Proofs.YtipkfalbepiphaaGreatDoor
open Tryz
open Go.RowKit Utf Go.Shelf
attribute [local go_sem] Oper.semAt_some
namespace Lex
def Gq (d:UInt8):List UInt8->List (List UInt8)
 | []=>[[]]
 | c::t=>if c=d then []::Gq d t else match Gq d t with
  | []=>[[c]]
  | h::r=>(c::h)::r
theorem Yc:∀ l,Gq 46 l=I8 l
 | []=>rfl
 | c::t=>by
  rw [Gq,I8,Yc t];by_cases h:c=46
  ·rw [if_pos h,if_pos (by rw [h];rfl)]
  ·rw [if_neg h,if_neg (show ¬ c.toNat=46 from λe=>h (UInt8.toNat_inj.1 e))];cases I8 t<;>rfl
theorem Acn (d:UInt8):∀ l:List UInt8,Lib.indexByte l d=-1->Gq d l=[l]
 | [],_=>rfl
 | b::l,h=>by
  rw [show Lib.indexByte (b::l) d=if b == d then 0 else if Lib.indexByte l d == -1 then -1 else Lib.indexByte l d+1 from rfl] at h;have hge:=Lib.indexByte_ge l d;by_cases hb:b=d
  ·rw [if_pos (by simpa using hb)] at h;cases h
  ·rw [if_neg (by simpa using hb)] at h;have hl:Lib.indexByte l d=-1:=by
    by_cases h2:Lib.indexByte l d=-1
    · exact h2
    · rw [if_neg (by simpa using h2)] at h;omega
   rw [Gq,if_neg hb,Acn d l hl]
theorem Aco (d:UInt8):∀ (l:List UInt8) (i:Nat),Lib.indexByte l d=(i:Int)->i<l.length/\Gq d l=l.take i::Gq d (l.drop (i+1))
 | [],i,h=>by
  rw [show Lib.indexByte [] d=-1 from rfl] at h;omega
 | b::l,i,h=>by
  rw [show Lib.indexByte (b::l) d=if b == d then 0 else if Lib.indexByte l d == -1 then -1 else Lib.indexByte l d+1 from rfl] at h;by_cases hb:b=d
  ·rw [if_pos (by simpa using hb)] at h;obtain rfl:i=0:=jO
   refine ⟨by simp,?_⟩;rw [Gq,if_pos hb];rfl
  ·rw [if_neg (by simpa using hb)] at h;by_cases h2:Lib.indexByte l d=-1
   ·rw [if_pos (by simpa using h2)] at h;omega
   ·rw [if_neg (by simpa using h2)] at h;obtain ⟨j,rfl⟩:∃ j,i=j+1:=⟨i - 1,by have:=Lib.indexByte_ge l d;omega⟩
    obtain ⟨h3,h4⟩:=Aco d l j jO;refine ⟨by rw [jac];omega,?_⟩;rw [Gq,if_neg hb,h4,List.take_succ_cons,List.drop_succ_cons]
theorem Vx (d:UInt8) (l:List UInt8):Lib.indexByte l d=-1\/∃ i:Nat,Lib.indexByte l d=(i:Int):=by
 have:=Lib.indexByte_ge l d;by_cases h:Lib.indexByte l d=-1
 · exact .inl h
 · exact .inr ⟨(Lib.indexByte l d).toNat,by omega⟩
end Lex
theorem Py (d:UInt8) (s t:ByteArray) (ht:t=⟨#[d]⟩) (w:World):Calls prog 139 #[.string s,.string t] w λe w'=>e=.returned (.int .i64 (Lib.indexByte s.data.toList d))/\w=w':=by
 have hz:t.size=1:=by rw [ht];rfl
 have h0:t[0]=d:=by subst ht;rfl
 have K:=jH (Kh s d w);cases hst:(t.toList == s.toList)
 ·clear ht;go_enter func139,ntmps139;go_wp2_with fail;refine K.out.mono ?_;rintro e w1 ⟨rfl,rfl⟩;go_wp2;go_ret;exact ⟨rfl,rfl⟩
 ·have E:=jH (show Lib.indexByte s.data.toList d=0 by
   have:t.toList=s.toList:=by simpa using hst
   rw [ByteArray.toList_eq,ByteArray.toList_eq] at this;rw [<- this,ht];exact if_pos (beq_self_eq_true d))
  clear ht;go_enter func139,ntmps139;go_wp2;go_ret;exact ⟨by rw [E.out];rfl,rfl⟩
theorem Abf (d:UInt8) (s t:ByteArray) (ht:t=⟨#[d]⟩) (w:World):Calls prog 113 #[.string s,.string t] w λe w'=>e=.returned (.int .i64 (Lib.indexByte s.data.toList d))/\w=w':=by
 have K:=jH (Py d s t ht w);clear ht;go_enter func113,ntmps113;go_wp2_with fail;refine K.out.mono ?_;rintro e w1 ⟨rfl,rfl⟩;go_wp2;go_ret;exact ⟨rfl,rfl⟩
def Ka (N:Nat) (J:List (List UInt8)->World->Prop):Prop:=∀ s V v,J s V->J s (V.setCell ⟨N,0,none⟩ v)
def F0 (N:Nat) (V V':World):Prop:=∀ j,j<3->V'.heap[N+j]? = V.heap[N+j]?
def Ame (F:Fence) (n:Nat) (P:Program) (gf N:Nat) (lb:Array Value) (enc:List UInt8->Array Value) (L:List (List UInt8)) (St:World->Prop):Prop :=
 ∀
  (l:Nat) (J Jx:List (List UInt8)->World->Prop) (W:World),St W->Ka N J->Ka N Jx ->
  (∀ pre x W1,J pre W1->pre ++ [x] <+: L->YieldAt F (n - 1) P l (enc x) W1 λe W'=>(e=.returned (.bool true)/\J (pre ++ [x]) W'/\F0 N W1 W')\/(e=.returned (.bool false)/\Jx (pre ++ [x]) W')) ->
  J [] W->CallsIn F n P gf (#[.func (.yield l) #[] #[]] ++ lb) W λe W'=>(∃ v,e=.returned v)/\(J L W'\/(∃ pre,pre <+: L/\Jx pre W'))
theorem Hs {N l:Nat} {o:Obj} (h:l ≠ N) (V:World) (v:Value) (hl:V.heap[l]? = some o):(V.setCell ⟨N,0,none⟩ v).heap[l]? = some o:=(Below.heap_setCell _ _ _ _ h).trans hl
theorem Vz {N l:Nat} (h:N+2<l) (V:World) (o:Obj):F0 N V (V.putObj l o):=λj hj=>World.putObj_heap_other jO
theorem F0.trans {N:Nat} {A B C:World} (h:F0 N A B) (k:F0 N B C):F0 N A C:=λj hj=>(k j hj).trans (h j hj)
theorem V7 {F:Fence} {n:Nat} {P:Program} {g:Operand} {ps:Array Tmp} {assign body:Code} {Q:Exit->Act->World->Prop} {a:Act} {w:World} (N:Nat) (hN:N+2<w.heap.size)
  (hro:F.round=none) (h1:1<=n) {gf:Nat} {lb:Array Value} (hg:a.eval g=.func (.func gf) #[] lb) (hFg:F.fn gf) (eg:∀ args w,(callFunc gf args).run P w=.ok (.enter gf args) w)
  {enc:List UInt8->Array Value} {L:List (List UInt8)} {St:World->Prop} (hseq:Ame F (n - 1) P gf N lb enc L St) (hst:∀ o1 o2,St ((w.alloc o1).alloc o2)) (hps:∀ x,(enc x).size=ps.size)
  (I Ix:List (List UInt8)->World->Prop) (hI:OwnFrom w.heap.size I) (hIx:OwnFrom w.heap.size Ix) (bI:Ka N I) (bIx:Ka N Ix) (h0:I [] w) (a₁:List UInt8->Act)
  (hassign:∀ (l:Nat) (x:List UInt8) (W:World) (K:Act->World->Prop),K (a₁ x) W->assign.wpIn (F.inRound l) (n - 1 - 1) P (Exit.then K (λ_ _ _=>False)) { tmps:=(ps.zip (enc x)).foldl (λt (p,v)=>t.setIfInBounds p v) a.tmps,defers:=[] } W)
  (hbody:∀ (l:Nat) (pre:List (List UInt8)) (x:List UInt8) (W:World),I pre W->pre ++ [x] <+: L->body.wpIn (F.inRound l) (n - 1 - 1) P (ownPostK (F0 N) I (λc pre W=>c=.ret/\Ix pre W) (pre ++ [x]) W) (a₁ x) W)
  (hdone:∀ (D:Nat) (W:World),I L W->W.heap[D]? = some (.deferred (some []))->w.heap.size<=D->Q .normal { a with defers:={ target:=.collected D,args:=#[] }::a.defers } W)
  (hstop:∀ (D:Nat) (pre:List (List UInt8)) (W:World),pre <+: L->Ix pre W->W.heap[D]? = some (.deferred (some []))->w.heap.size<=D->Code.ret.wpIn F n P Q { a with defers:={ target:=.collected D,args:=#[] }::a.defers } W) :
  (Code.rangeFunc g ps assign body).wpIn F n P Q a w:=by
 refine wpIn_rangeFunc λfn hfn=>?_;rw [hro];obtain ⟨D,hD⟩:∃ D,D=w.heap.size:=⟨_,rfl⟩
 obtain ⟨lp,hlp⟩:∃ lp:LoopState->Option Code->Loop,lp=λst pe=>{ state:=st,pending:=pe,fn,tmps:=a.tmps,params:=ps,assign,body,defers:=D }:=⟨_,rfl⟩
 obtain ⟨W1,hW1⟩:∃ W1,W1=(w.alloc (.deferred (some []))).alloc (.loop (lp .ready none)):=⟨_,rfl⟩
 have hl1:W1.heap[D+1]? = some (.loop (lp .ready none)):=by
  rw [hW1,hD];have:=World.alloc_heap_new (w.alloc (.deferred (some []))) (.loop (lp .ready none));rwa [World.size_alloc] at this
 have hd1:W1.heap[D]? = some (.deferred (some [])):=by rw [hW1,hD];exact (Below.heap_alloc _ _ _ jS).trans (World.alloc_heap_new w _)
 have hi1:I [] W1:=by rw [hW1];exact hI.alloc _ (hI.alloc _ h0)
 refine ⟨D+1,[{ target:=.collected D,args:=#[] }],W1,{ target:=.fn (.func gf) lb,args:=#[.func (.yield (D+1)) #[] #[]] },W1,gf,#[.func (.yield (D+1)) #[] #[]] ++ lb,W1,?_,?_,?_,?_,λ_=>h1,?_⟩
 ·rw [hW1,hlp,hD];exact run_enterLoop_outer _ _ _ _ _
 ·simp only [resolve,hg];simp [go_sem]
 ·intro f' hf';simp [Target.leads] at hf';subst hf';exact hFg
 ·simp [invoke,go_sem,eg]
 have hp:N+2<D:=jO
 refine (hseq (D+1) (λpre W=>I pre W/\W.heap[D+1]? = some (.loop (lp .ready none))/\W.heap[D]? = some (.deferred (some [])))
  (λpre W=>Ix pre W/\W.heap[D+1]? = some (.loop (lp .done (some .ret)))/\W.heap[D]? = some (.deferred (some []))) W1 (by rw [hW1];exact hst _ _)
  (λs V v h=>⟨bI s V v h.1,Hs jO V v h.2.1,Hs jO V v h.2.2⟩)
  (λs V v h=>⟨bIx s V v h.1,Hs jO V v h.2.1,Hs jO V v h.2.2⟩) ?_ ⟨hi1,hl1,hd1⟩).mono ?_
 ·rintro pre x W ⟨hi,hl,hd⟩ hpx;have hlt:D+1<W.heap.size:=(Array.getElem?_eq_some_iff.1 hl).1;have hy:=run_yield (P:=P) (args:=enc x) hl (by rw [hlp];exact hps x);rw [hlp] at hy;refine ⟨fn,_,assign,body,hy,roundIn_of_wpIn hfn (hassign _ x W _ ⟨_,run_beginRound hl (by rw [hlp]),?_⟩)⟩;obtain ⟨W2,hW2⟩:∃ W2,W2=W.putObj (D+1) (.loop { lp .ready none with state:=.busy }):=⟨_,rfl⟩
  rw [<- hW2];have hl2:W2.heap[D+1]? = some (.loop { lp .ready none with state:=.busy }):=by rw [hW2];exact World.putObj_heap_same hlt
  have hd2:W2.heap[D]? = some (.deferred (some [])):=by rw [hW2];exact (World.putObj_heap_other jO).trans hd
  have hi2:I pre W2:=by rw [hW2];exact hI.putObj _ hi jO hl rfl
  have hk2:F0 N W W2:=by rw [hW2];exact Vz jO W _
  refine wpIn_mono (hbody _ pre x W2 hi2 hpx) ?_;have fin:∀ (jump:Option Code) (W3:World),KeepsOthers W2 W3->∃ W4,W4=W3.putObj (D+1) (.loop (lp (if jump.isNone then .ready else .done) jump)) /\
    (Instr.endRound (D+1) jump).run P W3=.ok (.bool jump.isNone) W4/\W3.heap[D+1]? = some (.loop { lp .ready none with state:=.busy }) /\
    W4.heap[D+1]? = some (.loop (lp (if jump.isNone then .ready else .done) jump))/\W4.heap[D]? = some (.deferred (some [])):=λjump W3 hk=>by
   have hl3:=hk.same _ _ hl2 rfl;refine ⟨_,rfl,?_,hl3,World.putObj_heap_same (Array.getElem?_eq_some_iff.1 hl3).1,(World.putObj_heap_other jO).trans (hk.same _ _ hd2 rfl)⟩;have:=run_endRound (P:=P) jump hl3;rw [hlp] at this ⊢;exact this
  rintro e a3 W3 hq;cases e with
  | normal =>
   obtain ⟨hk,hka,hi3⟩:=hq;obtain ⟨W4,h4,hr,hl3,hl4,hd4⟩:=fin none W3 hk;refine ⟨_,W4,hr,.inl ⟨rfl,⟨?_,hl4,hd4⟩,?_⟩⟩
   ·rw [h4];exact hI.putObj _ hi3 jO hl3 rfl
   ·rw [h4];exact (hk2.trans hka).trans (Vz jO W3 _)
  | ret =>
   obtain ⟨hk,-,hi3⟩:=hq;obtain ⟨W4,h4,hr,hl3,hl4,hd4⟩:=fin (some .ret) W3 hk;refine ⟨_,W4,hr,.inr ⟨rfl,?_,hl4,hd4⟩⟩;rw [h4];exact hIx.putObj _ hi3 jO hl3 rfl
  | exit id=>exact absurd hq.2.1 jS
  | goto t=>exact absurd hq.2.1 jS
  | panic ch=>exact hq.elim
  | outgrown=>exact hq.elim
 ·rintro e W2 ⟨⟨v,rfl⟩,(⟨hi,hl,hd⟩ | ⟨pre,hpre,hi,hl,hd⟩)⟩
  ·refine ⟨none,_,by have:=run_endLoop (P:=P) hl (by rw [hlp];simp);rw [hlp] at this;exact this,hdone _ _ (hI.putObj _ hi jO hl rfl) ((World.putObj_heap_other jO).trans hd) jO⟩
  ·refine ⟨some .ret,_,by have:=run_endLoop (P:=P) hl (by rw [hlp];simp);rw [hlp] at this;exact this,hstop _ pre _ hpre (hIx.putObj _ hi jO hl rfl) ((World.putObj_heap_other jO).trans hd) jO⟩
theorem Alq (d:UInt8) (n:Nat) (s:ByteArray) (w:World) :
  CallsIn Fence.wide n prog 84 #[.string s,.string ⟨#[d]⟩,.int .i64 0] w λe w'=>e=.returned (.func (.func 112) #[] #[.pointer (some ⟨w.heap.size+1,0,none⟩),.pointer (some ⟨w.heap.size,0,none⟩),.pointer (some ⟨w.heap.size+1+1,0,none⟩)])/\w'=((w.alloc (.cells #[.string s] 9)).alloc (.cells #[.string ⟨#[d]⟩] 9)).alloc (.cells #[.int .i64 0] 3):=by
 refine callsIn_of_wp func84 rfl trivial ?_ rfl;simp only [ntmps84,List.size_toArray,jac,List.length_nil,Nat.reduceAdd,Nat.reduceSub,Array.replicate_succ,Array.replicate_zero,List.push_toArray,List.append_toArray,List.nil_append,jah]
 gi_wp2
 go_ret;exact ⟨rfl,rfl⟩
theorem Ali (d:UInt8) (n:Nat) (hn:1<=n) (s:ByteArray) (w:World) :
  CallsIn Fence.wide n prog 58 #[.string s,.string ⟨#[d]⟩] w λe w'=>e=.returned (.func (.func 112) #[] #[.pointer (some ⟨w.heap.size+1,0,none⟩),.pointer (some ⟨w.heap.size,0,none⟩),.pointer (some ⟨w.heap.size+1+1,0,none⟩)])/\w'=((w.alloc (.cells #[.string s] 9)).alloc (.cells #[.string ⟨#[d]⟩] 9)).alloc (.cells #[.int .i64 0] 3):=by
 refine callsIn_of_wp func58 rfl trivial ?_ rfl;simp only [ntmps58,List.size_toArray,jac,List.length_nil,Nat.reduceAdd,Nat.reduceSub,Array.replicate_succ,Array.replicate_zero,List.push_toArray,List.append_toArray,List.nil_append,jah]
 gi_wp2_with (refine ⟨trivial,?_⟩;gi_at_call 84;refine (Alq d _ s w).mono ?_;rintro e w' ⟨rfl,rfl⟩)
 go_ret;exact ⟨rfl,rfl⟩
def seqLeft (N:Nat) (V:World):Nat:=match V.cell? ⟨N,0,none⟩ with | some (.string t)=>t.size | _=>0
theorem Aad {N:Nat} {V:World} {t:ByteArray} (h:V.cell? ⟨N,0,none⟩=some (.string t)):seqLeft N V=t.size:=by unfold seqLeft;rw [h]
def Iu (d:UInt8) (N:Nat) (t:ByteArray) (V:World):Prop:=Go.Boxed V N 9 (.string t)/\Go.Boxed V (N+1) 9 (.string ⟨#[d]⟩)/\Go.Boxed V (N+2) 3 (.int .i64 0)
theorem Iu.Ac {d:UInt8} {N:Nat} {t:ByteArray} {V V':World} (h:Iu d N t V) (k:F0 N V V'):Iu d N t V' :=
 ⟨(k 0 jO).trans h.1,(k 1 jO).trans h.2.1,(k 2 jO).trans h.2.2⟩
theorem Iu.set {d:UInt8} {N:Nat} {t:ByteArray} {V:World} (h:Iu d N t V) (u:ByteArray):Iu d N u (V.setCell ⟨N,0,none⟩ (.string u)) :=
 ⟨h.1.set _,(Below.heap_setCell _ _ _ _ (show N+1 ≠ N by omega)).trans h.2.1,(Below.heap_setCell _ _ _ _ (show N+2 ≠ N by omega)).trans h.2.2⟩
theorem Wc (d:UInt8) (n:Nat) (hn:1<=n) (l N:Nat) (s:ByteArray) (hs:s.size<=100000) (J Jx:List (List UInt8)->World->Prop) (W:World) (hJ:Ka N J)
  (hY:∀ pre x W1,J pre W1->pre ++ [x] <+: Lex.Gq d s.data.toList->YieldAt Fence.wide (n - 1) prog l #[.string ⟨x.toArray⟩] W1 λe W' =>
   (e=.returned (.bool true)/\J (pre ++ [x]) W'/\F0 N W1 W')\/(e=.returned (.bool false)/\Jx (pre ++ [x]) W'))
  (hA:Iu d N s W) (h0:J [] W) :
  CallsIn Fence.wide n prog 112 #[.func (.yield l) #[] #[],.pointer (some ⟨N+1,0,none⟩),.pointer (some ⟨N,0,none⟩),.pointer (some ⟨N+2,0,none⟩)] W λe W'=>(∃ v,e=.returned v) /\
   (J (Lex.Gq d s.data.toList) W'\/(∃ pre,pre <+: Lex.Gq d s.data.toList/\Jx pre W')):=by
 refine callsIn_of_wp func112 rfl trivial ?_ rfl;simp only [ntmps112,List.size_toArray,jac,List.length_nil,Nat.reduceAdd,Nat.reduceSub,Array.replicate_succ,Array.replicate_zero,List.push_toArray,List.append_toArray,List.nil_append,jah];have HY:=jH hY;have HJ:=jH hJ;have HA:=jH (And.intro hA h0);have k1:=hA.2.1.cell;clear hY hJ hA h0
 gi_wp2
 clear k1
 gi_loopw [7] (λ_ wr=>∃ t:ByteArray,t.size<=100000/\Hid (∃ pre,Lex.Gq d s.data.toList=pre ++ Lex.Gq d t.data.toList/\Iu d N t wr/\J pre wr))
  (λ_ wr=>seqLeft N wr)
 case atStart=>exact ⟨s,hs,[],rfl,HA.out.1,HA.out.2⟩
 case round =>
  obtain ⟨t,ht,I⟩:=hrel;obtain ⟨pre,hpre,hat,hJp⟩:=I.out;have HM:=jH (Aad hat.1.cell);have k0:=hat.1.cell;have f0:=hat.1.frozen;have k1:=hat.2.1.cell;have k2:=hat.2.2.cell;have KI:=jH (Abf d t ⟨#[d]⟩ rfl wr);rcases Lex.Vx d t.data.toList with hi | ⟨i,hi⟩
  ·rw [hi] at KI;have hp:=Lex.Acn d _ hi;rw [hp] at hpre;obtain ⟨fn,tmps,assign,body,hy,hRr⟩:=HY.out pre t.data.toList wr hJp (by rw [hpre];exact List.prefix_refl _);rw [Lex.Gn] at hy;rw [<- hpre] at hRr;clear hi hp hpre hat hJp I
   gi_wp2_with (refine ⟨trivial,?_⟩;gi_at_call 113;refine (callsIn_wide.2 KI.out).mono ?_;rintro e w3 ⟨rfl,rfl⟩)
   refine hRr.mono ?_;rintro e W3 (⟨rfl,hJ3,hk3⟩ | ⟨rfl,hJx3⟩)
   ·gi_wp2
    go_end0;exact ⟨⟨_,rfl⟩,.inl hJ3⟩
   ·gi_wp2
    go_end0;exact ⟨⟨_,rfl⟩,.inr ⟨_,List.prefix_refl _,hJx3⟩⟩
  ·rw [hi] at KI;obtain ⟨hlt,hp⟩:=Lex.Aco d _ i hi;have hlt':i<t.size:=by simpa using hlt
   have hsub:t.extract 0 i=⟨(t.data.toList.take i).toArray⟩:=by
    have:=Lex.J5 t 0 i;rw [List.drop_zero,Nat.sub_zero] at this;rw [<- this,Lex.Gn]
   have hdrop:(t.extract (i+1) t.size).data.toList=t.data.toList.drop (i+1):=Lex.Oz t (i+1);have hdz:(t.extract (i+1) t.size).size=t.size - (i+1):=by rw [ByteArray.size_extract,Nat.min_self]
   rw [hp] at hpre;obtain ⟨fn,tmps,assign,body,hy,hRr⟩:=HY.out pre (t.data.toList.take i) wr hJp ⟨Lex.Gq d (t.data.toList.drop (i+1)),by rw [hpre,jaq];rfl⟩;rw [<- hsub] at hy;have HP:=jH hpre;have HAt:=jH hat;have HD:=jH (And.intro hdrop hdz);have hiz:(i:Int)<(t.size:Int):=jO
   have hiz2:(i:Int)+1<=(t.size:Int):=jO
   clear hi hp hpre hat hJp I hlt hsub hdrop hdz
   gi_wp2_with (refine ⟨trivial,?_⟩;gi_at_call 113;refine (callsIn_wide.2 KI.out).mono ?_;rintro e w3 ⟨rfl,rfl⟩)
   refine hRr.mono ?_;rintro e W3 (⟨rfl,hJ3,hk3⟩ | ⟨rfl,hJx3⟩)
   ·have hat3:=HAt.out.Ac hk3;have k0:=hat3.1.cell;have f0:=hat3.1.frozen;have k1:=hat3.2.1.cell;have I2:Hid (∃ pre,Lex.Gq d s.data.toList=pre ++ Lex.Gq d (t.extract (i+1) t.size).data.toList/\Iu d N (t.extract (i+1) t.size) (W3.setCell ⟨N,0,none⟩ (.string (t.extract (i+1) t.size)))/\J pre (W3.setCell ⟨N,0,none⟩ (.string (t.extract (i+1) t.size)))) :=
     jH ⟨pre ++ [t.data.toList.take i],by rw [HD.out.1,HP.out,jaq];rfl,hat3.set _,HJ.out _ _ _ hJ3⟩
    have HM2:=jH (Aad I2.out.choose_spec.2.1.1.cell);have hdz:=HD.out.2;clear hJ3 hk3 hat3 hy hRr
    gi_wp2
    go_roundw
    case rel=>exact ⟨t.extract (i+1) t.size,by rw [hdz];omega,I2⟩
    case measure=>rw [HM2.out,HM.out,hdz];omega
   ·gi_wp2
    refine bodyPost_ret (results_none rfl _ _ _) rfl ?_;refine ⟨⟨_,rfl⟩,.inr ⟨_,⟨Lex.Gq d (t.data.toList.drop (i+1)),?_⟩,hJx3⟩⟩;rw [HP.out,jaq];rfl
namespace Lex
theorem Yd (d:UInt8):∀ (l x:List UInt8),x ∈ Gq d l->x.length<=l.length
 | [],x,h=>by
  rw [Gq,List.mem_singleton] at h;subst h;exact jaa _
 | c::t,x,h=>by
  have ih:=Yd d t;rw [Gq] at h;rw [jac];split at h
  ·rcases jal.1 h with rfl | h
   ·simp
   ·have:=ih x h;omega
  ·split at h
   ·rw [List.mem_singleton] at h;subst h;simp
   ·rename_i y r e
    rw [e] at ih;rcases jal.1 h with rfl | h
    · have:=ih y (List.mem_cons_self ..);simp only [jac];omega
    · have:=ih x (List.mem_cons_of_mem _ h);omega
end Lex
theorem Iu.alloc {d:UInt8} {N:Nat} {t:ByteArray} {V:World} (h:Iu d N t V) (o:Obj):Iu d N t (V.alloc o):=⟨h.1.alloc o,h.2.1.alloc o,h.2.2.alloc o⟩
theorem Kq {N:Nat} {V V':World} (h:N+2<V.heap.size) (hb:Below V.heap.size V V'):F0 N V V':=λj hj=>hb.block _ jO
theorem Dd {V V':World} (hb:Below V.heap.size V V'):KeepsOthers V V':=⟨hb.size,λk _ hk _=>(hb.block k (Array.getElem?_eq_some_iff.1 hk).1).trans hk⟩
def Ri (R:Nat) (w:World) (b:Bool) (pre:List (List UInt8)) (W:World):Prop:=(Go.Boxed W R 4 (.bool false)/\Below R w W/\R+3<W.heap.size)/\pre.all Lex.Fg=b
theorem Wo (R B:Nat) (w:World) (hR:R<=B) (b:Bool):OwnFrom B (Ri R w b):=λs X Y row hs hg hr=>by
 obtain ⟨⟨h1,h2,h3⟩,h4⟩:=hs;refine ⟨⟨h1.kept hg (λe=>?_),h2.trans ⟨hg.os,hg.tape,hg.output,hg.size,λk hk=>hg.block k jO (λe=>?_)⟩,jas h3 hg.size⟩,h4⟩
 ·obtain ⟨-,o,ho,hc⟩:=hr R e.symm;rw [show X.heap[R]? = _ from h1] at ho;cases ho
  cases hc
 ·have:=(hr k e.symm).1;omega
theorem Nd (R N:Nat) (w:World) (hR:R<N) (b:Bool):Ka N (Ri R w b):=λs V v hs =>
 ⟨⟨(Below.heap_setCell _ _ _ _ (show R ≠ N by omega)).trans hs.1.1,hs.1.2.1.setCell (p:=⟨N,0,none⟩) (show R<=N by omega) v,by simpa using hs.1.2.2⟩,hs.2⟩
theorem E9 {W W':World} {B:Nat} {t:TypeId} {v:Value} (h:Go.Boxed W B t v) (hb:Below W.heap.size W W'):Go.Boxed W' B t v:=(hb.block B h.lt).trans h
theorem Aqk (s:ByteArray) (w:World) (hs:s.size<=100000):Calls prog 43 #[.string s] w λe w'=>e=.returned (.bool (Lex.Df s.data.toList))/\Below w.heap.size w w':=by
 have hsl:s.data.toList.length=s.size:=by simp
 refine (callsIn_wide (n:=5)).1 ?_;refine callsIn_of_wp_marks func43 rfl trivial ?_ rfl;simp only [ntmps43,List.size_toArray,jac,List.length_nil,Nat.reduceAdd,Nat.reduceSub,Array.replicate_succ,Array.replicate_zero,List.push_toArray,List.append_toArray,List.nil_append,jah]
 gi_wp2_with (refine ⟨trivial,?_⟩;gi_at_call 58;refine (Ali 46 _ jO s _).mono ?_;rintro e w' ⟨rfl,rfl⟩)
 obtain ⟨W0,hW0⟩:∃ W0,W0=(((w.alloc (.cells #[.bool false] 4)).alloc (.cells #[.string s] 9)).alloc (.cells #[.string ⟨#[46]⟩] 9)).alloc (.cells #[.int .i64 0] 3):=⟨_,rfl⟩
 have hsz:W0.heap.size=w.heap.size+4:=by rw [hW0];simp
 have hSt:Iu 46 (w.heap.size+1) s W0:=by
  rw [hW0];have e1:(w.alloc (.cells #[.bool false] 4)).heap.size=w.heap.size+1:=by simp
  have e2:((w.alloc (.cells #[.bool false] 4)).alloc (.cells #[.string s] 9)).heap.size=w.heap.size+1+1:=by simp
  have e3:(((w.alloc (.cells #[.bool false] 4)).alloc (.cells #[.string s] 9)).alloc (.cells #[.string ⟨#[46]⟩] 9)).heap.size=w.heap.size+1+2:=by simp
  have b1:=((Go.Boxed.new (w.alloc (.cells #[.bool false] 4)) 9 (.string s)).alloc (.cells #[.string ⟨#[46]⟩] 9)).alloc (.cells #[.int .i64 0] 3);have b2:=(Go.Boxed.new ((w.alloc (.cells #[.bool false] 4)).alloc (.cells #[.string s] 9)) 9 (.string ⟨#[46]⟩)).alloc (.cells #[.int .i64 0] 3);have b3:=Go.Boxed.new (((w.alloc (.cells #[.bool false] 4)).alloc (.cells #[.string s] 9)).alloc (.cells #[.string ⟨#[46]⟩] 9)) 3 (.int .i64 0);rw [e1] at b1;rw [e2] at b2;rw [e3] at b3;exact ⟨b1,b2,b3⟩
 have hB0:Below w.heap.size w W0:=by
  rw [hW0];exact ((((jan _ w).alloc (jaa _) _).alloc jS _).alloc (by simp;omega) _).alloc (by simp;omega) _
 have hBx:Go.Boxed W0 w.heap.size 4 (.bool false):=by
  rw [hW0];exact (((Go.Boxed.new w 4 (.bool false)).alloc _).alloc _).alloc _
 have HW:=jH (show Ri w.heap.size w true [] W0 from ⟨⟨hBx,hB0,by omega⟩,rfl⟩);rw [<- hW0];clear hW0 hB0 hBx;refine V7 (w.heap.size+1) jO rfl jO (gf:=112) (lb:=#[.pointer (some ⟨w.heap.size+1+1,0,none⟩),.pointer (some ⟨w.heap.size+1,0,none⟩),.pointer (some ⟨w.heap.size+1+1+1,0,none⟩)]) rfl trivial (enters_of func112 jK rfl)
  (enc:=λx=>#[.string ⟨x.toArray⟩]) (L:=Lex.Gq 46 s.data.toList) (St:=Iu 46 (w.heap.size+1) s)
  (λl J Jx W hS hJ _ hY h0=>Wc 46 _ jO l (w.heap.size+1) s hs J Jx W hJ hY hS h0)
  (λo1 o2=>(hSt.alloc o1).alloc o2) (λ_=>rfl) (Ri w.heap.size w true) (Ri w.heap.size w false)
  (Wo w.heap.size _ w jO true) (Wo w.heap.size _ w jO false) (Nd w.heap.size _ w jO true) (Nd w.heap.size _ w jO false) HW.out
  (λx=>{ tmps:=#[.string s,undef,.pointer (some ⟨w.heap.size,0,none⟩),.string ⟨x.toArray⟩,.string s,.func (.func 112) #[] #[.pointer (some ⟨w.heap.size+1+1,0,none⟩),.pointer (some ⟨w.heap.size+1,0,none⟩),.pointer (some ⟨w.heap.size+1+1+1,0,none⟩)],.string ⟨x.toArray⟩,undef,undef,undef],defers:=[] }) ?assign ?body ?done ?stop
 case assign =>
  intro l x W K hK
  gi_wp2
  exact hK
 case body =>
  rintro l' pre x W ⟨⟨hb,hbel,hsz2⟩,hp⟩ hpx;have hx:x.length<=s.size:=by
   rw [<- hsl];refine Lex.Yd 46 _ _ ?_;obtain ⟨r,hr⟩:=hpx;rw [<- hr];simp
  have K:=Z0 ⟨x.toArray⟩ W (by show x.toArray.size<=_;rw [List.size_toArray];omega);have hc:=hb.cell;have hf:=hb.frozen;have HB:=jH hb;have HL:=jH hbel;have HP:=jH hp;have HZ:=jH hsz2;rw [show (⟨x.toArray⟩:ByteArray).data.toList=x from rfl] at K;clear hb hbel hp hsz2 hpx hx hSt;cases hpl:Lex.Fg x
  ·rw [hpl] at K;have K:=jH K;have E:=jH hpl;clear hpl hc hf
   gi_wp2_with (refine ⟨trivial,?_⟩;gi_at_call 59;refine (CallsIn.inRound l' (callsIn_wide.2 K.out)).mono ?_;rintro e w3 ⟨rfl,hb3⟩;have HB3:=jH hb3;have hx3:=E9 HB.out hb3;have hc:=hx3.cell;have hf:=hx3.frozen;have HX:=jH hx3;clear hb3 hx3)
   refine ⟨(Dd HB3.out).trans (KeepsOthers.setCell _ _ _),rfl,⟨HX.out.set _,(HL.out.trans (HB3.out.mono (by have:=HZ.out;omega))).setCell (p:=⟨w.heap.size,0,none⟩) (jaa _) _,?_⟩,?_⟩
   · have:=HB3.out.size;have:=HZ.out;simp;omega
   · rw [List.all_append];simp [E.out]
  ·rw [hpl] at K;have K:=jH K;have E:=jH hpl;clear hpl hc hf
   gi_wp2_with (refine ⟨trivial,?_⟩;gi_at_call 59;refine (CallsIn.inRound l' (callsIn_wide.2 K.out)).mono ?_;rintro e w3 ⟨rfl,hb3⟩;have HB3:=jH hb3;have HX:=jH (E9 HB.out hb3);clear hb3)
   refine ⟨Dd HB3.out,Kq (by have:=HZ.out;omega) HB3.out,⟨HX.out,HL.out.trans (HB3.out.mono (by have:=HZ.out;omega)),?_⟩,?_⟩
   · have:=HB3.out.size;have:=HZ.out;omega
   · rw [List.all_append,HP.out];simp [E.out]
 case done =>
  rintro D W ⟨⟨hb,hbel,hsz2⟩,hp⟩ hK hD;have hc:=hb.cell;have hf:=hb.frozen;have E:=jH (show Lex.Df s.data.toList=true by unfold Lex.Df;rw [<- Lex.Yc];exact hp);have HB:=jH hb;have HL:=jH hbel;clear hSt hb hbel hp
  gi_wp2
  have hK':=(KeepsOthers.setCell W ⟨w.heap.size,0,none⟩ (.bool true)).same D _ hK rfl;refine ⟨by simp,.inl ⟨_,_,rfl,run_takeDeferred hK',?_⟩⟩;have e4:=((HB.out.set (.bool true)).kept (grownBy_putObj' _ D (.deferred none)) (λe=>by injection e;omega)).cell;refine ⟨.bool true,?_,?_,?_⟩
  ·simp [results,results43,go_sem,e4]
  ·rw [E.out]
  ·exact (HL.out.setCell (p:=⟨w.heap.size,0,none⟩) (jaa _) _).trans (belowK_b (w:=w) (jaa _) _ D _ _ jO hK' rfl rfl)
 case stop =>
  rintro D pre W ⟨post,hpre⟩ ⟨⟨hb,hbel,hsz2⟩,hp⟩ hK hD;have E:=jH (show Lex.Df s.data.toList=false by unfold Lex.Df;rw [<- Lex.Yc,<- hpre,List.all_append,hp];rfl);have HB:=jH hb;have HL:=jH hbel;clear hSt hb hbel hp
  gi_wp2
  refine ⟨by simp,.inl ⟨_,_,rfl,run_takeDeferred hK,?_⟩⟩;have e4:=(HB.out.kept (grownBy_putObj' _ D (.deferred none)) (λe=>by injection e;omega)).cell;refine ⟨.bool false,?_,?_,?_⟩
  ·simp [results,results43,go_sem,e4]
  ·rw [E.out]
  ·exact HL.out.trans (belowK_b (w:=w) (jaa _) W D _ _ jO hK rfl rfl)
theorem Arl:Axg:=⟨Azp,Alp,Z0,Aqk⟩
