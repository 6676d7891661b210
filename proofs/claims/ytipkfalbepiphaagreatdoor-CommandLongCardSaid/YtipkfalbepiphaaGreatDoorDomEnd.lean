import Derived.Lib.OthersKept
import Derived.Test.YtipkfalbepiphaaGreatDoorLabEnd
import Derived.Test.YtipkfalbepiphaaGreatDoorDomRefs
set_option maxRecDepth 100000
set_option maxHeartbeats 8000000
namespace Go.Proofs.YtipkfalbepiphaaGreatDoor
open Tryz
section
open Go.RowKit Utf Go.Shelf
attribute [local go_sem] Oper.semAt_some
theorem Atu (r:Int) (w:World):Calls prog 185 #[.int .i32 r] w λe w'=>e=.returned (.bool (Dom.Ch r))/\w'=w:=by
 go_enter func185,ntmps185;by_cases h1:r=46
 ·subst h1;go_wp2;go_ret;exact ⟨rfl,rfl⟩
 ·by_cases h2:r=12290
  ·subst h2;go_wp2;go_ret;exact ⟨rfl,rfl⟩
  ·have e1:(r == 46)=false:=by simpa using h1
   have e2:(r == 12290)=false:=by simpa using h2
   have e3:Dom.Ch r=false:=by unfold Dom.Ch;rw [e1,e2];rfl
   rw [e3];clear h1 h2 e3;go_wp2;go_ret;exact ⟨rfl,rfl⟩
theorem At2 {x:Int} (h0:0<=x) (h:right x.toNat=true):J8 x=(enc x.toNat).length:=by
 unfold J8 Aj lenOf enc;rw [decide_eq_true h0,h];simp only [Bool.and_self,if_true];split
 ·rfl
 ·split
  · rfl
  · split<;>rfl
def An1 (it:Nat) (W:World):Nat:=match W.heap[it]? with | some (.stringIter s p)=>s.size+1 - p | _=>0
theorem Um {it:Nat} {W:World} {s:ByteArray} {p:Nat} (h:W.heap[it]? = some (.stringIter s p)):An1 it W=s.size+1 - p:=by unfold An1;rw [h]
def Oq (Bs:Nat) (W W':World):Prop:=KeepsWalks W W'/\W'.heap[Bs]? = W.heap[Bs]?
theorem Atz {Bs:Nat} {X Y Z:World} (h:Oq Bs X Y) (k:Oq Bs Y Z):Oq Bs X Z:=⟨h.1.trans k.1,k.2.trans h.2⟩
theorem Aty {Bs:Nat} {w:World} (hB:Bs<w.heap.size) (W:World) (l:Nat) (o o':Obj) (hl:w.heap.size<=l) (h:W.heap[l]? = some o) (hc:o.isCells=false) (hw:o.isWalk=false):Oq Bs W (W.putObj l o') :=
 ⟨walksK_b W l o o' hl h hc hw,World.putObj_heap_other jO⟩
theorem cell_of_block {W W':World} {b:Nat} (h:W'.heap[b]? = W.heap[b]?):W'.cell? ⟨b,0,none⟩=W.cell? ⟨b,0,none⟩:=World.cell?_of_block h
theorem Af0 (W:World) (k:Nat) (s:ByteArray) (p:Nat):W.grownBy (W.iterAt k s p) (some k) :=
 ⟨rfl,rfl,rfl,by rw [Lib.iterAt_size];exact jaa _,λj _ hj=>Lib.iterAt_other W k j s p (λe=>hj (by rw [e]))⟩
theorem Ah2 (n:Nat) (hn:1<=n) (l Bs:Nat) (L:List Int) (hR:Ae L=true) (hlen:L.length<=1000) (J Jx:List (List UInt8)->World->Prop)
  (W:World) (hW0:Bs<W.heap.size) (hJ:AbidesFrom W.heap.size J)
  (hY:∀ pre x W1,J pre W1->pre.length<L.length+1->YieldAt Fence.wide (n - 1) prog l #[.string ⟨x.toArray⟩] W1 λe W' =>
   (e=.returned (.bool true)/\J (pre ++ [x]) W'/\Oq Bs W1 W')\/(e=.returned (.bool false)/\Jx (pre ++ [x]) W'))
  (hBs:W.cell? ⟨Bs,0,none⟩=some (.string ⟨(Ah L).toArray⟩)) (h0:J [] W) :
  CallsIn Fence.wide n prog 184 #[.func (.yield l) #[] #[],.pointer (some ⟨Bs,0,none⟩)] W λe W'=>(∃ v,e=.returned v) /\
   ((∃ ys,ys=(Dom.cut L).map Ah/\J ys W')\/(∃ pre,pre <+: (Dom.cut L).map Ah/\Jx pre W')):=by
 refine callsIn_of_wp func184 rfl trivial ?_ rfl;simp only [ntmps184,List.size_toArray,jac,List.length_nil,Nat.reduceAdd,Nat.reduceSub,Array.replicate_succ,Array.replicate_zero,List.push_toArray,List.append_toArray,List.nil_append,jah];obtain ⟨S,hS⟩:∃ S:ByteArray,S=⟨(Ah L).toArray⟩:=⟨_,rfl⟩
 have hsz:S.size=(Ah L).length:=by rw [hS];simp [ByteArray.size]
 have hsl:=Gr L;have HS:=jH hS;have HR:=jH hR;have HSZ:=jH hsz;rw [<- hS] at hBs;have hfew:S.size<=4000:=jO
 have HW0:=jH hW0;have HY:=jH hY;have HJ:=jH hJ;have hstart:=hJ [] W (W.iter S 0) none h0 (World.grownBy_alloc W _ none) (λr e=>by cases e);have hit:(W.iter S 0).heap[W.heap.size]? = some (.stringIter S 0):=World.alloc_heap_new W _;have hbel:(W.iter S 0).cell? ⟨Bs,0,none⟩=some (.string S):=((Ab W (.stringIter S 0)).cell (p:=⟨Bs,0,none⟩) hW0).trans hBs;have HST:=jH (And.intro hstart (And.intro hit hbel));clear hY hJ hS hsz hsl hstart hit hbel h0
 gi_wp2
 clear hBs
 gi_loopw [3,4,5] (λs3 _ _ wr=>∃ k q b:Nat,s3=.int .i64 (b:Int)/\k<=L.length/\Hid (Dom.Im L k q b/\wr.heap[W.heap.size]? = some (.stringIter S (Dom.at_ L k))/\J (Dom.gone L k q) wr/\wr.cell? ⟨Bs,0,none⟩=some (.string S)))
  (λ_ _ _ wr=>An1 W.heap.size wr)
 case atStart=>exact ⟨0,0,0,rfl,Nat.zero_le _,⟨Dom.A5t L,HST.out.2.1,HST.out.1,HST.out.2.2⟩⟩
 case round =>
  obtain ⟨k,q,b,rfl,hk,I⟩:=hrel;have hba:=Dom.A22 I.out.1;have hqk:=Dom.Aya I.out.1;obtain ⟨a,ha⟩:∃ a,a=Dom.at_ L k:=⟨_,rfl⟩
  rw [<- ha] at hba;have hI:wr.heap[W.heap.size]? = some (.stringIter S a):=by rw [ha];exact I.out.2.1
  have hm0:=Um hI;have HM0:=jH hm0;clear hm0;by_cases hlt:k<L.length
  ·obtain ⟨hx0,hxr⟩:=Dom.Aeb HR.out hlt;have hnl:=Dom.A6q hlt;have hm1:=Dom.Mf (L[k]!).toNat;have hm4:=Dom.A3d (L[k]!).toNat;have hsucc:=Dom.Aqx hlt;have hrd:=Dom.A4h HR.out hlt;have hlz:=At2 hx0 hxr;obtain ⟨x,hx⟩:∃ x,x=L[k]!:=⟨_,rfl⟩
   rw [<- hx] at hx0 hxr hnl hm1 hm4 hsucc hrd hlz;obtain ⟨m,hm⟩:∃ m,m=(enc x.toNat).length:=⟨_,rfl⟩
   rw [<- hm] at hnl hm1 hm4 hsucc hrd hlz;rw [<- HS.out,<- ha] at hrd;rw [<- ha] at hnl hsucc;have haS:a+m<=S.size:=by rw [HSZ.out];exact hnl
   have hnx:∀ ty,(Instr.next (.pointer (some ⟨W.heap.size,0,none⟩)) true ty).run prog wr=.ok (.tuple #[.bool true,.int .i64 (a:Int),.int .i32 x]) (wr.iterAt W.heap.size S (a+m)):=λty=>by
    have h:=Lib.run_next_any_at (P:=prog) wr W.heap.size S a ty hI jO;rw [hrd] at h;simp only at h;rwa [Int.toNat_of_nonneg hx0] at h
   have hI2:=Lib.iterAt_heap wr W.heap.size S a (a+m) hI;have hJ2:J (Dom.gone L k q) (wr.iterAt W.heap.size S (a+m)):=HJ.out _ wr _ (some W.heap.size) I.out.2.2.1 (Af0 _ _ _ _) (λr e=>by cases e;exact ⟨jaa _,_,hI,rfl⟩);have hB2:=(cell_of_block (Lib.iterAt_other wr W.heap.size Bs S (a+m) (Nat.ne_of_lt HW0.out))).trans I.out.2.2.2;obtain ⟨W2,hW2⟩:∃ W2,W2=wr.iterAt W.heap.size S (a+m):=⟨_,rfl⟩
   rw [<- hW2] at hnx hI2 hJ2 hB2;have hc2:=hB2;have HM2:=jH (Um hI2);have HI2:=jH hI2;have HB2:=jH hB2;have HX0:=jH hx0;clear hW2 hrd hxr hnl hI hx0;have KD:=Atu x W2;cases hd:Dom.Ch x with
   | false =>
    rw [hd] at KD;obtain ⟨hC',hg'⟩:=Dom.A23 I.out.1 hlt (by rw [<- hx];exact hd);have I':=jH (show Dom.Im L (k+1) q b/\W2.heap[W.heap.size]? = some (.stringIter S (Dom.at_ L (k+1)))/\J (Dom.gone L (k+1) q) W2/\W2.cell? ⟨Bs,0,none⟩=some (.string S) from ⟨hC',by rw [hsucc];exact HI2.out,by rw [hg'];exact hJ2,HB2.out⟩);have KD:=jH KD;clear hd hC' hg' hJ2 hI2 hsucc hx hm hB2 hlz ha
    gi_wp2_with (refine ⟨trivial,?_⟩;gi_at_call 185;refine (callsIn_wide.2 KD.out).mono ?_;rintro e w3 ⟨rfl,rfl⟩)
    go_roundw
    case rel=>exact ⟨k+1,q,b,rfl,by omega,I'.out⟩
    case measure=>rw [HM2.out,HM0.out];omega
   | true =>
    rw [hd] at KD;have KD:=jH KD;have hdd:Dom.Ch L[k]! = true:=by rw [<- hx];exact hd
    obtain ⟨hC',hg'⟩:=Dom.Aic I.out.1 hlt hdd;rw [<- hx,<- hm,<- ha] at hC';have hpre:=Dom.Ay9 I.out.1 hlt hdd;have hpart:=Dom.Ar2 I.out.1;rw [<- HS.out,<- ha] at hpart;obtain ⟨fn,tmps,assign,body,hy,hRr⟩:=HY.out _ (Ah (Dom.cut (L.take k))[q]!) W2 hJ2 (by rw [Dom.Ai7 I.out.1];omega);rw [<- hpart] at hy;have KL:=jH (λW'=>Pd x W');rw [hlz] at KL;have HC':=jH hC';have HG':=jH hg';have HPre:=jH hpre;have HSucc:=jH hsucc;clear hd hC' hg' hJ2 hI2 hsucc hx hm hB2 hlz ha hdd hpre hpart
    gi_wp2_with (refine ⟨trivial,?_⟩;gi_at_call 185;refine (callsIn_wide.2 KD.out).mono ?_;rintro e w3 ⟨rfl,rfl⟩)
    refine hRr.mono ?_;rintro e W3 (⟨rfl,hJ3,hk3⟩ | ⟨rfl,hJx3⟩)
    ·have I':=jH (show Dom.Im L (k+1) (q+1) (a+m)/\W3.heap[W.heap.size]? = some (.stringIter S (Dom.at_ L (k+1)))/\J (Dom.gone L (k+1) (q+1)) W3/\W3.cell? ⟨Bs,0,none⟩=some (.string S) from
      ⟨HC'.out,by rw [HSucc.out];exact hk3.1.same _ _ HI2.out rfl,by rw [HG'.out];exact hJ3,(cell_of_block hk3.2).trans HB2.out⟩)
     have HM3:=jH (Um (hk3.1.same _ _ HI2.out rfl));clear hJ3 hk3 hy hRr hc2
     gi_wp2_with (refine ⟨trivial,?_⟩;gi_at_call 127;refine (callsIn_wide.2 (KL.out W3)).mono ?_;rintro e w4 ⟨rfl,rfl⟩)
     go_roundw
     case rel=>exact ⟨k+1,q+1,a+m,rfl,by omega,I'.out⟩
     case measure=>rw [HM3.out,HM0.out];omega
    ·gi_wp2
     refine bodyPost_ret (results_none rfl _ _ _) rfl ?_;exact ⟨⟨_,rfl⟩,.inr ⟨_,HPre.out,hJx3⟩⟩
  ·obtain rfl:k=L.length:=jO
   have haS:a=S.size:=by rw [ha,Dom.A5e,HSZ.out]
   have hnx:=λty=>Lib.run_next_end_at (P:=prog) wr W.heap.size S a ty hI jO;have hc2:=I.out.2.2.2;have hpart:=Dom.Ar2 I.out.1;have hend:=Dom.Aza I.out.1;rw [<- HS.out,<- ha,haS,List.take_length] at hpart;obtain ⟨fn,tmps,assign,body,hy,hRr⟩:=HY.out _ (Ah (Dom.cut L)[q]!) wr I.out.2.2.1 (by rw [Dom.Ai7 I.out.1];omega);rw [<- hpart] at hy;rw [hend] at hRr;clear hpart hend hI ha hlt
   gi_wp2
   refine hRr.mono ?_;rintro e W3 (⟨rfl,hJ3,hk3⟩ | ⟨rfl,hJx3⟩)
   ·gi_wp2
    go_end0;exact ⟨⟨_,rfl⟩,.inl ⟨_,rfl,hJ3⟩⟩
   ·gi_wp2
    go_end0;exact ⟨⟨_,rfl⟩,.inr ⟨_,List.prefix_refl _,hJx3⟩⟩
theorem Am0 (n:Nat) (s:ByteArray) (w:World) :
  CallsIn Fence.wide n prog 153 #[.string s] w λe w'=>e=.returned (.func (.func 184) #[] #[.pointer (some ⟨w.heap.size,0,none⟩)])/\w'=w.alloc (.cells #[.string s] 9):=by
 refine callsIn_of_wp func153 rfl trivial ?_ rfl;simp only [ntmps153,List.size_toArray,jac,List.length_nil,Nat.reduceAdd,Nat.reduceSub,Array.replicate_succ,Array.replicate_zero,List.push_toArray,List.append_toArray,List.nil_append,jah]
 gi_wp2
 go_ret;exact ⟨rfl,rfl⟩
theorem Abd (n:Nat) (hn:1<=n) (Bs:Nat) (L:List Int) (hR:Ae L=true) (hlen:L.length<=1000) (w:World) (hBs:Bs<w.heap.size) (hc:w.cell? ⟨Bs,0,none⟩=some (.string ⟨(Ah L).toArray⟩)) :
  SeqStopsK Fence.wide n prog 184 #[.pointer (some ⟨Bs,0,none⟩)] (λx:List UInt8=>#[Value.string ⟨x.toArray⟩]) (Oq Bs) (λys=>ys=(Dom.cut L).map Ah)
   (λpre=>pre <+: (Dom.cut L).map Ah) (L.length+1) w:=λl J Jx W hW hJ _ hY h0 =>
 Ah2 n hn l Bs L hR hlen J Jx W (jas hBs hW.size) hJ hY ((hW.cell (p:=⟨Bs,0,none⟩) hBs).trans hc) h0
end
section
open Go.RowKit Utf Go.Shelf
attribute [local go_sem] Oper.semAt_some
theorem Ah5 {w w2:World} {B:Nat} {t:TypeId} {v:Value} (h:Go.Boxed w B t v) (hb:Below w.heap.size w w2):Go.Boxed w2 B t v:=(hb.block B h.lt).trans h
theorem Ca {W:World} {B:Nat} {t:TypeId} {v:Value} (h:Go.Boxed W B t v) {b:Nat} (hne:b ≠ B) (x:Value):Go.Boxed (W.setCell ⟨b,0,none⟩ x) B t v:=h.kept (grownBy_setCell' W b x) (λe=>hne (by cases e;rfl))
theorem Vg {w:World} {o:Obj} {t2 t3:TypeId} {v2 v3:Value} {w2:World} (hb:Below (((w.alloc o).alloc (.cells #[v2] t2)).alloc (.cells #[v3] t3)).heap.size (((w.alloc o).alloc (.cells #[v2] t2)).alloc (.cells #[v3] t3)) w2) :
  Below w.heap.size w w2/\Go.Boxed w2 (w.heap.size+1) t2 v2/\Go.Boxed w2 (w.heap.size+1+1) t3 v3:=by
 have h2:=(Go.Boxed.new (w.alloc o) t2 v2).alloc (.cells #[v3] t3);have h3:=Go.Boxed.new ((w.alloc o).alloc (.cells #[v2] t2)) t3 v3;rw [World.size_alloc] at h2;rw [World.size_alloc,World.size_alloc] at h3;exact ⟨Aa (Dh _ _ _ _) hb,Ah5 h2 hb,Ah5 h3 hb⟩
theorem Ao9 {W w1:World} {B N Bs B0:Nat} {v v':Value} {k m:Nat} {xs ys:List Value} {tmp:Obj} (hv:Go.Boxed W B 120 v) (hrow:W.ownsRow N 9 1 v k xs) (hown':w1.ownsRow N 9 1 v' m ys) (hgrow:(W.alloc tmp).grownBy w1 v.ownBlock)
  (hsN:Bs<N) (hsW:Bs<W.heap.size) (hne:Bs ≠ B) (h0:B0<=N) (h1:B0<=B) (hN:N<=W.heap.size) :
  Go.Boxed w1 B 120 v/\Go.Boxed (w1.setCell ⟨B,0,none⟩ v') B 120 v'/\(w1.setCell ⟨B,0,none⟩ v').ownsRow N 9 1 v' m ys/\KeepsOthers W (w1.setCell ⟨B,0,none⟩ v')/\(w1.setCell ⟨B,0,none⟩ v').heap[Bs]? = W.heap[Bs]?/\Below B0 W (w1.setCell ⟨B,0,none⟩ v') /\
   ∀ (b:Nat) (t:TypeId) (x:Value),t ≠ 9->b ≠ B->Go.Boxed W b t x->Go.Boxed (w1.setCell ⟨B,0,none⟩ v') b t x:=by
 have hv1:Go.Boxed w1 B 120 v:=(hv.alloc tmp).kept hgrow (hv.not_row jD hrow);have hrows:∀ j,v.ownBlock=some j->N<=j:=λj ej=>by
  rcases hrow.2 with ⟨rfl,_⟩ | ⟨g,cap,cur,rfl,hb,_,_⟩
  ·simp [Value.ownBlock] at ej
  ·obtain rfl:g=j:=by simpa [Value.ownBlock] using ej
   exact hb
 refine ⟨hv1,hv1.set v',hown'.kept (grownBy_setCell' w1 B v') (.inr (hv1.not_row jD hown').symm),?_,?_,?_,?_⟩
 ·refine ((KeepsOthers.alloc W tmp).trans (KeepsOthers.of_grownBy hgrow λj o ej hj=>?_)).trans (KeepsOthers.setCell _ _ _);rcases (hrow.alloc tmp).2 with ⟨rfl,_⟩ | ⟨g,cap,cur,rfl,_,hgb,_⟩
  ·simp [Value.ownBlock] at ej
  ·obtain rfl:g=j:=by simpa [Value.ownBlock] using ej
   rw [hgb] at hj;cases hj;rfl
 ·refine (Below.heap_setCell _ _ _ Bs hne).trans ((hgrow.block Bs (by simp;omega) (λe=>?_)).trans (Below.heap_alloc W tmp Bs hsW));have:=hrows Bs e.symm;omega
 ·refine (((jan B0 W).alloc jO tmp).grown hgrow (by simp;omega) λj ej=>?_).setCell (p:=⟨B,0,none⟩) h1 v';have:=hrows j ej;omega
 ·intro b t x ht hb h;exact Ca ((h.alloc tmp).kept hgrow (h.not_row ht hrow)) (Ne.symm hb) v'
theorem Ajn (t:Value) (s:ByteArray) (w:World) (hT:Table w t) (hs:s.size<=100000) {m:List Nat} {k:Nat} (hrd:Au s.data.toList=(m,(k:Int))) :
  Calls prog 128 #[t,.string s] w (Jl (7,[]) w):=by
 have KF:=jH (λW (h:Below w.heap.size w W)=>Arf t s W (hT.below h) hs hrd);clear hs hrd;obtain ⟨b0,b1,b2,b3,rfl,-,-,-,-⟩:=hT;refine (callsIn_wide (n:=4)).1 ?_;refine callsIn_of_wp_marks func128 rfl trivial ?_ rfl;simp only [ntmps128,List.size_toArray,jac,List.length_nil,Nat.reduceAdd,Nat.reduceSub,Array.replicate_succ,Array.replicate_zero,List.push_toArray,List.append_toArray,List.nil_append,jah]
 gi_wp2_with (refine ⟨trivial,?_⟩;gi_at_call 152;refine (callsIn_wide.2 (KF.out _ (Dh _ _ _ _))).mono ?_;rintro e w2 ⟨rfl,hb⟩;obtain ⟨hb2,x2,x3⟩:=Vg hb;have HB2:=jH hb2;have X2:=jH x2;have X3:=jH x3;have c2:=x2.cell;have f2:=x2.frozen;have c3:=x3.cell;have f3:=x3.frozen;clear hb hb2 x2 x3)
 have d2:=(Ca (X2.out.set (.slice none 0 0)) (b:=w.heap.size+1+1) jO (.int .i64 7)).cell;have d3:=((Ca X3.out (b:=w.heap.size+1) jO (.slice none 0 0)).set (.int .i64 7)).cell;refine ⟨.tuple #[.slice none 0 0,.int .i64 7],?_,Qv ((HB2.out.setCell (p:=⟨w.heap.size+1,0,none⟩) (by show w.heap.size<=w.heap.size+1;omega) _).setCell (p:=⟨w.heap.size+1+1,0,none⟩) (by show w.heap.size<=w.heap.size+1+1;omega) _)⟩;simp [results,results128,go_sem,d2,d3]
theorem Af2 (t:Value) (s:ByteArray) (w:World) (hT:Table w t) {m:List Nat} (hf:Folds s m) (h0:Fold.fold (ints m)=[]) :
  Calls prog 128 #[t,.string s] w (Jl (13,[]) w):=by
 have KF:=jH (λW (h:Below w.heap.size w W)=>Yr t s W (hT.below h) hf);rw [h0] at KF;clear hf h0;obtain ⟨b0,b1,b2,b3,rfl,-,-,-,-⟩:=hT;refine (callsIn_wide (n:=4)).1 ?_;refine callsIn_of_wp_marks func128 rfl trivial ?_ rfl;simp only [ntmps128,List.size_toArray,jac,List.length_nil,Nat.reduceAdd,Nat.reduceSub,Array.replicate_succ,Array.replicate_zero,List.push_toArray,List.append_toArray,List.nil_append,jah]
 gi_wp2_with (refine ⟨trivial,?_⟩;gi_at_call 152;refine (callsIn_wide.2 (KF.out _ (Dh _ _ _ _))).mono ?_;rintro e w2 ⟨rfl,hb⟩;obtain ⟨hb2,x2,x3⟩:=Vg hb;have HB2:=jH hb2;have X2:=jH x2;have X3:=jH x3;have c2:=x2.cell;have f2:=x2.frozen;have c3:=x3.cell;have f3:=x3.frozen;clear hb hb2 x2 x3)
 have d2:=(Ca (X2.out.set (.slice none 0 0)) (b:=w.heap.size+1+1) jO (.int .i64 13)).cell;have d3:=((Ca X3.out (b:=w.heap.size+1) jO (.slice none 0 0)).set (.int .i64 13)).cell;refine ⟨.tuple #[.slice none 0 0,.int .i64 13],?_,Qv ((HB2.out.setCell (p:=⟨w.heap.size+1,0,none⟩) (by show w.heap.size<=w.heap.size+1;omega) _).setCell (p:=⟨w.heap.size+1+1,0,none⟩) (by show w.heap.size<=w.heap.size+1+1;omega) _)⟩;simp [results,results128,go_sem,d2,d3]
def A42 (w:World) (B N:Nat) (pre:List (List UInt8)) (W:World):Prop :=
 (∃ v,Go.Boxed W B 120 v/\W.ownsRow N 9 1 v pre.length (pre.map J9))/\Go.Boxed W (w.heap.size+1) 120 (.slice none 0 0)/\Go.Boxed W (w.heap.size+1+1) 77 (.int .i64 0)
theorem Cv {W W':World} {row:Option Nat} {B:Nat} {t:TypeId} {v:Value} (h:Go.Boxed W B t v) (hg:W.grownBy W' row) (hr:∀ r,row=some r->∃ o:Obj,W.heap[r]? = some o/\o.isCells=false):Go.Boxed W' B t v :=
 h.kept hg (λe=>by obtain ⟨o,ho,hc⟩:=hr B e.symm;rw [show W.heap[B]? = _ from h] at ho;cases ho;cases hc)
theorem Avu (w:World) (B N:Nat):Own (A42 w B N):=λs X Y row hs hg hr =>
 ⟨by
  obtain ⟨v,h1,h2,-⟩:=holdsRow_own N B 120 9 1 (λpre:List (List UInt8)=>pre.length) (λpre=>pre.map J9) (λ_ _=>True) s X Y row (by obtain ⟨⟨v,h1,h2⟩,-⟩:=hs;exact ⟨v,h1,h2,trivial⟩) hg hr;exact ⟨v,h1,h2⟩,Cv hs.2.1 hg hr,Cv hs.2.2 hg hr⟩
def Axf (w:World) (W:World):Prop:=Go.Boxed W (w.heap.size+1) 120 (.slice none 0 0)/\Go.Boxed W (w.heap.size+1+1) 77 (.int .i64 2)
theorem Anu {β:Type} (w:World):Own (λ(_:β) W=>Axf w W):=λ_ _ _ _ hs hg hr=>⟨Cv hs.1 hg hr,Cv hs.2 hg hr⟩
theorem Agf (W:World) (x:Value) (t:TypeId):∀ j u,[x][j]? = some u->(W.alloc (.cells #[x] t)).cell? ((⟨W.heap.size,0,none⟩:Addr).add j)=some u:=by
 intro j u hj;have e:(⟨W.heap.size,0,none⟩:Addr).add j=⟨W.heap.size,j,none⟩:=by unfold Addr.add;split<;>simp_all
 have hj':j<1:=(List.getElem?_eq_some_iff.1 hj).1;rw [e,World.cell?_alloc_at _ _ _ _ jS];rw [<- hj];obtain rfl:j=0:=jO
 rfl
theorem U9 {W:World} {N b k:Nat} {v x:Value} {xs:List Value} (h:W.ownsRow N 9 1 v k xs) (hb:b<N):(W.setCell ⟨b,0,none⟩ x).ownsRow N 9 1 v k xs:=by
 refine h.kept (grownBy_setCell' W b x) ?_;rcases h.2 with ⟨rfl,_⟩ | ⟨g,cap,cur,rfl,hg,_⟩
 ·exact .inl rfl
 ·refine .inr (λe=>?_);obtain rfl:g=b:=by simpa [Value.ownBlock] using e
  omega
theorem Ajo (t:Value) (s:ByteArray) (w:World) (hT:Table w t) {m:List Nat} (hf:Folds s m) (L:List Int) (hL:Fold.fold (ints m)=L) (hR:Ae L=true) (hlen:L.length<=1000) (h0:Ah L ≠ []) :
  Calls prog 128 #[t,.string s] w (Jl (if 32<(Dom.cut L).length then (2,[]) else (0,Dom.cut L)) w):=by
 have KF:=jH (λW (h:Below w.heap.size w W)=>Yr t s W (hT.below h) hf);rw [hL] at KF;clear hf hL;obtain ⟨b0,b1,b2,b3,rfl,-,-,-,-⟩:=hT;have hXe:(Ah L).isEmpty=false:=by rw [List.isEmpty_eq_false_iff];exact h0
 obtain ⟨X,hX⟩:∃ X,X=Ah L:=⟨_,rfl⟩
 rw [<- hX] at KF hXe;clear h0;obtain ⟨P,hP⟩:∃ P,P=(if 32<(Dom.cut L).length then ((2:Int),([]:List (List Int))) else (0,Dom.cut L)):=⟨_,rfl⟩
 rw [<- hP];have HP:=jH hP;have HX:=jH hX;have HR:=jH hR;have HL:=jH hlen;clear hP hX hR hlen;refine (callsIn_wide (n:=5)).1 ?_;refine callsIn_of_wp_marks func128 rfl trivial ?_ rfl;simp only [ntmps128,List.size_toArray,jac,List.length_nil,Nat.reduceAdd,Nat.reduceSub,Array.replicate_succ,Array.replicate_zero,List.push_toArray,List.append_toArray,List.nil_append,jah]
 gi_wp2_with (first
  | (refine ⟨trivial,?_⟩;gi_at_call 152;refine (callsIn_wide.2 (KF.out _ (Dh _ _ _ _))).mono ?_;rintro e w2 ⟨rfl,hb⟩;obtain ⟨hb2,x2,x3⟩:=Vg hb;have HB2:=jH hb2;have X2:=jH x2;have X3:=jH x3;clear hb hb2 x2 x3)
  | (refine ⟨trivial,?_⟩;gi_at_call 153;refine (Am0 _ _ _).mono ?_;rintro e w' ⟨rfl,rfl⟩))
 have X2':=(X2.out.alloc (.cells #[.slice none 0 0] 120)).alloc (.cells #[.string ⟨X.toArray⟩] 9);have X3':=(X3.out.alloc (.cells #[.slice none 0 0] 120)).alloc (.cells #[.string ⟨X.toArray⟩] 9);have Y8:=(Go.Boxed.new w2 120 (.slice none 0 0)).alloc (.cells #[.string ⟨X.toArray⟩] 9);have YX:=(Go.Boxed.new (w2.alloc (.cells #[.slice none 0 0] 120)) 9 (.string ⟨X.toArray⟩)).cell;have hlt2:=X3.out.lt;have hBW:Below w.heap.size w ((w2.alloc (.cells #[.slice none 0 0] 120)).alloc (.cells #[.string ⟨X.toArray⟩] 9)):=Ap (Ap HB2.out (jaa _) _) (jaa _) _;rw [World.size_alloc] at YX;obtain ⟨W0,hW0⟩:∃ W0,W0=((w2.alloc (.cells #[.slice none 0 0] 120)).alloc (.cells #[.string ⟨X.toArray⟩] 9)):=⟨_,rfl⟩
 have hS:W0.heap.size=w2.heap.size+1+1:=by rw [hW0];simp
 rw [<- hW0] at X2' X3' Y8 YX hBW ⊢;clear hW0;rw [HX.out] at YX;have hst:=Abd 4 jO (w2.heap.size+1) L HR.out HL.out W0 jO YX;obtain ⟨i0,hi,hz0,hz1,hz2⟩:=info_parts Lh;refine wpIn_rangeFunc_ownG rfl jO (gf:=184) (lb:=#[.pointer (some ⟨w2.heap.size+1,0,none⟩)]) rfl trivial (enters_of func184 jK rfl)
  hst Atz (Aty jO) (jan _ _) (λ_=>rfl)
  (λpre W=>A42 w w2.heap.size W0.heap.size pre W/\(pre.length<=32/\W0.heap.size<=W.heap.size)/\Below w.heap.size w W)
  (λc pre W=>(c=.ret/\∃ (ini:List (List UInt8)) (x:List UInt8),pre=ini ++ [x]/\ini.length=32)/\Axf w W/\Below w.heap.size w W)
  (OwnFrom.and (Own.from (Avu _ _ _) _) (OwnFrom.and (λs A B row hs hg _=>⟨hs.1,Nat.le_trans hs.2 hg.size⟩) (ownFrom_below (jaa _) jO)))
  (λc=>OwnFrom.and (λs A B row hs _ _=>hs) (OwnFrom.and (Own.from (Anu _) _) (ownFrom_below (jaa _) jO)))
  ⟨⟨⟨_,Y8,World.ownsRow_nil _ _ _ _⟩,X2',X3'⟩,⟨Nat.zero_le _,jaa _⟩,hBW⟩
  (λx=>{ tmps:=#[.agg #[.slice (some ⟨b0,0,none⟩) 74 74,.slice (some ⟨b1,0,none⟩) 10 10,.slice (some ⟨b2,0,none⟩) 11 11,.slice (some ⟨b3,0,none⟩) 42 42],.string s,.pointer (some ⟨w.heap.size,0,none⟩),undef,.pointer (some ⟨w.heap.size+1,0,none⟩),.pointer (some ⟨w.heap.size+1+1,0,none⟩),.string ⟨X.toArray⟩,.bool true,.pointer (some ⟨w2.heap.size,0,none⟩),.string ⟨x.toArray⟩,
   .tuple #[.string ⟨X.toArray⟩,.bool true],.agg #[.slice (some ⟨b0,0,none⟩) 74 74,.slice (some ⟨b1,0,none⟩) 10 10,.slice (some ⟨b2,0,none⟩) 11 11,.slice (some ⟨b3,0,none⟩) 42 42],.string s,.tuple #[.string ⟨X.toArray⟩,.bool true],.string ⟨X.toArray⟩,.bool true,.bool false,.bool true,.bool false,.bool false,.string ⟨X.toArray⟩,.bool false,.string ⟨X.toArray⟩,
   .func (.func 184) #[] #[.pointer (some ⟨w2.heap.size+1,0,none⟩)],.string ⟨x.toArray⟩,undef,undef,undef,undef,undef,undef,undef,undef],defers:=[] }) ?assign ?body ?done ?stop
 case assign =>
  intro l x W K hK
  gi_wp2
  exact hK
 case body =>
  rintro l' pre x W ⟨⟨⟨v,hv,hrow⟩,y4,y5⟩,⟨hle,hS0⟩,hB⟩ _;have Y4:=jH y4;have Y5:=jH y5;have HB:=jH hB;have hc4:=y4.cell;have hf4:=y4.frozen;have hc5:=y5.cell;have hf5:=y5.frozen;clear X2' X3' Y8 YX hBW hst y4 y5 hB;by_cases h32:pre.length=32
  ·have HI:=jH (show ∃ (ini:List (List UInt8)) (y:List UInt8),pre ++ [x]=ini ++ [y]/\ini.length=32 from ⟨pre,x,rfl,h32⟩);rw [h32] at hrow;obtain ⟨g,cap,rfl⟩:=ownsRow_succ hrow;have hc8:=hv.cell;clear hrow hle h32
   gi_wp2
   exact ⟨((KeepsOthers.setCell _ _ _).trans (KeepsOthers.setCell _ _ _)).from _,⟨rfl,HI.out⟩,⟨Ca (Y4.out.set _) jO _,(Ca Y5.out jO _).set _⟩,
    (HB.out.setCell (p:=⟨w.heap.size+1,0,none⟩) (by show w.heap.size<=w.heap.size+1;omega) _).setCell (p:=⟨w.heap.size+1+1,0,none⟩) (by show w.heap.size<=w.heap.size+1+1;omega) _⟩
  ·have hlt32:(pre.length:Int)<32:=jO
   have hne32:((pre.length:Int) == 32)=false:=by rw [beq_eq_false_iff_ne];omega
   obtain ⟨A,c,rfl,-⟩:=Ck.shape (base:=W0.heap.size) (l:=pre) hrow;have HV:=jH hv;have HROW:=jH hrow;have hc8:=hv.cell;have hsz:=hv.lt;clear h32 hv hrow
   gi_wp2_with (gi_at_builtin;refine wpListIn_append_own _ rfl _ _ 120 rfl W0.heap.size 9 i0 (.string ⟨#[]⟩) 1 16 underlying120 hi hz0 hz1 hz2 rfl jD _ _ _ rfl (HROW.out.alloc _) ⟨W.heap.size,0,none⟩ 1 1 [.string ⟨x.toArray⟩] rfl rfl (Agf _ _ _) (λu hu=>by rw [List.mem_singleton.1 hu];rfl) (by simp only [maxLen];omega) jO (by simp;omega) ?_;intro v' w1 hown' hgrow _;obtain ⟨g',cap',rfl⟩:=ownsRow_succ hown';obtain ⟨p1,p2,p3,p4,p5,p6,p7⟩:=Ao9 (Bs:=w2.heap.size+1) (B0:=w.heap.size) HV.out HROW.out hown' hgrow jO jO jO jO jO hS0;have hc1:=p1.cell;have hf1:=p1.frozen;have P2:=jH p2;have P3:=jH p3;have P4:=jH p4;have P5:=jH p5;have P6:=jH p6;have P7:=jH p7;clear p1 p2 p3 p4 p5 p6 p7 hown' hgrow)
   exact ⟨P4.out.from _,⟨⟨P4.out.size,λk o hk ho=>P4.out.same k o hk (Obj.not_cells_of_walk ho)⟩,P5.out⟩,
    ⟨⟨_,P2.out,by rw [jab,List.map_append];exact P3.out⟩,P7.out _ _ _ jD jO Y4.out,P7.out _ _ _ jD jO Y5.out⟩,⟨by rw [jab];simp only [List.length_singleton];omega,Nat.le_trans hS0 P4.out.size⟩,HB.out.trans P6.out⟩
 case done =>
  rintro D ys W hD rfl ⟨⟨⟨v,hv,hrow⟩,y4,y5⟩,⟨hle,hS0⟩,hB⟩ hK;have hc4:=y4.cell;have hf4:=y4.frozen;have hc5:=y5.cell;have hf5:=y5.frozen;obtain ⟨A,c,rfl,-⟩:=Ck.shape (base:=W0.heap.size) hrow;rw [jai] at hv hrow hle;have hc8:=hv.cell;have HROW:=jH hrow;have R:=jH (show P=(0,Dom.cut L) by rw [HP.out,if_neg jO]);clear X2' X3' Y8 YX hBW hst hrow
  gi_wp2
  have hK':=((KeepsOthers.setCell W ⟨w.heap.size+1,0,none⟩ (.slice A (Dom.cut L).length c)).trans (KeepsOthers.setCell _ ⟨w.heap.size+1+1,0,none⟩ (.int .i64 0))).same D _ hK rfl;refine ⟨by simp,.inl ⟨_,_,rfl,run_takeDeferred hK',?_⟩⟩;have e4:=(Cv (Ca (y4.set (.slice A (Dom.cut L).length c)) (b:=w.heap.size+1+1) jO (.int .i64 0)) (grownBy_putObj' _ D (.deferred none)) (λr e=>by cases e;exact ⟨_,hK',rfl⟩)).cell;have e5:=(Cv ((Ca y5 (b:=w.heap.size+1) jO (.slice A (Dom.cut L).length c)).set (.int .i64 0)) (grownBy_putObj' _ D (.deferred none)) (λr e=>by cases e;exact ⟨_,hK',rfl⟩)).cell;have hrow':=ownsRow_putObj (U9 (U9 HROW.out (b:=w.heap.size+1) (x:=.slice A (Dom.cut L).length c) jO) (b:=w.heap.size+1+1) (x:=.int .i64 0) jO) (.deferred none) hK' rfl;refine ⟨.tuple #[.slice A (Dom.cut L).length c,.int .i64 0],?_,_,?_,Ck.strs (base:=W0.heap.size) (v:=.slice A (Dom.cut L).length c) (by rw [R.out];unfold Ck;rw [jai];exact hrow'),?_⟩
  ·simp [results,results128,go_sem,e4,e5]
  ·rw [R.out]
  ·exact ((hB.setCell (p:=⟨w.heap.size+1,0,none⟩) (by show w.heap.size<=w.heap.size+1;omega) _).setCell (p:=⟨w.heap.size+1+1,0,none⟩) (by show w.heap.size<=w.heap.size+1+1;omega) _).trans (belowK_b (w:=w) (jaa _) _ D _ _ jO hK' rfl rfl)
 case stop =>
  rintro D c' pre W hD hpre ⟨⟨rfl,ini,x,rfl,h32⟩,⟨y4,y5⟩,hB⟩ hK;have R:=jH (show P=(2,[]) by
   rw [HP.out,if_pos];have:=hpre.length_le;rw [jab,jai] at this;simp only [List.length_singleton] at this;omega)
  clear X2' X3' Y8 YX hBW hst hpre
  gi_wp2
  refine ⟨by simp,.inl ⟨_,_,rfl,run_takeDeferred hK,?_⟩⟩;have e4:=(Cv y4 (grownBy_putObj' _ D (.deferred none)) (λr e=>by cases e;exact ⟨_,hK,rfl⟩)).cell;have e5:=(Cv y5 (grownBy_putObj' _ D (.deferred none)) (λr e=>by cases e;exact ⟨_,hK,rfl⟩)).cell;refine ⟨.tuple #[.slice none 0 0,.int .i64 2],?_,?_⟩
  ·simp [results,results128,go_sem,e4,e5]
  ·rw [R.out];exact Qv (hB.trans (belowK_b (w:=w) (jaa _) W D _ _ jO hK rfl rfl))
theorem An5 (t:Value) (s:ByteArray) (w:World) (hT:Table w t) (hs:Cx s):Calls prog 128 #[t,.string s] w (Jl (Dom.Cz s.data.toList) w):=by
 obtain ⟨⟨m,z⟩,hrd⟩:∃ p,Au s.data.toList=p:=⟨_,rfl⟩
 rcases (Eu hrd).2.2 with ⟨rfl,-⟩ | ⟨k,rfl,-,-⟩
 case inr =>
  have hE:Dom.Cz s.data.toList=(7,[]):=by unfold Dom.Cz;rw [hrd,if_neg (by show ¬ (k:Int)=-1;omega)]
  rw [hE];exact Ajn t s w hT hs.1 hrd
 obtain ⟨hf,hfl⟩:=hs.2 m hrd;have hE:Dom.Cz s.data.toList=if Fold.fold (ints m)=[] then (13,[]) else if 32<(Dom.cut (Fold.fold (ints m))).length then (2,[]) else (0,Dom.cut (Fold.fold (ints m))):=by unfold Dom.Cz;rw [hrd,if_pos rfl]
 obtain ⟨hr,-⟩:=Lab.Sx (s:=s.data.toList) (by rw [hrd]);rw [hrd] at hr;have hR:=El hr;rw [hE];by_cases h0:Fold.fold (ints m)=[]
 ·rw [if_pos h0];exact Af2 t s w hT hf h0
 ·rw [if_neg h0];exact Ajo t s w hT hf _ rfl hR jO (λe=>h0 (Lab.Jp hR rfl e))
end
section
open Go.RowKit Utf Go.Shelf
namespace Dom
theorem Ts {c:Nat}:∀ {l:List (List UInt8)},(∀ x ∈ l,x.length<=c)->(Cy l).length<=(c+1)*l.length
 | [],_=>Nat.zero_le _
 | [x],h=>by
  have:=h x jS;show x.length<=_;simp;omega
 | x::y::l,h=>by
  have h1:=h x jS;have h2:=Ts (l:=y::l) (λz hz=>h z (by simp [hz]));show (x ++ 46::Cy (y::l)).length<=_;rw [jab,jac,jac (a:=x),Nat.mul_succ];omega
def part (f:List Int->List UInt8) (ps:List (List Int)) (k:Nat):List (List UInt8):=(ps.take k).map f ++ List.replicate (ps.length - k) []
theorem Akv (f:List Int->List UInt8) {ps:List (List Int)} {k:Nat} (hk:k<=ps.length):(part f ps k).length=ps.length:=by unfold part;rw [jab,jai,jak,List.length_replicate];omega
theorem A0t (f:List Int->List UInt8) (ps:List (List Int)):part f ps 0=List.replicate ps.length []:=rfl
theorem Aku (f:List Int->List UInt8) (ps:List (List Int)):part f ps ps.length=ps.map f:=by unfold part;rw [List.take_length,Nat.sub_self];simp
theorem Akw (f:List Int->List UInt8) {ps:List (List Int)} {k:Nat} (hk:k<ps.length):(part f ps k).set k (f ps[k]!)=part f ps (k+1):=by
 unfold part;have hl:((ps.take k).map f).length=k:=by rw [jai,jak];omega
 rw [Awv hk,show ps.length - k=(ps.length - (k+1))+1 by omega,List.replicate_succ,List.set_append_right _ _ jO,hl,Nat.sub_self,jae,jaq];rfl
end Dom
theorem Au2 {p:List Int} (hr:Ae p=true) (hf:Fold.fold p=p) (hl:p.length<=520):Cx ⟨(Ah p).toArray⟩:=by
 have hdw:=Lab.Aiu (p.map Fold.fo);rw [jai] at hdw;exact A3v hr jO jO (by rw [hf];omega)
theorem Y9 (base g n c:Nat) (l:List (List UInt8)) (w:World) (hv:Ck base (.slice (some ⟨g,0,none⟩) n c) l w) (hn:l.length<=1000000) (hlen:(Dom.Cy l).length<=140737488355328) :
  Calls prog 131 #[.slice (some ⟨g,0,none⟩) n c] w λe w'=>e=.returned (.string ⟨(Dom.Cy l).toArray⟩)/\Below w.heap.size w w':=by
 rw [Xx] at hlen ⊢;have K:=jH (Alu base g n c l [46] w hv hn hlen);clear hv hn hlen;go_enter func131,ntmps131;go_wp2_with fail;refine K.out.mono ?_;rintro e w2 ⟨rfl,hb⟩;have HB:=jH hb;clear hb;go_wp2;go_ret;exact ⟨rfl,HB.out⟩
theorem Auk (n:Nat) (hn:n<=1000) (W:World):(Instr.makeSlice 120 (.int .i64 (n:Int)) (.int .i64 (n:Int))).run prog W=.ok (.slice (some ⟨W.heap.size,0,none⟩) n n) (W.alloc (.cells (((List.replicate n ([]:List UInt8)).map J9).toArray) 9)):=by
 obtain ⟨i0,hi,hz0,hz1,hz2⟩:=info_parts Lh;have h:=run_makeSlice (P:=prog) (w:=W) 120 9 i0 (.string ⟨#[]⟩) underlying120 hi hz0 .i64 .i64 (n:Int) (n:Int) jO (Int.le_refl _) (by rw [hz1];omega) (by rw [hz2];omega) jO;rw [h,Int.toNat_natCast,hz1,Nat.mul_one];have e:madeCells (Value.string ⟨#[]⟩).cells n=((List.replicate n ([]:List UInt8)).map J9).toArray:=by
  unfold madeCells;rw [show (Value.string ⟨#[]⟩).cells=#[Value.string ⟨#[]⟩] from rfl];apply Array.ext
  ·simp
  ·intro i h1 h2;simp [Nat.mod_one,J9]
 rw [e]
theorem Ck.apart {base base2 g n c k:Nat} {v:Value} {l m:List (List UInt8)} {w:World} (h:Ck base v l w) (h2:Ck base2 (.slice (some ⟨g,0,none⟩) n c) m w) (hne:v.ownBlock ≠ some g) (x:List UInt8):Ck base v l (w.setCell ⟨g,k,none⟩ (.string ⟨x.toArray⟩)):=by
 have hn:n=m.length:=by
  rcases h2.2 with ⟨h0,-⟩ | ⟨g',cap,cur,h0,-⟩
  · cases h0
  · injection h0
 subst hn;have hg:=(World.ownsRow.stored h2 k (.string ⟨x.toArray⟩)).2;exact World.ownsRow.kept h hg (.inr hne)
theorem Afp (t:Value) (s:ByteArray) (w:World) (hT:Table w t) (hs:Cx s):Calls prog 101 #[t,.string s] w λe w' =>
  e=.returned (.tuple #[.string ⟨(Dom.Cu s.data.toList).2.1.toArray⟩,.string ⟨(Dom.Cu s.data.toList).2.2.toArray⟩,.int .i64 (Dom.Cu s.data.toList).1])/\Below w.heap.size w w':=by
 have KL:=λW (h:Below w.heap.size w W)=>An5 t s W (hT.below h) hs;have KA:=λW (h:Below w.heap.size w W) x (hx:Cx x)=>Amq t x W (hT.below h) hx;have KU:=λW (h:Below w.heap.size w W) x (hx:Cx x)=>A2e t x W (hT.below h) hx;obtain ⟨hn32,hparts⟩:=Dom.Af3 (bs:=s.data.toList) (λm h=>(hs.2 m h).2);obtain ⟨⟨E,ps⟩,hE⟩:∃ p,Dom.Cz s.data.toList=p:=⟨_,rfl⟩
 obtain ⟨P,hP⟩:∃ P,P=Dom.Cu s.data.toList:=⟨_,rfl⟩
 rw [<- hP];unfold Dom.Cu at hP;rw [hE] at hP KL hn32 hparts;simp only at hP hn32 hparts;obtain ⟨b0,b1,b2,b3,rfl,-,-,-,-⟩:=hT;have KL:=jH KL;have KA:=jH KA;have KU:=jH KU;clear hE hs;by_cases hE0:E=0
 case neg =>
  have R:=jH (show P=(E,[],[]) by rw [hP,if_neg hE0]);have e0:(E == 0)=false:=by simpa using hE0
  clear hP hE0 hparts KA KU;go_enter func101,ntmps101;go_wp2_with fail;refine (KL.out _ (Ab _ _)).mono ?_;rintro e w2 ⟨v,rfl,hv,hb⟩;obtain ⟨A,c,rfl,-,-⟩:=hv.form;have BX:=jH (Lu hb);clear hv hb;go_wp2;go_ret3;exact ⟨by rw [R.out];rfl,BX.out.1⟩
 have HP:=jH (show P=Dom.Fy ps by rw [hP,if_pos hE0]);subst hE0;have HPA:=jH hparts;clear hP hparts;go_enter func101,ntmps101;go_wp2_with fail;refine (KL.out _ (Ab _ _)).mono ?_;rintro e w2 ⟨v,rfl,hv,hb⟩;obtain ⟨A,c,rfl,hcl,hx⟩:=hv.form;have BX:=jH (Lu hb);have HX:=jH hx;obtain ⟨n,hn⟩:∃ n,n=(ps.map Ah).length:=⟨_,rfl⟩
 rw [<- hn] at hcl ⊢;have hnp:n=ps.length:=by rw [hn,jai]
 have HN:=jH hn;have HNP:=jH hnp;rw [<- hnp] at hn32;have hmk:=Auk n jO;obtain ⟨C,hC⟩:∃ C,C=((List.replicate n ([]:List UInt8)).map J9).toArray:=⟨_,rfl⟩
 rw [<- hC] at hmk;have HC:=jH hC;clear hv hb hx hn hnp hC;go_wp2;go_region
 all_goals
  have hB0:Below w2.heap.size w2 (((w2.alloc (.cells C 9)).alloc (.cells C 9)).drew):=(Ap (Ab _ _) (jaa _) _).drew;have hOA:Ck w2.heap.size (.slice (some ⟨w2.heap.size,0,none⟩) n n) (List.replicate n []) (((w2.alloc (.cells C 9)).alloc (.cells C 9)).drew):=by
   have h:=Ako w2 w2.heap.size w2.heap.size rfl (jaa _) (List.replicate n []) (by rw [List.length_replicate];omega);rw [List.length_replicate,<- HC.out] at h;exact h.Ac (Ab _ _).drew
  have hOB:Ck w2.heap.size (.slice (some ⟨w2.heap.size+1,0,none⟩) n n) (List.replicate n []) (((w2.alloc (.cells C 9)).alloc (.cells C 9)).drew):=by
   have h:=Ako (w2.alloc (.cells C 9)) w2.heap.size (w2.heap.size+1) jS jS (List.replicate n []) (by rw [List.length_replicate];omega);rw [List.length_replicate,<- HC.out] at h;exact h.Ac (jan _ _).drew
  obtain ⟨W0,hW0⟩:∃ W0,W0=(((w2.alloc (.cells C 9)).alloc (.cells C 9)).drew):=⟨_,rfl⟩
  rw [<- hW0] at hB0 hOA hOB ⊢;clear hW0 hmk HC
 obtain ⟨g2,hg2⟩:∃ g,g=w2.heap.size+1:=⟨_,rfl⟩
 obtain ⟨g1,hg1⟩:∃ g,g=w2.heap.size:=⟨_,rfl⟩
 have hO1:Ck w2.heap.size (.slice (some ⟨g1,0,none⟩) n n) (List.replicate n []) W0:=by rw [hg1];exact hOA
 have hO2:Ck w2.heap.size (.slice (some ⟨g2,0,none⟩) n n) (List.replicate n []) W0:=by rw [hg2];exact hOB
 have hne:g1 ≠ g2/\w2.heap.size<=g1/\w2.heap.size<=g2:=jO
 rw [<- hg2,<- hg1];clear hg1 hg2 hOA hOB;rotate_left;obtain ⟨g1,hg1⟩:∃ g,g=w2.heap.size+1:=⟨_,rfl⟩
 obtain ⟨g2,hg2⟩:∃ g,g=w2.heap.size:=⟨_,rfl⟩
 have hO1:Ck w2.heap.size (.slice (some ⟨g1,0,none⟩) n n) (List.replicate n []) W0:=by rw [hg1];exact hOB
 have hO2:Ck w2.heap.size (.slice (some ⟨g2,0,none⟩) n n) (List.replicate n []) W0:=by rw [hg2];exact hOA
 have hne:g1 ≠ g2/\w2.heap.size<=g1/\w2.heap.size<=g2:=jO
 rw [<- hg1,<- hg2];clear hg1 hg2 hOA hOB
 all_goals
  have HO:=jH (And.intro hO1 hO2);have HNE:=jH hne;have HB0:=jH hB0;have HT:=jH (λW (h:Below w2.heap.size w2 W)=>BX.out.2.below h);have HW:=jH (λW (h:Below w2.heap.size w2 W)=>Aa BX.out.1 h);clear hO1 hO2 hB0;go_wp2;go_loopg [6,10,11,29] (n+1) (λgk _ _ _ s29 wr=>∃ k:Nat,s29=.int .i64 k/\k<=n/\n - k<gk /\
   Hid (Ck w2.heap.size (.slice (some ⟨g1,0,none⟩) n n) (Dom.part Dom.Aq ps k) wr/\Ck w2.heap.size (.slice (some ⟨g2,0,none⟩) n n) (Dom.part Dom.Cs ps k) wr/\(∀ j,j<k->Dom.Dp ps[j]! = 0)/\Below w2.heap.size w2 wr))
  case atStart=>exact ⟨0,rfl,Nat.zero_le _,by omega,⟨by rw [Dom.A0t,<- HNP.out];exact HO.out.1,by rw [Dom.A0t,<- HNP.out];exact HO.out.2,λj hj=>absurd hj (Nat.not_lt_zero _),HB0.out⟩⟩
  case round =>
   obtain ⟨k,rfl,hk,hg,I⟩:=hrel;obtain ⟨hT0,hT1,hT2,hT3,hT4⟩:=HT.out wr I.out.2.2.2;by_cases hlt:k<n
   ·obtain ⟨ad,rfl,hab,hac⟩:=HX.out k (by have:=HN.out;omega);have hcell:=(I.out.2.2.2.cell (by rw [Bf];exact hab)).trans hac;have hkp:k<ps.length:=by have:=HNP.out;omega
    obtain ⟨p,hp⟩:∃ p,p=ps[k]!:=⟨_,rfl⟩
    have hge:(ps.map Ah)[k]! = Ah p:=by rw [hp,getElem!_pos _ k (by rw [jai];exact hkp),getElem!_pos ps k hkp,List.getElem_map]
    rw [hge] at hcell;obtain ⟨hpr,hpl,hpf⟩:=HPA.out p (by rw [hp,getElem!_pos ps k hkp];exact List.getElem_mem hkp);have hfit:=Au2 hpr hpf hpl;have K1:=λW (h:Below w.heap.size w W)=>KA.out W h _ hfit;have K2:=λW (h:Below w.heap.size w W)=>KU.out W h _ hfit;change ∀ W,Below w.heap.size w W->Calls _ _ _ W (λe w'=>e=.returned (.tuple #[.string ⟨(Dom.Aq p).toArray⟩,.int .i64 (Dom.Dp p)])/\Below W.heap.size W w') at K1;change ∀ W,Below w.heap.size w W->Calls _ _ _ W (λe w'=>e=.returned (.tuple #[.string ⟨(Dom.Cs p).toArray⟩,.int .i64 (Dom.Dp p)])/\Below W.heap.size W w') at K2;have hfirst:=λhe=>Dom.A0j hkp I.out.2.2.1 he;have hsetA:=Dom.Akw Dom.Aq hkp;have hsetU:=Dom.Akw Dom.Cs hkp;have hall:Dom.Dp p=0->∀ j,j<k+1->Dom.Dp ps[j]! = 0:=λh j hj=>by
     by_cases e:j=k
     ·subst e;rw [<- hp];exact h
     ·exact I.out.2.2.1 j jO
    rw [<- hp] at hfirst hsetA hsetU;have hkz:(k:Int)<(n:Int):=jO
    have hlA:=Dom.Akv Dom.Aq (Nat.le_of_lt hkp);have hlU:=Dom.Akv Dom.Cs (Nat.le_of_lt hkp);generalize Dom.Dp p=E at K1 K2 hfirst hall;generalize Dom.Aq p=a at K1 hsetA;generalize Dom.Cs p=b at K2 hsetU;have K1:=jH K1;have K2:=jH K2;have HFIRST:=jH hfirst;have HSA:=jH hsetA;have HSU:=jH hsetU;have HALL:=jH hall;have HLA:=jH (show k<(Dom.part Dom.Aq ps k).length by omega);have HLU:=jH (show k<(Dom.part Dom.Cs ps k).length by omega);clear hac hge hpr hpl hpf hfirst hsetA hsetU hall hp hkp hfit hlA hlU;have e0:E=0\/(E == 0)=false:=by by_cases h:E=0;exact .inl h;exact .inr (by simpa using h)
    have HE0:=jH e0;clear e0;have hrk:(k:Int)<(n:Int)/\n<=32:=jO
    go_wp2_with fail;refine (K1.out wr (HW.out wr I.out.2.2.2)).mono ?_;rintro e w4 ⟨rfl,hb4⟩;have o1:=I.out.1.Ac hb4;have o2:=I.out.2.1.Ac hb4;have c1:=o1.cell k HLA.out;have f1:=o1.free k;have B4:=I.out.2.2.2.trans (hb4.mono I.out.2.2.2.size);have B5:=B4.setCell (p:=⟨g1,k,none⟩) HNE.out.2.1 (.string ⟨a.toArray⟩);have O1:=jH (o1.put k a);have O2:=jH (o2.apart o1 (k:=k) (by simp only [Value.ownBlock];intro e;injection e with e;exact HNE.out.1 e.symm) a);have HB5:=jH B5;have hg1:g1<w4.heap.size:=(World.ownsRow.lt o1 g1 rfl).2;clear hcell hT0 hT1 hT2 hT3 hT4 hb4 o1 o2 B4 B5;obtain ⟨hT0,hT1,hT2,hT3,hT4⟩:=HT.out _ HB5.out;rcases HE0.out with rfl | he0
    ·have he00:((0:Int) == 0)=true:=rfl;go_wp2_with fail;refine (K2.out (w4.setCell ⟨g1,k,none⟩ (.string ⟨a.toArray⟩)) (HW.out _ HB5.out)).mono ?_;rintro e w6 ⟨rfl,hb6⟩;have o1:=O1.out.Ac hb6;have o2:=O2.out.Ac hb6;have c2:=o2.cell k HLU.out;have f2:=o2.free k;have B6:=HB5.out.trans (hb6.mono HB5.out.size);have I':=jH (show Ck w2.heap.size (.slice (some ⟨g1,0,none⟩) n n) (Dom.part Dom.Aq ps (k+1)) (w6.setCell ⟨g2,k,none⟩ (.string ⟨b.toArray⟩))/\Ck w2.heap.size (.slice (some ⟨g2,0,none⟩) n n) (Dom.part Dom.Cs ps (k+1)) (w6.setCell ⟨g2,k,none⟩ (.string ⟨b.toArray⟩))/\(∀ j,j<k+1->Dom.Dp ps[j]! = 0)/\Below w2.heap.size w2 (w6.setCell ⟨g2,k,none⟩ (.string ⟨b.toArray⟩)) from
      ⟨by rw [<- HSA.out];exact o1.apart o2 (by simp only [Value.ownBlock];intro e;injection e with e;exact HNE.out.1 e) b,by rw [<- HSU.out];exact o2.put k b,HALL.out trivial,B6.setCell (p:=⟨g2,k,none⟩) HNE.out.2.2 _⟩)
     clear hT0 hT1 hT2 hT3 hT4 hb6 o1 o2 B6 c1 f1;go_wp2;go_roundg (n - k)
     case measure=>omega
     case rel=>exact ⟨k+1,by go_num,by omega,by omega,I'.out⟩
    ·have R:=jH (show P=(E,[],[]) by rw [HP.out];exact HFIRST.out (by simpa using he0));go_wp2;go_ret3;exact ⟨by rw [R.out];rfl,HW.out _ HB5.out⟩
   ·obtain rfl:k=n:=jO
    have hkz:¬ (k:Int)<(k:Int):=jO
    have hA:Dom.part Dom.Aq ps k=ps.map Dom.Aq:=by rw [HNP.out];exact Dom.Aku _ _
    have hU:Dom.part Dom.Cs ps k=ps.map Dom.Cs:=by rw [HNP.out];exact Dom.Aku _ _
    have o1:=I.out.1;have o2:=I.out.2.1;rw [hA] at o1;rw [hU] at o2;have hzero:∀ j,j<ps.length->Dom.Dp ps[j]! = 0:=λj hj=>I.out.2.2.1 j (by have:=HNP.out;omega);have hO:=Dom.A36 (ps:=ps) hzero;have hlab:∀ q ∈ ps,(Dom.Aq q).length<=63/\(Dom.Cs q).length<=252:=λq hq=>by
     obtain ⟨j,hj,rfl⟩:=List.getElem_of_mem hq;have hz:=hzero j hj;rw [getElem!_pos ps j hj] at hz;exact Dom.At0 (HPA.out _ hq).1 hz
    have h1:=Dom.Ts (l:=ps.map Dom.Aq) (c:=63) (λx hx=>by obtain ⟨q,hq,rfl⟩:=List.mem_map.1 hx;exact (hlab q hq).1);have h2:=Dom.Ts (l:=ps.map Dom.Cs) (c:=252) (λx hx=>by obtain ⟨q,hq,rfl⟩:=List.mem_map.1 hx;exact (hlab q hq).2);rw [jai] at h1 h2;have hpn:ps.length<=32:=by have:=HNP.out;omega
    have KJ1:=Y9 w2.heap.size g1 k k _ wr o1 (by rw [jai];omega) jO;have KJ2:=λW (h:Below wr.heap.size wr W)=>Y9 w2.heap.size g2 k k _ W (o2.Ac h) (by rw [jai];omega) jO;generalize Dom.Cy (ps.map Dom.Aq)=X at hO KJ1 h1;generalize Dom.Cy (ps.map Dom.Cs)=Y at hO KJ2 h2;have HO:=jH (HP.out.trans hO);have KJ1:=jH KJ1;have KJ2:=jH KJ2;have BW:=jH (HW.out wr I.out.2.2.2);have hXl:X.length<=2048:=jO
    clear hA hU o1 o2 hzero hO hlab h1 h2 hpn;by_cases h253:253<X.length
    ·have R:=jH (show P=(5,[],[]) by rw [HO.out,if_pos h253]);have h253z:(253:Int)<(X.length:Int):=jO
     clear h253;go_wp2_with fail;refine KJ1.out.mono ?_;rintro e w4 ⟨rfl,hb4⟩;have B4:=jH (Aa BW.out hb4);clear hb4;go_wp2;go_ret3;exact ⟨by rw [R.out];rfl,B4.out⟩
    ·have R:=jH (show P=(0,X,Y) by rw [HO.out,if_neg h253]);have h253z:(X.length:Int)<=253:=jO
     clear h253;go_wp2_with fail;refine KJ1.out.mono ?_;rintro e w4 ⟨rfl,hb4⟩;have HB4:=jH hb4;have B4:=jH (Aa BW.out hb4);clear hb4;go_wp2_with fail;refine (KJ2.out w4 HB4.out).mono ?_;rintro e w5 ⟨rfl,hb5⟩;have B5:=jH (Aa B4.out hb5);clear hb5;go_wp2;go_ret3;exact ⟨by rw [R.out];rfl,B5.out⟩
theorem Ayg (t:Value) (s:ByteArray) (w:World) (hT:Table w t) (hs:Cx s):Calls prog 74 #[t,.string s] w λe w'=>e=.returned (.tuple #[.string ⟨(Dom.Cu s.data.toList).2.1.toArray⟩,.int .i64 (Dom.Cu s.data.toList).1])/\Below w.heap.size w w':=by
 have K:=λW (h:Below w.heap.size w W)=>Afp t s W (hT.below h) hs;generalize Dom.Cu s.data.toList=P at K ⊢;have K:=jH K;obtain ⟨b0,b1,b2,b3,rfl,-,-,-,-⟩:=hT;clear hs;obtain ⟨x,a,u⟩:=P;go_enter func74,ntmps74;go_wp2_with fail;refine (K.out _ (Ab _ _)).mono ?_;rintro e w2 ⟨rfl,hb2⟩;have BX:=jH (Lu hb2);clear hb2;go_wp2;go_ret2;exact ⟨rfl,BX.out.1⟩
end
