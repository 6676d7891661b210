import Derived.Laws.CopyOwn
import Derived.Lib.Overlaps
import Derived.Lib.JoinLaws
import Derived.Deep.RegionLaw
import Derived.Test.YtipkfalbepiphaaGreatDoorPunyC
import Derived.Test.YtipkfalbepiphaaGreatDoorFoldB
set_option maxRecDepth 100000
set_option maxHeartbeats 8000000
namespace Go.Proofs.YtipkfalbepiphaaGreatDoor
open Tryz
section
open Go.RowKit Utf
def Room (g c:Nat) (l:List Int) (w:World):Prop:=∃ cur:List Value,w.heap[g]? = some (.cells cur.toArray 21 (0,0))/\cur.length=c/\l.length<=c/\cur.take l.length=l.map Ct
theorem Room.own {base g c:Nat} {l:List Int} {w:World} (h:Room g c l w) (hg:base<=g) (hc:c<=maxLen):Av base (.slice (some ⟨g,0,none⟩) l.length c) l w:=by
 obtain ⟨cur,h1,h2,h3,h4⟩:=h;exact ⟨by rw [jai,Nat.mul_one],.inr ⟨g,c,cur.toArray,rfl,hg,h1,h3,hc,by rw [Nat.mul_one];simpa using h2,by rw [Nat.mul_one];exact h4⟩⟩
theorem Room.Zm {base g c n:Nat} {l:List Int} {w:World} (h:Av base (.slice (some ⟨g,0,none⟩) n c) l w):Room g c l w/\n=l.length:=by
 rcases h.2 with ⟨h0,-⟩ | ⟨g',cap,cur,h0,h1,h2,h3,h4,h5,h6⟩
 ·cases h0
 ·injection h0 with e1 e2 e3
  injection e1 with e1
  injection e1 with e1
  subst e1 e2 e3;exact ⟨⟨cur.toList,h2,by rw [Nat.mul_one] at h5;simpa using h5,h3,by rw [Nat.mul_one] at h6;exact h6⟩,rfl⟩
theorem Room.Ac {g c:Nat} {l:List Int} {w w':World} (h:Room g c l w) (hb:w'.heap[g]? = w.heap[g]?):Room g c l w':=by
 obtain ⟨cur,h1,h2⟩:=h;exact ⟨cur,hb.trans h1,h2⟩
theorem Room.lt {g c:Nat} {l:List Int} {w:World} (h:Room g c l w):g<w.heap.size:=by
 obtain ⟨cur,h1,-⟩:=h;exact (Array.getElem?_eq_some_iff.1 h1).1
theorem Room.push {g c:Nat} {l:List Int} {w:World} (h:Room g c l w) (hc:l.length<c) (x:Int):Room g c (l ++ [x]) (w.setCells g l.length [.int .i32 x]):=by
 obtain ⟨cur,h1,h2,h3,h4⟩:=h;refine ⟨cur.set l.length (.int .i32 x),?_,by rw [List.length_set];exact h2,by rw [jab];show l.length+1<=c;omega,?_⟩
 ·show (w.setCell ⟨g,l.length,none⟩ (.int .i32 x)).heap[g]? = _;simp [World.setCell,Array.getElem?_modify,h1]
 ·rw [jab,List.map_append,List.length_singleton];rw [List.take_succ_eq_append_getElem (by rw [List.length_set];omega),List.getElem_set_self,List.take_set_of_le (jaa _),h4];rfl
theorem Room.cells {g c:Nat} {l:List Int} {w:World} (h:Room g c l w) (k:Nat) (hk:k<c):(w.cell? ⟨g,k,none⟩).isSome=true:=by
 obtain ⟨cur,h1,h2,-⟩:=h;simp [World.cell?,h1];omega
theorem Room.free {g c:Nat} {l:List Int} {w:World} (h:Room g c l w) (k:Nat):w.frozen? ⟨g,k,none⟩=false:=by
 obtain ⟨cur,h1,-⟩:=h;simp [World.frozen?,h1]
theorem Ah1 {B g:Nat} {w0 w:World} (h:Below B w0 w) (hg:B<=g) (o:Nat) (x:Value):Below B w0 (w.setCells g o [x]):=h.setCell (p:=⟨g,o,none⟩) hg x
theorem spliced {cur:List Value} {l:List Int} {c i:Nat} {x:Int} (h2:cur.length=c) (h3:l.length<c) (h4:cur.take l.length=l.map Ct) (hi:i<=l.length) :
  (splice (splice cur (i+1) ((l.drop i).map Ct)) i [Ct x]).length=c/\(splice (splice cur (i+1) ((l.drop i).map Ct)) i [Ct x]).take (l.length+1)=(l.take i ++ [x] ++ l.drop i).map Ct:=by
 have e1:(splice cur (i+1) ((l.drop i).map Ct)).length=c:=by rw [length_splice _ _ _ (by rw [jai,jaj];omega),h2]
 refine ⟨by rw [length_splice _ _ _ (by simp only [List.length_singleton];omega),e1],?_⟩;have e2:(splice cur (i+1) ((l.drop i).map Ct)).take i=(l.take i).map Ct:=by
  unfold splice;rw [List.take_append_of_le_length (by rw [jak];omega),List.take_take,Nat.min_eq_left jO,List.map_take,<- h4,List.take_take,Nat.min_eq_left hi]
 have e3:(splice cur (i+1) ((l.drop i).map Ct)).drop (i+1)=(l.drop i).map Ct ++ cur.drop (i+1+(l.length - i)):=by
  unfold splice;have:(cur.take (i+1)).length=i+1:=by rw [jak];omega
  rw [List.drop_append_of_le_length jO,List.drop_of_length_le jO,List.nil_append,jai,jaj]
 unfold splice at e2 e3 ⊢;rw [e2,List.length_singleton,e3,List.map_append,List.map_append,jaq];have hlen:((l.take i).map Ct ++ ([Ct x] ++ (l.drop i).map Ct)).length=l.length+1:=by
  rw [jab,jab,jai,jai,jak,jaj,List.length_singleton];omega
 rw [show (l.take i).map Ct ++ ([Ct x] ++ ((l.drop i).map Ct ++ cur.drop (i+1+(l.length - i))))=((l.take i).map Ct ++ ([Ct x] ++ (l.drop i).map Ct)) ++ cur.drop (i+1+(l.length - i)) by simp,List.take_left' hlen];rfl
section
variable {P:Program}
theorem Aar {ops:Array Oper} {o:Oper} {a:Act} {w:World} {K:Act->World->Prop} {Q:Exit->Act->World->Prop} {E:Prop} (hgd:o.guard=none) (d s:Operand) (dT sT:TypeId)
  (ho:o.op=.call { callee:=.builtin .copy,args:=#[d,s],argTypes:=#[dT,sT] }) (elem:TypeId) (hu:P.underlying dT=some (.slice elem)) (hsz:(P.info? elem).map (·.size)=some 1)
  (g off dLen dCap:Nat) (ad:Addr) (sLen sCap:Nat) (hd:a.eval d=.slice (some ⟨g,off,none⟩) dLen dCap) (hs:a.eval s=.slice (some ad) sLen sCap)
  (cur:List Value) (t:TypeId) (hg:w.heap[g]? = some (.cells cur.toArray t (0,0))) (cs:List Value) (hn:cs.length=Nat.min sLen dLen)
  (hsrc:∀ j v,cs[j]? = some v->w.cell? (ad.add j)=some v) (hfit:off+cs.length<=cur.length) (h1:∀ v ∈ cs,v.oneCell'=true)
  (h:∀ w',Hid (w'=w.setRow g (splice cur off cs).toArray)->K (a.put o.dst (goInt cs.length)) w') :
  if Region.wanted o (yielded ops a.tmps)=true then Oper.wp P o a w K Q else E:=by
 have hw:Region.wanted o (yielded ops a.tmps)=true:=by simp [Region.wanted,hgd]
 rw [if_pos hw];have hrun:=run_copy_row (P:=P) w dT sT o.type elem g off dLen dCap ad sLen sCap cur.toArray t cs hu hsz hg hn hsrc (by simpa using hfit) h1;unfold Oper.wp;simp [execOp,ho,resolve,invoke,builtin,hd,hs,hrun,Result.andThen];exact h _ (show _=_ by simp [splice])
end
def Aqo (base g c:Nat) (l:List Int) (w:World) (e:Ending) (w':World):Prop:=e=.returned (.slice (some ⟨g,0,none⟩) l.length c)/\Room g c l w'/\Below base w w'
theorem Anx (base g c vb:Nat) (l:List Int) (x:Int) (w:World) (hr:Room g c l w) (hc:l.length<c) (hb:base<=g) (hv:w.heap[vb]? = some (.cells #[.int .i32 x] 21 (0,0))) :
  Calls prog 266 #[.slice (some ⟨g,0,none⟩) l.length c,.int .i64 l.length,.slice (some ⟨vb,0,none⟩) 1 1] w (Aqo base g c (l ++ [x]) w):=by
 have hsrc:Src prog 1 157 (.slice (some ⟨vb,0,none⟩) 1 1) 1 [.int .i32 x] w:=Src.ofSlice w underlying157 ⟨vb,0,none⟩ 1 1 [.int .i32 x] rfl (λj u hj=>by
  rw [Addr.add_lit];match j,hj with
  | 0,hj=>simp only [List.getElem?_cons_zero,Option.some.injEq] at hj;subst hj;simp [World.cell?,hv]
  | j+1,hj=>simp at hj) (λu hu=>by rw [List.mem_singleton] at hu;subst hu;rfl)
 have HR:=jH hr;have HS:=jH hsrc;have h1:∀ j,j<[Value.int .i32 x].length->(w.cell? ⟨g,0+l.length+j,none⟩).isSome=true:=λj hj=>hr.cells _ (by simp only [List.length_singleton] at hj;omega);have h2:∀ j,j<[Value.int .i32 x].length->w.frozen? ⟨g,0+l.length+j,none⟩=false:=λj _=>hr.free _;have H1:=jH h1;have H2:=jH h2;have hne:¬ c=l.length:=jO
 clear hr hsrc hv h1 h2;go_enter func266,ntmps266;go_wp2_with (at_builtin;refine wpList_append_room1 _ rfl _ _ 157 157 rfl 21 _ _ underlying157 Bt g 0 l.length c rfl _ rfl 1 [.int .i32 x] HS.out jO H1.out H2.out ?_);go_ret;refine ⟨?_,HR.out.push hc x,Ah1 (jan _ _) hb _ _⟩;rw [jab];rfl
theorem Anz (base g c vb i:Nat) (l:List Int) (x:Int) (w:World) (hr:Room g c l w) (hc:l.length<c) (hcm:c<=1000000) (hb:base<=g) (hv:w.heap[vb]? = some (.cells #[.int .i32 x] 21 (0,0))) (hvg:vb ≠ g) (hi:i<l.length) :
  Calls prog 266 #[.slice (some ⟨g,0,none⟩) l.length c,.int .i64 i,.slice (some ⟨vb,0,none⟩) 1 1] w (Aqo base g c (l.take i ++ [x] ++ l.drop i) w):=by
 obtain ⟨cur,h1,h2,h3,h4⟩:=hr;have hov:∀ lb cb,(callFunc 300 #[.slice (some ⟨vb,0,none⟩) 1 1,.slice (some ⟨g,i+1,none⟩) lb cb]).run prog w=.ok (.value (.bool false)) w:=λlb cb=>by
  rw [run_callFunc_extern func300 jK jK jK (e:=Extern.SlicesOverlaps.overlaps #[157,157] #[4]) jK,
   Lib.run_overlaps_apart w 157 4 21 underlying157 1 (λw=>by kernel_rfl) ⟨vb,0,none⟩ ⟨g,i+1,none⟩ 1 1 lb cb hvg 21 21 1 c (by simp [World.shape?,hv]) (by simp [World.shape?,h1,h2]) jO (by simp [World.frozen?,hv]) (by simp [World.frozen?,hv])]
  rfl
 have hsz:(Tryz.prog.info? 21).map (·.size)=some 1:=by kernel_rfl
 obtain ⟨N,hN⟩:∃ N,N=l.length:=⟨_,rfl⟩
 obtain ⟨Y,hY⟩:∃ Y,Y=(l.drop i).map Ct:=⟨_,rfl⟩
 have hYl:Y.length=N - i:=by rw [hY,jai,jaj,<- hN]
 have hcell:∀ j u,Y[j]? = some u->w.cell? ⟨g,i+j,none⟩=some u:=λj u hj=>by
  have hj2:j<Y.length:=(List.getElem?_eq_some_iff.1 hj).1;have h5:cur[i+j]? = some u:=by
   rw [hY,List.getElem?_map,List.getElem?_drop,<- List.getElem?_map,<- h4,List.getElem?_take_of_lt jO] at hj;exact hj
  simp [World.cell?,h1,h5]
 have h1Y:∀ u ∈ Y,u.oneCell'=true:=by rw [hY];exact Ad1 _
 have hsp:=spliced (x:=x) h2 hc h4 (Nat.le_of_lt hi);rw [<- hY,<- hN] at hsp;rw [<- hN] at hc hi h3 h4 ⊢;obtain ⟨R,hR⟩:∃ R,R=l.take i ++ [x] ++ l.drop i:=⟨_,rfl⟩
 rw [<- hR] at hsp ⊢;have HRR:=jH hR;clear hR;have H1:=jH h1;have HV:=jH hv;have HCELL:=jH hcell;have H1Y:=jH h1Y;have HYL:=jH hYl;have HSP:=jH hsp;have HNN:=jH hN;have HB:=jH hb;have hb2:¬ c=i+1:=jO
 have hb4:¬ c=i:=jO
 have hne:¬ (i:Int)=(N:Int):=jO
 have hle1:i<=N:=jO
 have hle2:(0:Int)<=(i:Int)+1:=jO
 have hle3:(i:Int)<=(N:Int)+1:=jO
 have hw1:IntKind.i64.wrap ((i:Int)+1)=(i:Int)+1:=by rw [IntKind.wrap_i64];omega
 have htn:((i:Int)+1).toNat=i+1:=jO
 clear h1 hv hcell h1Y hYl hsp hN hb hY h4;go_enter func266,ntmps266;go_wp2_with (simp only [hov]);have hmin:Y.length=Nat.min (N+1 - i) (N - i):=by
  have:=HYL.out;simp only [Nat.min_def];split<;>omega
 have HMIN:=jH hmin;have hfit:i+1+Y.length<=cur.length:=by rw [HYL.out,h2];omega
 have HFIT:=jH hfit;have HSRC:=jH (show ∀ j v,Y[j]? = some v->w.drew.cell? ((⟨g,i,none⟩:Addr).add j)=some v from λj v hj=>by rw [Addr.add_lit];exact HCELL.out j v hj);clear hmin hfit;go_region_law (refine Aar rfl (.tmp 73) (.tmp 76) 157 157 rfl 21 underlying157 hsz g (i+1) (N - i) (c - (i+1)) ⟨g,i,none⟩ (N+1 - i) (c - i) (by simp [Act.eval,Act.put]) (by simp [Act.eval,Act.put]) cur 21 H1.out Y HMIN.out HSRC.out HFIT.out H1Y.out ?_;intro w4 hw4)
 have G4:Hid (w4.heap[g]? = some (.cells (splice cur (i+1) Y).toArray 21 (0,0))):=by rw [hw4.out];exact setRow_heap w.drew g _ _ _ _ H1.out
 have V4:w4.heap[vb]? = some (.cells #[.int .i32 x] 21 (0,0)):=by rw [hw4.out,setRow_other _ _ _ _ hvg];exact HV.out
 have B4:Hid (Below base w w4):=by rw [hw4.out];exact below_setRow (jan _ _).drew HB.out _
 have P4:Hid (0<[Ct x].length->(some (⟨g,i,none⟩:Addr)=some ⟨g,i,none⟩)/\∃ ad,some (⟨vb,0,none⟩:Addr)=some ad/\∀ j v,[Ct x][j]? = some v->w4.cell? (ad.add j)=some v):=λ_=>⟨rfl,⟨vb,0,none⟩,rfl,λj v hj=>by
  rw [Addr.add_lit];match j,hj with
  | 0,hj=>simp only [List.getElem?_cons_zero,Option.some.injEq] at hj;subst hj;simp [World.cell?,V4,Ct]
  | j+1,hj=>simp at hj⟩
 have F4:Hid (i+[Ct x].length<=(splice cur (i+1) Y).length):=by
  rw [length_splice _ _ _ HFIT.out,h2];simp only [List.length_singleton];exact (show i+1<=c by omega)
 have M4:Hid ([Ct x].length=Nat.min 1 (N+1 - i)):=by
  have e:Nat.min 1 (N+1 - i)=1:=by simp only [Nat.min_def];split<;>omega
  rw [e];exact (rfl:[Ct x].length=1)
 have O4:Hid (∀ u ∈ [Ct x],u.oneCell'=true):=λu hu=>by rw [List.mem_singleton] at hu;subst hu;rfl
 clear V4 hw4;go_wp2_with ((with_reducible refine wpList_copy_splice rfl (.tmp 80) (.tmp 81) 157 157 rfl 21 underlying157 hsz (some ⟨g,i,none⟩) (some ⟨vb,0,none⟩) (N+1 - i) (c - i) 1 1 rfl rfl g i (splice cur (i+1) Y) 21 G4.out [Ct x] M4.out P4.out F4.out O4.out base w B4.out HB.out ?_);intro w5 hg5 hb5;have HB5:=jH hb5;clear hb5);go_ret;have hln:R.length=N+1:=by
  rw [HRR.out,jab,jab,jak,jaj,List.length_singleton,<- HNN.out];omega
 refine ⟨by rw [hln];rfl,⟨splice (splice cur (i+1) Y) i [Ct x],hg5.out,HSP.out.1,by rw [hln];omega,by rw [hln];exact HSP.out.2⟩,HB5.out⟩
theorem Anw (base g c vb i L:Nat) (l l':List Int) (x:Int) (w:World) (hr:Room g c l w) (hc:L<c) (hcm:c<=1000000) (hb:base<=g) (hv:w.heap[vb]? = some (.cells #[.int .i32 x] 21 (0,0))) (hvg:vb ≠ g) (hL:L=l.length) (hi:i<=L) (hl':l'=l.take i ++ [x] ++ l.drop i) :
  Calls prog 266 #[.slice (some ⟨g,0,none⟩) L c,.int .i64 i,.slice (some ⟨vb,0,none⟩) 1 1] w λe w'=>e=.returned (.slice (some ⟨g,0,none⟩) (L+1) c)/\Room g c l' w'/\Below base w w':=by
 have hn:l'.length=L+1:=by
  rw [hl',jab,jab,jak,jaj,List.length_singleton];omega
 subst hL;by_cases h:i<l.length
 ·have K:=Anz base g c vb i l x w hr hc hcm hb hv hvg h;rw [<- hl'] at K;refine K.mono λe w' hh=>⟨?_,hh.2.1,hh.2.2⟩
  rw [hh.1,hn]
 ·obtain rfl:i=l.length:=jO
  have K:=Anx base g c vb l x w hr hc hb hv;rw [show l ++ [x]=l' by rw [hl'];simp] at K;refine K.mono λe w' hh=>⟨?_,hh.2.1,hh.2.2⟩
  rw [hh.1,hn]
end
section
open Go.RowKit Utf
namespace Utf
theorem Rz:∀ (t:List UInt8) (k:Nat),(Br t k=-1/\∀ c ∈ t,c.toNat<128)\/(0<=Br t k/\∃ c ∈ t,128<=c.toNat)
 | [],_=>.inl ⟨rfl,λc hc=>by cases hc⟩
 | b::t,k=>by
  unfold Br;by_cases h:b.toNat<128
  ·rw [if_pos h];rcases Rz t (k+1) with ⟨h1,h2⟩ | ⟨h1,c,h2,h3⟩
   ·refine .inl ⟨h1,λc hc=>?_⟩;rcases jal.1 hc with rfl | hc
    · exact h
    · exact h2 c hc
   ·exact .inr ⟨h1,c,List.mem_cons_of_mem _ h2,h3⟩
  ·rw [if_neg h];exact .inr ⟨by omega,b,by simp,by omega⟩
end Utf
namespace Puny
theorem A4x {c:UInt8} {v:Int} (h:Ng c=some v):c.toNat<128:=by
 unfold Ng valOf Ep at h;split at h
 ·omega
 ·split at h
  ·omega
  ·split at h
   · omega
   · cases h
theorem Al7 {bs:List UInt8}:Wm bs=true ↔ ∃ c ∈ bs,128<=c.toNat:=by
 unfold Wm;rw [List.any_eq_true];constructor
 ·rintro ⟨c,h1,h2⟩;exact ⟨c,h1,by have:=of_decide_eq_true h2;omega⟩
 ·rintro ⟨c,h1,h2⟩;exact ⟨c,h1,decide_eq_true jO⟩
theorem Am7 {bs:List UInt8} (h:∀ c ∈ bs.take (Bh bs),c.toNat<128):Ig bs=Ma bs.length (bs.drop (D5 bs)) 72 true (start ((bs.take (Bh bs)).map Ep)):=by
 unfold Ig;cases hw:Wm bs with
 | false=>rw [if_neg jD]
 | true =>
  rw [if_pos rfl];cases hd:Ma bs.length (bs.drop (D5 bs)) 72 true (start ((bs.take (Bh bs)).map Ep)) with
  | none=>rfl
  | some out =>
   exfalso;obtain ⟨ds,-,-,h3,-,-⟩:=Ua _ _ _ _ _ _ hd (Int.le_refl 128) (Int.le_refl 0) (λx hx=>(An x).2 (by
    obtain ⟨c,hc,rfl⟩:=List.mem_map.1 hx;have:=h c hc;unfold Ep;omega))
   have hr:∀ c ∈ bs.drop (D5 bs),c.toNat<128:=λc hc=>by
    have hm:Ng c ∈ (bs.drop (D5 bs)).map Ng:=List.mem_map.2 ⟨c,hc,rfl⟩;rw [h3] at hm;obtain ⟨v,-,hv⟩:=List.mem_map.1 hm;exact A4x hv.symm
   obtain ⟨c,hc,h8⟩:=Al7.1 hw;by_cases h0:Bh bs=0
   ·unfold D5 at hr;rw [if_pos h0,List.drop_zero] at hr;have:=hr c hc;omega
   ·unfold D5 at hr;rw [if_neg h0] at hr;rw [Aqw h0] at hc;rcases jap.1 hc with hc | hc
    ·rcases jap.1 hc with hc | hc
     · have:=h c hc;omega
     · rw [List.mem_singleton] at hc;subst hc;exact absurd h8 jD
    ·have:=hr c hc;omega
theorem As7 {bs:List UInt8} (h:∃ c ∈ bs.take (Bh bs),128<=c.toNat):Ig bs=none:=by
 obtain ⟨c,h1,h2⟩:=h;unfold Ig;rw [Al7.2 ⟨c,List.mem_of_mem_take h1,h2⟩,if_pos rfl]
theorem As8 {bs R:List UInt8} {u L m:Nat} {ro:List Int} {rn ri q d b b':Int} {f:Bool}
  (I:∃ fuel,R.length<=fuel/\Ig bs=Ma fuel R b f ⟨ro,rn,ri⟩) (hN:Io b R 36 1 0 0=some (d,u))
  (hL:L=ro.length) (hq:(ri+d) / ((L:Int)+1)=q) (hm:(ri+d) % ((L:Int)+1)=(m:Int)) (hb:b'=adapt d ((L:Int)+1) f) (hov:ri+d<=2147483647) (hR:Aj (rn+q)=true) :
  ∃ fuel,(R.drop u).length<=fuel/\Ig bs=Ma fuel (R.drop u) b' false ⟨ro.take m ++ [rn+q] ++ ro.drop m,rn+q,m+1⟩:=by
 obtain ⟨fuel,h1,h2⟩:=I;have hbd:=Xg b _ _ _ _ _ _ _ hN jD jD;cases R with
 | nil=>cases hN
 | cons x l =>
  obtain ⟨k,rfl⟩:∃ k,fuel=k+1:=⟨fuel - 1,by simp only [jac] at h1;omega⟩
  have hm1:=Int.emod_lt_of_pos (ri+d) (show (0:Int)<(L:Int)+1 by omega);have hok:Hl ⟨ro,rn,ri⟩ d=true:=by
   unfold Hl Fp;show (decide (ri+d<=2147483647) && Aj (rn+(ri+d) / ((ro.length:Int)+1)))=true;rw [<- hL,hq,hR,decide_eq_true hov];rfl
  refine ⟨k,by rw [jaj];simp only [jac] at h1 ⊢;omega,?_⟩;rw [h2,Ub hN hok];have e1:Bv ⟨ro,rn,ri⟩ d=⟨ro.take m ++ [rn+q] ++ ro.drop m,rn+q,m+1⟩:=by
   have h3:=Pk ⟨ro,rn,ri⟩ d;have h4:(Bv ⟨ro,rn,ri⟩ d).n=rn+q:=by show rn+(ri+d) / ((ro.length:Int)+1)=rn+q;rw [<- hL,hq]
   have h5:(Bv ⟨ro,rn,ri⟩ d).i=(m:Int)+1:=by show (ri+d) % ((ro.length:Int)+1)+1=m+1;rw [<- hL,hm]
   have h6:(Bv ⟨ro,rn,ri⟩ d).out=ro.take m ++ [rn+q] ++ ro.drop m:=by
    rw [h3,h4];show ro.take ((ri+d) % ((ro.length:Int)+1)).toNat ++ ((rn+q)::ro.drop ((ri+d) % ((ro.length:Int)+1)).toNat)=_;rw [<- hL,hm];simp
   cases hr:Bv ⟨ro,rn,ri⟩ d with
   | mk o n i=>rw [hr] at h4 h5 h6;simp only at h4 h5 h6;rw [h4,h5,h6]
  rw [e1,hb,hL]
theorem As9 {bs R:List UInt8} {r:Rd} {b:Int} {f:Bool} (I:∃ fuel,R.length<=fuel/\Ig bs=Ma fuel R b f r) (hR:R ≠ []) (hN:Io b R 36 1 0 0=none):Ig bs=none:=by
 obtain ⟨fuel,-,h2⟩:=I;cases R with
 | nil=>exact absurd rfl hR
 | cons x l=>rw [h2,Acv hN]
theorem Yg {bs R:List UInt8} {r:Rd} {b d:Int} {u:Nat} {f:Bool} (I:∃ fuel,R.length<=fuel/\Ig bs=Ma fuel R b f r) (hN:Io b R 36 1 0 0=some (d,u)) (ho:Hl r d=false):Ig bs=none:=by
 obtain ⟨fuel,-,h2⟩:=I;cases R with
 | nil=>cases hN
 | cons x l=>rw [h2,Aik hN ho]
theorem Aye {bs:List UInt8} {r:Rd} {b:Int} {f:Bool} (I:∃ fuel,([]:List UInt8).length<=fuel/\Ig bs=Ma fuel [] b f r):Ig bs=some r.out:=by
 obtain ⟨fuel,-,h2⟩:=I;rw [h2];cases fuel<;>rfl
end Puny
structure Az (g:Nat) (w w':World):Prop where
 os:w'.os=w.os
 tape:w'.tape=w.tape
 output:w'.output=w.output
 size:w.heap.size<=w'.heap.size
 block:∀ k,k<w.heap.size->k ≠ g->w'.heap[k]? = w.heap[k]?
theorem Az.refl (g:Nat) (w:World):Az g w w:=⟨rfl,rfl,rfl,jaa _,λ_ _ _=>rfl⟩
theorem Az.trans {g:Nat} {a b c:World} (h:Az g a b) (k:Az g b c):Az g a c :=
 ⟨k.os.trans h.os,k.tape.trans h.tape,k.output.trans h.output,Nat.le_trans h.size k.size,λi hi hne=>(k.block i (jas hi h.size) hne).trans (h.block i hi hne)⟩
theorem Az.below {g:Nat} {w w':World} (h:Az g w w') {base:Nat} (hb:base<=w.heap.size) (hg:base<=g):Below base w w':=⟨h.os,h.tape,h.output,h.size,λk hk=>h.block k jO jO⟩
section
variable {P:Program}
theorem append_push (W:World) (ht:P.underlying 157=some (.slice 21)) (hi:(P.info? 21).map (λi=>(i.zero,i.size,i.bytes))=some (some (.int .i32 0),1,4)) (g c:Nat) (l:List Int) (x:Int) (hr:Room g c l W) (hc:l.length<c) (n:Nat) (hn:n=l.length) (N:Nat) (hN:N=W.heap.size)
  {ops:Array Oper} {rest:List Oper} {o:Oper} {a:Act} {Q:Exit->Act->World->Prop} (hgd:o.guard=none) (s y:Operand)
  (ho:o.op=.call { callee:=.builtin .append,args:=#[s,y],argTypes:=#[157,157] })
  (hs:a.eval s=.slice (some ⟨g,0,none⟩) n c) (hx:a.eval y=.slice (some ⟨N,0,none⟩) 1 1)
  (h:∀ w',Room g c (l ++ [x]) w'->Az g W w'->wpList P ops Q rest (a.put o.dst (.slice (some ⟨g,0,none⟩) (n+1) c)) w'):wpList P ops Q (o::rest) a (W.alloc (.cells #[.int .i32 x] 21)):=by
 subst hN hn;have hgl:=hr.lt;have hold:(W.alloc (.cells #[.int .i32 x] 21)).heap[g]? = W.heap[g]?:=heap_alloc_old W _ hgl;have hr2:=hr.Ac hold;have hnew:(W.alloc (.cells #[.int .i32 x] 21)).heap[W.heap.size]? = some (.cells #[.int .i32 x] 21 (0,0)):=heap_alloc_new W _;have hsrc:Src P 1 157 (.slice (some ⟨W.heap.size,0,none⟩) 1 1) 1 [.int .i32 x] (W.alloc (.cells #[.int .i32 x] 21)):=Src.ofSlice _ ht ⟨W.heap.size,0,none⟩ 1 1 [.int .i32 x] rfl (λj u hj=>by
  rw [Addr.add_lit];match j,hj with
  | 0,hj=>simp only [List.getElem?_cons_zero,Option.some.injEq] at hj;subst hj;unfold World.cell?;rw [hnew];rfl
  | j+1,hj=>simp at hj) (λu hu=>by rw [List.mem_singleton] at hu;subst hu;rfl)
 refine wpList_append_room1 _ hgd s y 157 157 ho 21 _ _ ht hi g 0 l.length c hs _ hx 1 [.int .i32 x] hsrc jO (λj hj=>hr2.cells _ (by simp only [List.length_singleton] at hj;omega)) (λj _=>hr2.free _) ?_;have hb:Below 0 (W.alloc (.cells #[.int .i32 x] 21)) ((W.alloc (.cells #[.int .i32 x] 21)).setCell ⟨g,0+l.length,none⟩ (.int .i32 x)):=(jan _ _).setCell (p:=⟨g,0+l.length,none⟩) (Nat.zero_le _) _;refine h _ (by rw [Nat.zero_add];exact hr2.push hc x) ⟨hb.os,hb.tape,hb.output,?_,λk hk hne=>?_⟩
 ·have:=hb.size;simp at this;simp only [World.setCells];simp
 ·show ((W.alloc (.cells #[.int .i32 x] 21)).setCell ⟨g,0+l.length,none⟩ (.int .i32 x)).heap[k]? = _;rw [Below.heap_setCell _ _ _ _ hne];exact heap_alloc_old W _ hk
end
end
section
open Go.RowKit Utf
theorem Ov (R:ByteArray):R.data.toList.length=R.size:=by simp
theorem Alb {z:Int} (h0:1114111<z) (h1:z<=4294967295):Aj (wrap32 z)=false:=by
 have:wrap32 z<0\/1114111<wrap32 z:=by unfold wrap32;omega
 cases h:Aj (wrap32 z) with
 | false=>rfl
 | true=>have:=(An _).1 h;omega
theorem A25 {l:List Int} {o:Option (List Int)} {g c base:Nat} {w w':World} (h:o=some l) (hr:Room g c l w') (hg:base<=g) (hc:c<=1000000) (hb:Below w.heap.size w w'):Ws o w (.returned (.tuple #[.slice (some ⟨g,0,none⟩) l.length c,.bool true])) w':=by
 subst h;exact ⟨_,c,rfl,(hr.own hg (by simp only [maxLen];omega)).Nc,hb⟩
theorem Ail (s:ByteArray) (w:World) (hs:s.size<=10000) :
  Calls prog 221 #[.string s] w (Ws (Puny.Ig s.data.toList) w):=by
 have KH:=jH (Anv s w jO);obtain ⟨i0,hi0,hz0,hs0,hb0⟩:=info_parts Bt;have hby:i0.bytes*s.size<=281474976710656:=by rw [hb0];omega
 go_enter func221,ntmps221;go_wp2;refine G7 0 rfl ?_;go_wp2_with fail;refine KH.out.mono ?_;rintro e w1 ⟨hd,re,rfl,hb1,hhd,hre⟩;have B1:=jH hb1;have HHD:=jH hhd;have HRE:=jH hre;clear hb1 hhd hre KH;go_wp2_with (at_make;refine wpList_make_own _ rfl _ _ 157 rfl w.heap.size 21 i0 (.int .i32 0) 1 underlying157 hi0 hz0 hs0 _ _ _ s.size rfl rfl rfl hby (by simp only [maxLen];omega) B1.out.size ?_;intro w2 ho2 hg2);have hb2:=Uv hg2;have hgl:w1.heap.size<w2.heap.size:=(World.ownsRow.lt ho2 w1.heap.size rfl).2;have hbg:w.heap.size<=w1.heap.size:=B1.out.size;have hbw:Below w.heap.size w w2:=B1.out.trans (hb2.mono hbg);have hr2:=(Room.Zm (base:=w.heap.size) (l:=[]) ho2).1;generalize w1.heap.size=g at hgl hbg hr2 ⊢;have HR2:=jH hr2;have BW:=jH hbw;have hdl:hd.size<=s.size:=by
  have:=congrArg List.length HHD.out;rw [jak] at this;simp at this;omega
 have hrl:hd.size+re.size<=s.size:=by
  have h1:=congrArg List.length HHD.out;have h2:=congrArg List.length HRE.out;have h3:=Puny.K9 s.data.toList;have h4:=Puny.Aem s.data.toList;rw [jak] at h1;rw [jaj] at h2;unfold Puny.D5 at h2 h4;simp at h1 h2 h3 h4;split at h2<;>omega
 have K8:=Hi hd w2 jO;unfold Ao at K8;rcases Rz hd.data.toList 0 with ⟨e1,e2⟩ | ⟨e1,e2⟩
 ·rw [e1] at K8;rw [HHD.out] at e2;have HDEC:=jH (Puny.Am7 e2);have HK8:=jH K8;obtain ⟨cap,W1,hconv,hcap,h8,hb8⟩:=Ack hd w2;have H8:=jH h8;have B8:=jH hb8;obtain ⟨G8,hG8⟩:∃ G8,G8=w2.heap.size:=⟨_,rfl⟩
  rw [<- hG8] at hconv H8 hgl;have HG8:=jH hG8;clear e1 e2 K8 h8 hb8 hG8 ho2 hg2 hb2 hbw hr2 hi0 hz0 hs0 hb0 hby B1;go_wp2_with fail;refine HK8.out.mono ?_;rintro e w3 ⟨rfl,rfl⟩;go_wp2;go_loopg [6,11,30] (hd.size+1) (λgk s6 _ i wr=>∃ k:Nat,k<=hd.size/\i=.int .i64 k/\s6=.slice (some ⟨g,0,none⟩) k s.size/\hd.size - k<gk/\Hid (Room g s.size ((hd.data.toList.take k).map Puny.Ep) wr/\Az g W1 wr))
  case atStart=>exact ⟨0,Nat.zero_le _,rfl,rfl,by omega,⟨HR2.out.Ac (B8.out.block g (by rw [<- HG8.out];exact hgl)),Az.refl _ _⟩⟩
  case round =>
   obtain ⟨k,hk,rfl,rfl,hg,I⟩:=hrel;by_cases hlt:k<hd.size
   ·have hkz:(k:Int)<(hd.size:Int):=jO
    have hx:=(H8.out.2 k (by simpa using hlt)).1;have hx':wr.cell? ⟨G8,k,none⟩=_:=(World.cell?_of_block (I.out.2.block G8 H8.out.1 jO)).trans hx;obtain ⟨x,hxe⟩:∃ x,x=hd.data.toList[k]!:=⟨_,rfl⟩
    rw [<- hxe] at hx';unfold Dn at hx';have hxb:x.toNat<256:=x.toNat_lt;have hnx:(hd.data.toList.take (k+1)).map Puny.Ep=(hd.data.toList.take k).map Puny.Ep ++ [(x.toNat:Int)]:=by
     rw [List.take_succ_eq_append_getElem (by simpa using hlt),List.map_append,hxe,getElem!_pos hd.data.toList k (by simpa using hlt)];rfl
    have hle:k=((hd.data.toList.take k).map Puny.Ep).length:=by rw [jai,jak];simp;omega
    have HN:=jH hnx;have HLE:=jH hle;clear hx hxe hnx hle;go_wp2_with (at_builtin;refine append_push wr underlying157 Bt g s.size _ (x.toNat:Int) I.out.1 (by rw [<- HLE.out];omega) k HLE.out _ rfl rfl _ _ rfl rfl rfl ?_;intro w5 hr5 ho5;have HR5:=jH hr5;have HO5:=jH ho5;clear hr5 ho5);go_roundg (hd.size - k)
    case measure=>omega
    case rel=>exact ⟨k+1,by omega,by go_num,by go_num,by omega,⟨by rw [HN.out];exact HR5.out,I.out.2.trans HO5.out⟩⟩
   ·obtain rfl:k=hd.size:=jO
    have R0:Hid (Room g s.size (Puny.start ((s.data.toList.take (Puny.Bh s.data.toList)).map Puny.Ep)).out wr):=by
     have h:=I.out.1;rw [List.take_of_length_le jS,HHD.out] at h;exact h
    have hl0:hd.size=(Puny.start ((s.data.toList.take (Puny.Bh s.data.toList)).map Puny.Ep)).out.length:=by
     show hd.size=((s.data.toList.take (Puny.Bh s.data.toList)).map Puny.Ep).length;rw [<- HHD.out,jai];simp
    have HL0:=jH hl0;have B0:Hid (Below w.heap.size w wr):=BW.out.trans ((B8.out.mono BW.out.size).trans (I.out.2.below (Nat.le_trans BW.out.size B8.out.size) hbg));clear I hl0 hconv hcap;go_wp2;go_loopg [5,6,7,8,9,12,13,14,15] (s.size+1) (λgk s5 s6 s7 s8 s9 s12 _ _ _ wr=>∃ (R:ByteArray) (r:Puny.Rd) (L:Nat) (b:Int) (f:Bool),s5=.string R/\s6=.slice (some ⟨g,0,none⟩) L s.size/\s7=.int .i64 r.n/\s8=.int .i64 r.i/\s9=.int .i64 b/\s12=.bool f/\R.size<gk/\0<=r.n/\r.n<=1114111/\0<=r.i/\r.i<=L/\L+R.size<=s.size/\0<=b/\b<=5000000000 /\
     Hid (L=r.out.length/\Room g s.size r.out wr/\Below w.heap.size w wr/\∃ fuel,R.data.toList.length<=fuel/\Puny.Ig s.data.toList=Puny.Ma fuel R.data.toList b f r))
    case atStart =>
     refine ⟨re,Puny.start ((s.data.toList.take (Puny.Bh s.data.toList)).map Puny.Ep),hd.size,72,true,rfl,rfl,rfl,rfl,rfl,rfl,by omega,(show (0:Int)<=128 by decide),(show (128:Int)<=1114111 by decide),Int.le_refl _,Int.natCast_nonneg _,hrl,by decide,by decide,⟨HL0.out,R0.out,B0.out,s.data.toList.length,?_,?_⟩⟩
     ·rw [HRE.out,jaj];omega
     ·rw [HRE.out];exact HDEC.out
    case round =>
     clear R0 B0 HL0 hrl;obtain ⟨R,⟨ro,rn,ri⟩,L,b,f,rfl,rfl,rfl,rfl,rfl,rfl,hg3,hn0,hn1,hi0,hi1,hla,hb0,hb1,I⟩:=hrel;simp only at hn0 hn1 hi0 hi1 hla I;obtain ⟨i1,i2,i3,i4⟩:=I.out;have I1:=jH i1;have I2:=jH i2;have I3:=jH i3;have I4:=jH i4;clear I i1 i2 i3 i4;by_cases hlt3:0<R.size
     ·have haz:(0:Int)<(R.size:Int):=jO
      have hRne:R.data.toList ≠ []:=λe=>by
       have:=Ov R;rw [e] at this;simp only [List.length_nil] at this;omega
      have KN:=A04 R b wr jO jO;cases hN:Puny.Io b R.data.toList 36 1 0 0 with
      | none =>
       rw [hN] at KN;have HNO:=jH (Puny.As9 I4.out hRne hN);have HK:=jH KN;clear KN hN hRne;go_wp2_with fail;refine HK.out.mono ?_;rintro e w6 ⟨rfl,rfl⟩;simp only [Puny.Aot];go_wp2;go_step3;refine ⟨rfl,?_⟩;go_wp2;rw [Exit.noGoto_ret];go_ret2;exact Yh HNO.out I3.out
      | some p =>
       obtain ⟨d,u⟩:=p;rw [hN] at KN;obtain ⟨hd0,hd1,hu0,hu1⟩:=Puny.Xg b _ _ _ _ _ _ _ hN jD jD;have hu2:u<=R.size:=by simpa using hu1
       unfold Puny.Fp at hd1;have huz:((u:Int) == 0)=false:=by simp;omega
       have huR:(u:Int)<=(R.size:Int):=jO
       have HK:=jH KN;have HN:=jH hN;clear KN hN hu1 hRne;go_wp2_with fail;refine HK.out.mono ?_;rintro e w6 ⟨rfl,rfl⟩;simp only [Puny.Aot];clear HK;by_cases hov:ri+d<=2147483647
       ·have hsum:0<=ri+d:=jO
        have hq0:=Int.ediv_nonneg hsum (show (0:Int)<=(L:Int)+1 by omega);have hq1:=Int.ediv_le_self ((L:Int)+1) hsum;have hm0:=Int.emod_nonneg (ri+d) (show (L:Int)+1 ≠ 0 by omega);have hm1:=Int.emod_lt_of_pos (ri+d) (show (0:Int)<(L:Int)+1 by omega);obtain ⟨q,hq⟩:∃ q,(ri+d) / ((L:Int)+1)=q:=⟨_,rfl⟩
        obtain ⟨m,hm⟩:∃ m:Nat,(ri+d) % ((L:Int)+1)=(m:Int):=⟨((ri+d) % ((L:Int)+1)).toNat,by omega⟩
        rw [hq] at hq0 hq1;rw [hm] at hm0 hm1;have hML:m<=L:=jO
        have hLz:(L:Int)<=10000:=jO
        have hqz:q<=2147483647:=jO
        have hov2:¬ 2147483647<ri+d:=jO
        have KA:=jH (Xt d ((L:Int)+1) f wr jO jO);have hab:=Puny.Ahr (delta:=d) (count:=(L:Int)+1) f jO jO;obtain ⟨b',hb'⟩:∃ b',b'=Puny.adapt d ((L:Int)+1) f:=⟨_,rfl⟩
        rw [<- hb'] at KA hab;have HB':=jH hb';clear hb';go_wp2_with fail;with_reducible refine KA.out.mono ?_
        rintro e w1 ⟨rfl,rfl⟩;clear KA;by_cases hN:rn+q<=1114111
        ·have KR:=jH (Lj (rn+q) wr);have hpos:(0:Int)<=rn+q:=jO
         go_wp2_with fail;with_reducible refine KR.out.mono ?_
         rintro e w1 ⟨rfl,rfl⟩;clear KR;cases hR:Aj (rn+q) with
         | false =>
          have HNO:=jH (Puny.Yg I4.out HN.out (by
           unfold Puny.Hl Puny.Fp;show (decide (ri+d<=2147483647) && Aj (rn+(ri+d) / ((ro.length:Int)+1)))=false;rw [<- I1.out,hq,hR,Bool.and_false]))
          clear hR;go_wp2;go_step3;refine ⟨rfl,?_⟩;go_wp2;rw [Exit.noGoto_ret];go_ret2;exact Yh HNO.out I3.out
         | true =>
          have NX:=jH (Puny.As8 I4.out HN.out I1.out hq hm HB'.out hov hR);obtain ⟨ro',hro'⟩:∃ ro',ro'=ro.take m ++ [rn+q] ++ ro.drop m:=⟨_,rfl⟩
          rw [<- hro'] at NX;have KI:=jH (Anw w.heap.size g s.size wr.heap.size m L ro ro' (rn+q) (wr.alloc (.cells #[.int .i32 (rn+q)] 21)) (I2.out.Ac (heap_alloc_old wr _ I2.out.lt)) jO jO hbg (heap_alloc_new wr _) (by have:=I2.out.lt;omega) I1.out hML hro');have HLN:=jH (show L+1=ro'.length by
           rw [hro',jab,jab,jak,jaj,List.length_singleton,<- I1.out];omega)
          have hXL:(R.extract u R.size).data.toList=R.data.toList.drop u:=extract_drop R u;have hXS:(R.extract u R.size).size=R.size - u:=by
           rw [<- Ov,hXL,jaj,Ov]
          rw [<- hXL] at NX;obtain ⟨X,hX⟩:∃ X,X=R.extract u R.size:=⟨_,rfl⟩
          rw [<- hX] at NX hXS;have HX:=jH hX;have BN:=jH I3.out;clear hR hro' hX hXL I4 HN I1 I2;go_wp2_with fail;with_reducible refine KI.out.mono ?_
          rintro e w7 ⟨rfl,hr7,hb7⟩;have HR7:=jH hr7;have HB7:=jH ((BN.out.alloc BN.out.size _).trans hb7);clear hr7 hb7 KI;go_wp2;go_roundg (R.size)
          case measure=>omega
          case rel=>exact ⟨X,⟨ro',rn+q,(m:Int)+1⟩,L+1,b',false,by rw [HX.out],rfl,rfl,rfl,rfl,rfl,by omega,hpos,hN,(by show (0:Int)<=(m:Int)+1;omega),(by show (m:Int)+1<=((L+1:Nat):Int);omega),by omega,hab.1,hab.2,⟨HLN.out,HR7.out,HB7.out,NX.out⟩⟩
        ·have KR:=jH (Lj (wrap32 (rn+q)) wr);have hN2:1114111<rn+q:=jO
         rw [Alb hN2 jO] at KR;have hR:Aj (rn+q)=false:=by
          cases h:Aj (rn+q) with
          | false=>rfl
          | true=>have:=(An _).1 h;omega
         have HNO:=jH (Puny.Yg I4.out HN.out (by
          unfold Puny.Hl Puny.Fp;show (decide (ri+d<=2147483647) && Aj (rn+(ri+d) / ((ro.length:Int)+1)))=false;rw [<- I1.out,hq,hR,Bool.and_false]))
         clear hR hN;go_wp2_with fail;with_reducible refine KR.out.mono ?_
         rintro e w1 ⟨rfl,rfl⟩;go_wp2;go_step3;refine ⟨rfl,?_⟩;go_wp2;rw [Exit.noGoto_ret];go_ret2;exact Yh HNO.out I3.out
       ·have HNO:=jH (Puny.Yg I4.out HN.out (by
         unfold Puny.Hl Puny.Fp;show (decide (ri+d<=2147483647) && _)=false;rw [decide_eq_false hov,Bool.false_and]))
        have hov2:2147483647<ri+d:=jO
        clear hov;go_wp2;go_step3;refine ⟨rfl,?_⟩;go_wp2;rw [Exit.noGoto_ret];go_ret2;exact Yh HNO.out I3.out
     ·have hz:R.data.toList=[]:=List.eq_nil_of_length_eq_zero (by rw [Ov];omega);have HY:=jH (show Puny.Ig s.data.toList=some ro by
       have h:=I4.out;rw [hz] at h;exact Puny.Aye h)
      clear hz;go_wp2;rw [Sg];go_ret2;have hl:=I1.out;subst hl;exact A25 HY.out I2.out hbg jO I3.out
 ·have HNO:=jH (Puny.As7 (bs:=s.data.toList) (by rw [<- HHD.out];exact e2));obtain ⟨z,hz⟩:∃ z,z=Br hd.data.toList 0:=⟨_,rfl⟩
  rw [<- hz] at K8 e1;have HK8:=jH K8;clear e2 K8 hz ho2 hg2 hb2 hbw hr2 hi0 hz0 hs0 hb0 hby B1;go_wp2_with fail;refine HK8.out.mono ?_;rintro e w3 ⟨rfl,rfl⟩;go_wp2;go_step3;refine ⟨rfl,?_⟩;go_wp2;rw [Exit.noGoto_ret];go_ret2;exact Yh HNO.out BW.out
end
section
open Go.RowKit Utf
end
