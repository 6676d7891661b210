import Derived.Test.YtipkfalbepiphaaGreatDoorFindA
set_option maxRecDepth 100000
set_option maxHeartbeats 2000000
namespace Go.Proofs.YtipkfalbepiphaaGreatDoor
open Tryz
section
open Go.RowKit
def G0 (P:Program):List Oper->Act->World->Option (Act × World)
 | [],a,w=>some (a,w)
 | o::rest,a,w =>
  match o.guard with
  | some _=>none
  | none =>
   match (execOp a.eval o).run P w with
   | .ok (.value v) w'=>G0 P rest (a.put o.dst v) w'
   | .ok .skip w'=>G0 P rest (a.put o.dst undef) w'
   | _=>none
theorem Ic {P:Program} {ops:Array Oper} {Q:Exit->Act->World->Prop} {a':Act} {w':World} (hQ:Q .normal a' w'):∀ (l:List Oper) (a:Act) (w:World),G0 P l a w=some (a',w')->wpList P ops Q l a w
 | [],a,w,h=>by simp only [G0,Option.some.injEq,Prod.mk.injEq] at h;obtain ⟨rfl,rfl⟩:=h;exact hQ
 | o::rest,a,w,h=>by
  unfold G0 at h;cases hg:o.guard with
  | some g=>rw [hg] at h;cases h
  | none =>
   rw [hg] at h;simp only at h;unfold wpList;rw [if_pos (by simp [Region.wanted,hg])];refine .inl ?_;unfold Oper.wp;split at h
   ·rename_i v w1 he
    rw [he];exact Ic hQ rest _ _ h
   ·rename_i w1 he
    rw [he];exact Ic hQ rest _ _ h
   ·cases h
theorem Kt {P:Program}:∀ (l m:List Oper) (a:Act) (w:World),G0 P (l ++ m) a w=(G0 P l a w).bind λp=>G0 P m p.1 p.2
 | [],m,a,w=>by simp [G0]
 | o::l,m,a,w=>by
  rw [jah,G0.eq_2,G0.eq_2];cases hg:o.guard with
  | some g=>rfl
  | none =>
   simp only;split
   · exact Kt l m _ _
   · exact Kt l m _ _
   · rfl
theorem Ke {P:Program} {f:FuncId} {fn:Func} {i0 i1:Nat} {ops0 ops1:Array Oper} {args:Array Value} {t:Tmp} {v:Value} {w w':World} {R:Ending->World->Prop}
  (hf:P.funcs[f]? = some fn) (hb:fn.body=some ((Code.region i0 ops0 false).seq ((Code.region i1 ops1 false).seq .ret))) (hr:fn.results=#[.tmp t])
  (h:((G0 P (ops0.toList ++ ops1.toList) { tmps:=args ++ Array.replicate (fn.ntmps - args.size) undef,defers:=[] } w).map λp=>(p.1.tmps.getD t undef,p.1.defers,p.2))=some (v,[],w'))
  (hR:R (.returned v) w'):Calls P f args w R:=by
 refine calls_of_wp hf hb ?_;rw [Kt] at h;cases h0:G0 P ops0.toList { tmps:=args ++ Array.replicate (fn.ntmps - args.size) undef,defers:=[] } w with
 | none=>rw [h0] at h;cases h
 | some p0 =>
  obtain ⟨a0,w0⟩:=p0;rw [h0] at h;simp only [Option.bind_some] at h;cases h1:G0 P ops1.toList a0 w0 with
  | none=>rw [h1] at h;cases h
  | some p1 =>
   obtain ⟨a1,w1⟩:=p1;rw [h1] at h;simp only [Option.map_some,Option.some.injEq,Prod.mk.injEq] at h;obtain ⟨hv,hd,rfl⟩:=h;refine wp_seq (wp_region_list (Ic ?_ _ _ _ h0));refine wp_seq (wp_region_list (Ic ?_ _ _ _ h1));exact wp_ret (bodyPost_ret (results_tmp hr _ _ _) hd (by rw [hv];exact hR))
theorem Ai4 {α:Type} [Inhabited α] {enc:α->List Value} {k:Nat} (hk:∀ x,(enc x).length=k):∀ (rows:List α) (j:Nat),j<rows.length->∀ i v,(enc rows[j]!)[i]? = some v->(rows.flatMap enc)[j*k+i]? = some v
 | [],_,h,_,_,_=>by simp at h
 | x::t,0,_,i,v,h=>by
  simp only [List.getElem!_cons_zero] at h;have hi:i<(enc x).length:=(List.getElem?_eq_some_iff.1 h).1;rw [jao,Nat.zero_mul,Nat.zero_add,List.getElem?_append_left hi];exact h
 | x::t,j+1,hj,i,v,h=>by
  simp only [List.getElem!_cons_succ] at h;rw [jao,List.getElem?_append_right (by rw [hk,Nat.add_mul];omega),hk,show (j+1)*k+i - k=j*k+i by rw [Nat.add_mul];omega];exact Ai4 hk t j (by simpa using hj) i v h
theorem Si {α:Type} [Inhabited α] {enc:α->List Value} {k:Nat} (hk:∀ x,(enc x).length=k) (rows:List α) (w:World) (T:TypeId):Ko enc k rows w.heap.size (w.alloc (.cells (rows.flatMap enc).toArray T)) :=
 ⟨by simp,λj hj i v hv=>by
  rw [World.cell?_alloc_at _ _ _ _ rfl,List.getElem?_toArray];exact Ai4 hk rows j hj i v hv⟩
theorem Ko.set {α:Type} [Inhabited α] {enc:α->List Value} {k:Nat} {rows:List α} {b S:Nat} {w:World} (h:Ko enc k rows b w) (hne:S ≠ b) (o:Nat) (u:Value):Ko enc k rows b (w.setCell ⟨S,o,none⟩ u) :=
 ⟨by simpa [World.setCell] using h.1,λj hj i v hv=>(World.cell?_of_block (a:=⟨b,j*k+i,none⟩) (Below.heap_setCell w ⟨S,o,none⟩ u b (Ne.symm hne))).trans (h.2 j hj i v hv)⟩
def Wt {α:Type} [Inhabited α] (enc:α->List Value) (k n:Nat) (rows:List α) (w:World) (e:Ending) (w':World):Prop :=
 ∃ b,e=.returned (.slice (some ⟨b,0,none⟩) n n)/\w.heap.size<=b/\Ko enc k rows b w'/\Below w.heap.size w w'
theorem A63 (w:World):Calls prog 16 #[] w (Wt Ld 6 74 ranges w) :=
 Ke (t:=0) (v:=.slice (some ⟨w.heap.size,0,none⟩) 74 74) (w':=w.alloc (.cells (ranges.flatMap Ld).toArray 66)) func16 rfl rfl jK
  ⟨_,rfl,jaa _,Si (enc:=Ld) (k:=6) (λ_=>rfl) ranges w _,(jan _ _).alloc (jaa _) _⟩
theorem A61 (w:World):Calls prog 17 #[] w (Wt R6 4 10 Hv w) :=
 Ke (t:=0) (v:=.slice (some ⟨w.heap.size,0,none⟩) 10 10) (w':=w.alloc (.cells (Hv.flatMap R6).toArray 68)) func17 rfl rfl jK
  ⟨_,rfl,jaa _,Si (enc:=R6) (k:=4) (λ_=>rfl) Hv w _,(jan _ _).alloc (jaa _) _⟩
theorem A62 (w:World):Calls prog 18 #[] w (Wt R7 3 11 lowers w) :=
 Ke (t:=0) (v:=.slice (some ⟨w.heap.size,0,none⟩) 11 11) (w':=w.alloc (.cells (lowers.flatMap R7).toArray 70)) func18 rfl rfl jK
  ⟨_,rfl,jaa _,Si (enc:=R7) (k:=3) (λ_=>rfl) lowers w _,(jan _ _).alloc (jaa _) _⟩
theorem A64 (w:World):Calls prog 19 #[] w (Wt Gi 5 42 splits w) :=
 Ke (t:=0) (v:=.slice (some ⟨w.heap.size,0,none⟩) 42 42) (w':=w.alloc (.cells (splits.flatMap Gi).toArray 72)) func19 rfl rfl jK
  ⟨_,rfl,jaa _,Si (enc:=Gi) (k:=5) (λ_=>rfl) splits w _,(jan _ _).alloc (jaa _) _⟩
def Table (w:World) (t:Value):Prop :=
 ∃
  b0 b1 b2 b3,t=.agg #[.slice (some ⟨b0,0,none⟩) 74 74,.slice (some ⟨b1,0,none⟩) 10 10,.slice (some ⟨b2,0,none⟩) 11 11,.slice (some ⟨b3,0,none⟩) 42 42] /\
  Ko Ld 6 ranges b0 w/\Ko R6 4 Hv b1 w/\Ko R7 3 lowers b2 w/\Ko Gi 5 splits b3 w
theorem Table.below {w w':World} {t:Value} (h:Table w t) (hb:Below w.heap.size w w'):Table w' t:=by
 obtain ⟨b0,b1,b2,b3,rfl,h0,h1,h2,h3⟩:=h;exact ⟨b0,b1,b2,b3,rfl,h0.below hb,h1.below hb,h2.below hb,h3.below hb⟩
def A2n (w:World) (e:Ending) (w':World):Prop:=∃ t,e=.returned t/\Table w' t/\Below w.heap.size w w'
theorem Xe (w:World):Calls prog 8 #[] w (A2n w):=by
 go_enter func8,ntmps8;go_wp2_with fail;refine (A63 _).mono ?_;rintro e w1 ⟨b0,rfl,n0,l0,hb0⟩;have L0:=jH l0;have N0:=jH n0;have B0:=jH hb0;clear l0 n0 hb0;go_wp2_with fail;refine (A61 _).mono ?_;rintro e w2 ⟨b1,rfl,n1,l1,hb1⟩;have L1:=jH l1;have N1:=jH n1;have B1:=jH hb1;clear l1 n1 hb1;go_wp2_with fail;refine (A62 _).mono ?_;rintro e w3 ⟨b2,rfl,n2,l2,hb2⟩;have L2:=jH l2;have N2:=jH n2;have B2:=jH hb2;clear l2 n2 hb2;go_wp2_with fail;refine (A64 _).mono ?_;rintro e w4 ⟨b3,rfl,n3,l3,hb3⟩;have L3:=jH l3;have N3:=jH n3;have B3:=jH hb3;clear l3 n3 hb3;have hb:Below (w.alloc (.cells #[.slice none 0 0,.slice none 0 0,.slice none 0 0,.slice none 0 0] 35)).heap.size (w.alloc (.cells #[.slice none 0 0,.slice none 0 0,.slice none 0 0,.slice none 0 0] 35)) w4 :=
  B0.out.trans ((B1.out.mono B0.out.size).trans ((B2.out.mono (Nat.le_trans B0.out.size B1.out.size)).trans (B3.out.mono (Nat.le_trans B0.out.size (Nat.le_trans B1.out.size B2.out.size)))))
 have hc:∀ i,w4.cell? ⟨w.heap.size,i,none⟩=(w.alloc (.cells #[.slice none 0 0,.slice none 0 0,.slice none 0 0,.slice none 0 0] 35)).cell? ⟨w.heap.size,i,none⟩:=λi=>hb.cell (p:=⟨w.heap.size,i,none⟩) (show w.heap.size<_ by simp);have d0:=(hc 0).trans (show _=some (.slice none 0 0) by simp);have d1:=(hc 1).trans (show _=some (.slice none 0 0) by simp);have d2:=(hc 2).trans (show _=some (.slice none 0 0) by simp);have d3:=(hc 3).trans (show _=some (.slice none 0 0) by simp);have fz:∀ i,w4.frozen? ⟨w.heap.size,i,none⟩=false:=λi=>(hb.frozen (p:=⟨w.heap.size,i,none⟩) (show w.heap.size<_ by simp)).trans jS;have HB:=jH (show Below w.heap.size w w4 from ((jan _ w).alloc (jaa _) _).trans (hb.mono jS));have HT:=jH (show Table w4 (.agg #[.slice (some ⟨b0,0,none⟩) 74 74,.slice (some ⟨b1,0,none⟩) 10 10,.slice (some ⟨b2,0,none⟩) 11 11,.slice (some ⟨b3,0,none⟩) 42 42]) from
  ⟨b0,b1,b2,b3,rfl,((L0.out.below B1.out).below B2.out).below B3.out,(L1.out.below B2.out).below B3.out,L2.out.below B3.out,L3.out⟩)
 have hlt:w.heap.size<w4.heap.size:=by have:=hb.size;simp at this;omega
 have hne:w.heap.size ≠ b0/\w.heap.size ≠ b1/\w.heap.size ≠ b2/\w.heap.size ≠ b3:=by
  have:=B0.out.size;have:=B1.out.size;have:=B2.out.size;have:=N0.out;have:=N1.out;have:=N2.out;have:=N3.out;simp at *;omega
 have NE:=jH hne;clear hb hc hne;go_wp2;refine bodyPost_ret (v:=.agg #[.slice (some ⟨b0,0,none⟩) 74 74,.slice (some ⟨b1,0,none⟩) 10 10,.slice (some ⟨b2,0,none⟩) 11 11,.slice (some ⟨b3,0,none⟩) 42 42]) (by simp [results,results8,go_sem,d0,d1,d2,d3]) rfl ⟨_,rfl,?_,?_⟩
 ·obtain ⟨n0,n1,n2,n3⟩:=NE.out;obtain ⟨c0,c1,c2,c3,hc,l0,l1,l2,l3⟩:=HT.out;simp only [Value.agg.injEq,Array.mk.injEq,List.cons.injEq,Value.slice.injEq,Option.some.injEq,Addr.mk.injEq,and_true] at hc;obtain ⟨rfl,rfl,rfl,rfl⟩:=hc;exact ⟨b0,b1,b2,b3,rfl,(((l0.set n0 _ _).set n0 _ _).set n0 _ _).set n0 _ _,(((l1.set n1 _ _).set n1 _ _).set n1 _ _).set n1 _ _,(((l2.set n2 _ _).set n2 _ _).set n2 _ _).set n2 _ _,(((l3.set n3 _ _).set n3 _ _).set n3 _ _).set n3 _ _⟩
 ·exact (((HB.out.setCell (p:=⟨w.heap.size,0,none⟩) (jaa _) _).setCell (p:=⟨w.heap.size,1,none⟩) (jaa _) _).setCell (p:=⟨w.heap.size,2,none⟩) (jaa _) _).setCell (p:=⟨w.heap.size,3,none⟩) (jaa _) _
end
section
open Go.RowKit
theorem Bl (w:World) (a b:Obj):Below w.heap.size w ((w.alloc a).alloc b):=((jan _ w).alloc (jaa _) _).alloc jS _
theorem Kj (t:Value) (x:Int) (w:World) (hT:Table w t) :
  Calls prog 280 #[t,.int .i32 x] w λe w'=>e=.returned (.agg (Ld ((Gx x).getD default)).toArray)/\Below w.heap.size w w':=by
 obtain ⟨b0,b1,b2,b3,rfl,l0,-,-,-⟩:=hT;unfold Gx;have hfind:=λW (h:Below w.heap.size w W)=>A52 b0 74 ranges x W rfl (l0.below h) Ak5 jO;unfold Xm at hfind;generalize Hn Rg.lo Rg.hi ranges x=o at hfind ⊢;generalize o.isSome=is at hfind;generalize o.getD default=y at hfind ⊢;obtain ⟨v0,v1,v2,v3,v4,v5⟩:=y;simp only [Ld] at hfind ⊢;have HF:=jH hfind;clear hfind l0;go_enter func280,ntmps280;go_wp2_with fail;refine (HF.out _ (Bl _ _ _)).mono ?_;rintro e w1 ⟨rfl,hb1⟩;have hz:w.heap.size+1<w1.heap.size:=by have:=hb1.size;simp at this;omega
 have hc:∀ i,w1.cell? ⟨w.heap.size+1,i,none⟩=_:=λi=>hb1.cell (p:=⟨w.heap.size+1,i,none⟩) (show w.heap.size+1<_ by simp);have d0:=(hc 0).trans (show _=some (.int .i32 0) by go_simp);have d1:=(hc 1).trans (show _=some (.int .i32 0) by go_simp);have d2:=(hc 2).trans (show _=some (.int .i64 0) by go_simp);have d3:=(hc 3).trans (show _=some (.int .i64 0) by go_simp);have d4:=(hc 4).trans (show _=some (.int .i64 0) by go_simp);have d5:=(hc 5).trans (show _=some (.int .i64 0) by go_simp);have fz:∀ i,w1.frozen? ⟨w.heap.size+1,i,none⟩=false:=λi=>(hb1.frozen (p:=⟨w.heap.size+1,i,none⟩) (show w.heap.size+1<_ by simp)).trans (by go_simp);have HB:=jH ((Bl _ _ _).trans (hb1.mono (by simp;omega)));clear hc hb1;go_wp2;refine bodyPost_ret (v:=.agg #[.int .i32 v0,.int .i32 v1,.int .i64 v2,.int .i64 v3,.int .i64 v4,.int .i64 v5]) (by simp [results,results280,go_sem,d0,d1,d2,d3,d4,d5,hz]) rfl ⟨rfl,?_⟩;exact Ap (Wx HB.out jO _ _ _ _ _ _) (jaa _) _
theorem Aq3 (t:Value) (x:Int) (w:World) (hT:Table w t) :
  Calls prog 254 #[t,.int .i32 x] w λe w'=>e=.returned (.int .i64 (Ec x))/\Below w.heap.size w w':=by
 have hr:=λW (h:Below w.heap.size w W)=>Kj t x W (hT.below h);obtain ⟨b0,b1,b2,b3,rfl,-,-,-,-⟩:=hT;unfold Ec;generalize (Gx x).getD default=y at hr ⊢;obtain ⟨v0,v1,v2,v3,v4,v5⟩:=y;simp only [Ld] at hr ⊢;have HF:=jH hr;clear hr;have hfld:∀ w,(Instr.field 66 (.agg #[.int .i32 v0,.int .i32 v1,.int .i64 v2,.int .i64 v3,.int .i64 v4,.int .i64 v5]) 2).run prog w=.ok (.int .i64 v2) w:=λ_=>by kernel_rfl
 go_enter func254,ntmps254;go_wp2_with fail;refine (HF.out _ ((jan _ w).alloc (jaa _) _)).mono ?_;rintro e w1 ⟨rfl,hb1⟩;have HB:=jH (((jan _ w).alloc (jaa _) _).trans (hb1.mono jS));clear hb1;go_wp2;go_ret;exact ⟨rfl,HB.out⟩
theorem Xz (t:Value) (x:Int) (w:World) (hT:Table w t) :
  Calls prog 317 #[t,.int .i32 x] w λe w'=>e=.returned (.int .i64 (Cd x))/\Below w.heap.size w w':=by
 have hr:=λW (h:Below w.heap.size w W)=>Kj t x W (hT.below h);obtain ⟨b0,b1,b2,b3,rfl,-,-,-,-⟩:=hT;unfold Cd;generalize (Gx x).getD default=y at hr ⊢;obtain ⟨v0,v1,v2,v3,v4,v5⟩:=y;simp only [Ld] at hr ⊢;have HF:=jH hr;clear hr;have hfld:∀ w,(Instr.field 66 (.agg #[.int .i32 v0,.int .i32 v1,.int .i64 v2,.int .i64 v3,.int .i64 v4,.int .i64 v5]) 3).run prog w=.ok (.int .i64 v3) w:=λ_=>by kernel_rfl
 go_enter func317,ntmps317;go_wp2_with fail;refine (HF.out _ ((jan _ w).alloc (jaa _) _)).mono ?_;rintro e w1 ⟨rfl,hb1⟩;have HB:=jH (((jan _ w).alloc (jaa _) _).trans (hb1.mono jS));clear hb1;go_wp2;go_ret;exact ⟨rfl,HB.out⟩
theorem Ajg (t:Value) (x:Int) (w:World) (hT:Table w t) :
  Calls prog 352 #[t,.int .i32 x] w λe w'=>e=.returned (.int .i64 (Dt x))/\Below w.heap.size w w':=by
 have hr:=λW (h:Below w.heap.size w W)=>Kj t x W (hT.below h);obtain ⟨b0,b1,b2,b3,rfl,-,-,-,-⟩:=hT;unfold Dt;generalize (Gx x).getD default=y at hr ⊢;obtain ⟨v0,v1,v2,v3,v4,v5⟩:=y;simp only [Ld] at hr ⊢;have HF:=jH hr;clear hr;have hfld:∀ w,(Instr.field 66 (.agg #[.int .i32 v0,.int .i32 v1,.int .i64 v2,.int .i64 v3,.int .i64 v4,.int .i64 v5]) 4).run prog w=.ok (.int .i64 v4) w:=λ_=>by kernel_rfl
 go_enter func352,ntmps352;go_wp2_with fail;refine (HF.out _ ((jan _ w).alloc (jaa _) _)).mono ?_;rintro e w1 ⟨rfl,hb1⟩;have HB:=jH (((jan _ w).alloc (jaa _) _).trans (hb1.mono jS));clear hb1;go_wp2;go_ret;exact ⟨rfl,HB.out⟩
theorem Q3 (t:Value) (x:Int) (w:World) (hT:Table w t) :
  Calls prog 347 #[t,.int .i32 x] w λe w'=>e=.returned (.int .i64 (Ax x))/\Below w.heap.size w w':=by
 have hr:=λW (h:Below w.heap.size w W)=>Kj t x W (hT.below h);obtain ⟨b0,b1,b2,b3,rfl,-,-,-,-⟩:=hT;unfold Ax;generalize (Gx x).getD default=y at hr ⊢;obtain ⟨v0,v1,v2,v3,v4,v5⟩:=y;simp only [Ld] at hr ⊢;have HF:=jH hr;clear hr;have hfld:∀ w,(Instr.field 66 (.agg #[.int .i32 v0,.int .i32 v1,.int .i64 v2,.int .i64 v3,.int .i64 v4,.int .i64 v5]) 5).run prog w=.ok (.int .i64 v5) w:=λ_=>by kernel_rfl
 go_enter func347,ntmps347;go_wp2_with fail;refine (HF.out _ ((jan _ w).alloc (jaa _) _)).mono ?_;rintro e w1 ⟨rfl,hb1⟩;have HB:=jH (((jan _ w).alloc (jaa _) _).trans (hb1.mono jS));clear hb1;go_wp2;go_ret;exact ⟨rfl,HB.out⟩
theorem Am4:∀ y ∈ Hv,0<=y.lo/\y.lo<=y.hi/\y.hi<=65535/\0<=y.cls/\y.cls<=255/\0<=y.step/\y.step<=1:=by decide +kernel
theorem Aof:∀ y ∈ lowers,0<=y.lo/\y.lo<=y.hi/\y.hi<=70000/\-9000<=y.far/\y.far<=9000:=by decide +kernel
theorem Ky (t:Value) (x:Int) (w:World) (hT:Table w t) :
  Calls prog 278 #[t,.int .i32 x] w λe w'=>e=.returned (.int .i64 (Ad x))/\Below w.heap.size w w':=by
 obtain ⟨b0,b1,b2,b3,rfl,-,l1,-,-⟩:=hT;unfold Ad Afg;have hfind:=λW (h:Below w.heap.size w W)=>A50 b1 10 Hv x W rfl (l1.below h) Afh jO;unfold Xk at hfind;cases ho:Hn Cl.lo Cl.hi Hv x with
 | none =>
  rw [ho] at hfind;simp only [R6,Option.getD_none,Option.isSome_none] at hfind ⊢;have HF:=jH hfind;clear hfind l1 ho;go_enter func278,ntmps278;go_wp2_with fail;refine (HF.out _ ((jan _ w).alloc (jaa _) _)).mono ?_;rintro e w1 ⟨rfl,hb1⟩;have HB:=jH (((jan _ w).alloc (jaa _) _).trans (hb1.mono jS));clear hb1;go_wp2;go_ret;exact ⟨rfl,Ap HB.out (jaa _) _⟩
 | some y =>
  obtain ⟨hy,h1,h2⟩:=Dm ho;obtain ⟨g0,g1,g2,g3,g4,g5,g6⟩:=Am4 y hy;rw [ho] at hfind;obtain ⟨v0,v1,v2,v3⟩:=y;simp only [R6,Option.getD_some,Option.isSome_some] at hfind h1 h2 g0 g1 g2 g3 g4 g5 g6 ⊢;have HF:=jH hfind;clear hfind l1 ho hy;go_enter func278,ntmps278;go_wp2_with fail;refine (HF.out _ ((jan _ w).alloc (jaa _) _)).mono ?_;rintro e w1 ⟨rfl,hb1⟩;have HB:=jH (((jan _ w).alloc (jaa _) _).trans (hb1.mono jS));clear hb1;go_wp2;go_ret;have hm:0<=v3*(x - v0)/\v3*(x - v0)<=65535:=by
   rcases (show v3=0\/v3=1 by omega) with rfl | rfl
   · simp
   · omega
  refine ⟨?_,Ap HB.out (jaa _) _⟩;show Ending.returned (.int .i64 (wrap64 (v2+wrap64 (v3*(x - v0)))))=_;rw [IntWalk.wrap64_in (v3*(x - v0)) jO,IntWalk.wrap64_in _ jO]
theorem Aue (t:Value) (x:Int) (w:World) (hT:Table w t) :
  Calls prog 217 #[t,.int .i32 x] w λe w'=>e=.returned (.int .i32 (Fx x))/\Below w.heap.size w w':=by
 obtain ⟨b0,b1,b2,b3,rfl,-,-,l2,-⟩:=hT;unfold Fx Mn;have hfind:=λW (h:Below w.heap.size w W)=>A51 b2 11 lowers x W rfl (l2.below h) Aj2 jO;unfold Xl at hfind;cases ho:Hn Lw.lo Lw.hi lowers x with
 | none =>
  rw [ho] at hfind;simp only [R7,Option.getD_none,Option.isSome_none] at hfind ⊢;have HF:=jH hfind;clear hfind l2 ho;go_enter func217,ntmps217;go_wp2_with fail;refine (HF.out _ ((jan _ w).alloc (jaa _) _)).mono ?_;rintro e w1 ⟨rfl,hb1⟩;have HB:=jH (((jan _ w).alloc (jaa _) _).trans (hb1.mono jS));clear hb1;go_wp2;go_ret;exact ⟨rfl,Ap HB.out (jaa _) _⟩
 | some y =>
  obtain ⟨hy,h1,h2⟩:=Dm ho;obtain ⟨g0,g1,g2,g3,g4⟩:=Aof y hy;rw [ho] at hfind;obtain ⟨v0,v1,v2⟩:=y;simp only [R7,Option.getD_some,Option.isSome_some] at hfind h1 h2 g0 g1 g2 g3 g4 ⊢;have HF:=jH hfind;clear hfind l2 ho hy;go_enter func217,ntmps217;go_wp2_with fail;refine (HF.out _ ((jan _ w).alloc (jaa _) _)).mono ?_;rintro e w1 ⟨rfl,hb1⟩;have HB:=jH (((jan _ w).alloc (jaa _) _).trans (hb1.mono jS));clear hb1;go_wp2;go_ret;exact ⟨rfl,Ap HB.out (jaa _) _⟩
theorem Th (w:World) (a:Obj) {w1:World} (hb1:Below ((w.alloc a).alloc (.cells #[.int .i32 0,.int .i32 0,.int .i32 0,.bool false,.bool false] 72)).heap.size ((w.alloc a).alloc (.cells #[.int .i32 0,.int .i32 0,.int .i32 0,.bool false,.bool false] 72)) w1) :
  w.heap.size+1<w1.heap.size/\(∀ i,w1.frozen? ⟨w.heap.size+1,i,none⟩=false)/\w1.cell? ⟨w.heap.size+1,0,none⟩=some (.int .i32 0)/\w1.cell? ⟨w.heap.size+1,1,none⟩=some (.int .i32 0)/\w1.cell? ⟨w.heap.size+1,2,none⟩=some (.int .i32 0)/\w1.cell? ⟨w.heap.size+1,3,none⟩=some (.bool false)/\w1.cell? ⟨w.heap.size+1,4,none⟩=some (.bool false):=by
 have hc:∀ i,w1.cell? ⟨w.heap.size+1,i,none⟩=_:=λi=>hb1.cell (p:=⟨w.heap.size+1,i,none⟩) (show w.heap.size+1<_ by simp);exact ⟨by have:=hb1.size;simp at this;omega,λi=>(hb1.frozen (p:=⟨w.heap.size+1,i,none⟩) (show w.heap.size+1<_ by simp)).trans (by go_simp),
  (hc 0).trans (by go_simp),(hc 1).trans (by go_simp),(hc 2).trans (by go_simp),(hc 3).trans (by go_simp),(hc 4).trans (by go_simp)⟩
def Aqs (o:Option Sp) (w:World) (e:Ending) (w':World):Prop :=
 e=.returned (.tuple #[.agg (Gi (o.getD default)).toArray,.bool o.isSome])/\Below w.heap.size w w'
theorem Pl (t:Value) (x:Int) (w:World) (hT:Table w t) :
  Calls prog 246 #[t,.int .i32 x] w (Aqs (Ak x) w):=by
 obtain ⟨b0,b1,b2,b3,rfl,-,-,-,l3⟩:=hT;have hfind:=λW (h:Below w.heap.size w W)=>A53 b3 42 splits x W rfl (l3.below h) Als jO;unfold Xn at hfind;have hsp:Ak x=match Hn Sp.rune Sp.rune splits x with | some x=>some x | none=>if Bp x then some ⟨x,x - 65248,0,true,true⟩ else none:=rfl
 cases ho:Hn Sp.rune Sp.rune splits x with
 | some y =>
  rw [hsp,ho];rw [ho] at hfind;obtain ⟨v0,v1,v2,v3,v4⟩:=y;simp only [Gi,Option.getD_some,Option.isSome_some] at hfind ⊢;have HF:=jH hfind;clear hfind l3 ho hsp;go_enter func246,ntmps246;go_wp2_with fail;refine (HF.out _ (Bl _ _ _)).mono ?_;rintro e w1 ⟨rfl,hb1⟩;obtain ⟨hz,fz,d0,d1,d2,d3,d4⟩:=Th _ _ hb1;have HB:=jH ((Bl _ _ _).trans (hb1.mono (by simp;omega)));clear hb1;go_wp2;refine bodyPost_ret (v:=.tuple #[.agg #[.int .i32 v0,.int .i32 v1,.int .i32 v2,.bool v3,.bool v4],.bool true]) (by simp [results,results246,go_sem,d0,d1,d2,d3,d4,hz]) rfl ⟨rfl,?_⟩;exact Ap (Ls HB.out jO _ _ _ _ _) (jaa _) _
 | none =>
  rw [hsp,ho];rw [ho] at hfind;have hd:(default:Sp)=⟨0,0,0,false,false⟩:=rfl;simp only [Gi,Option.getD_none,Option.isSome_none,hd] at hfind ⊢;have HF:=jH hfind;clear hfind l3 ho hsp hd;by_cases h1:65281<=x
  ·by_cases h2:x<=65374
   ·rw [if_pos (by simp [Bp,h1,h2])];go_enter func246,ntmps246;go_wp2_with fail;refine (HF.out _ (Bl _ _ _)).mono ?_;rintro e w1 ⟨rfl,hb1⟩;obtain ⟨hz,fz,d0,d1,d2,d3,d4⟩:=Th _ _ hb1;have HB:=jH ((Bl _ _ _).trans (hb1.mono (by simp;omega)));clear hb1;go_wp2;refine bodyPost_ret (v:=.tuple #[.agg #[.int .i32 x,.int .i32 (x - 65248),.int .i32 0,.bool true,.bool true],.bool true]) (by simp [results,results246,go_sem,d0,d1,d2,d3,d4,hz]) rfl ⟨rfl,?_⟩;exact Ap (Ls HB.out jO _ _ _ _ _) (jaa _) _
   ·rw [if_neg (by simp [Bp,h2])];go_enter func246,ntmps246;go_wp2_with fail;refine (HF.out _ (Bl _ _ _)).mono ?_;rintro e w1 ⟨rfl,hb1⟩;obtain ⟨hz,fz,d0,d1,d2,d3,d4⟩:=Th _ _ hb1;have HB:=jH ((Bl _ _ _).trans (hb1.mono (by simp;omega)));clear hb1;go_wp2;refine bodyPost_ret (v:=.tuple #[.agg #[.int .i32 0,.int .i32 0,.int .i32 0,.bool false,.bool false],.bool false]) (by simp [results,results246,go_sem,d0,d1,d2,d3,d4,hz]) rfl ⟨rfl,?_⟩;exact Ap (Ls HB.out jO _ _ _ _ _) (jaa _) _
  ·rw [if_neg (by simp [Bp,h1])];go_enter func246,ntmps246;go_wp2_with fail;refine (HF.out _ (Bl _ _ _)).mono ?_;rintro e w1 ⟨rfl,hb1⟩;obtain ⟨hz,fz,d0,d1,d2,d3,d4⟩:=Th _ _ hb1;have HB:=jH ((Bl _ _ _).trans (hb1.mono (by simp;omega)));clear hb1;go_wp2;refine bodyPost_ret (v:=.tuple #[.agg #[.int .i32 0,.int .i32 0,.int .i32 0,.bool false,.bool false],.bool false]) (by simp [results,results246,go_sem,d0,d1,d2,d3,d4,hz]) rfl ⟨rfl,?_⟩;exact Ap (Ls HB.out jO _ _ _ _ _) (jaa _) _
end
section
open Go.RowKit
theorem Akp (ba bb:Nat) (a b:Int) (y:Sp) (W:World) (ha:W.cell? ⟨ba,0,none⟩=some (.int .i32 a)) (hb:W.cell? ⟨bb,0,none⟩=some (.int .i32 b)) (la:ba<W.heap.size) (lb:bb<W.heap.size) :
  Calls prog 327 (#[.agg (Gi y).toArray] ++ #[.pointer (some ⟨ba,0,none⟩),.pointer (some ⟨bb,0,none⟩)]) W λe w'=>e=.returned (.bool (makes a b y))/\Below W.heap.size W w':=by
 obtain ⟨v0,v1,v2,v3,v4⟩:=y;unfold makes;simp only [Gi];show Calls prog 327 #[.agg #[.int .i32 v0,.int .i32 v1,.int .i32 v2,.bool v3,.bool v4],.pointer (some ⟨ba,0,none⟩),.pointer (some ⟨bb,0,none⟩)] W _;cases v3<;>cases v4<;>cases h1:(v1 == a)<;>cases h2:(v2 == b)
 all_goals
  go_enter func327,ntmps327;go_wp2;go_ret;exact ⟨rfl,Ap (jan _ _) (jaa _) _⟩
def Asg (p:Sp->Bool) (n:Nat) (rows:List Sp) (w:World) (e:Ending) (w':World):Prop :=
 ∃ k:Nat,k<=n/\(∀ j,j<k->p rows[j]! = false)/\((k<n/\p rows[k]! = true/\e=.returned (.int .i64 k))\/(k=n/\e=.returned (.int .i64 (-1))))/\Below w.heap.size w w'
theorem Ats (g:Nat) (cb:Array Value) (b n:Nat) (rows:List Sp) (p:Sp->Bool) (w:World) (hn:n=rows.length) (hl:Ko Gi 5 rows b w) (hsz:n<4611686018427387904)
  (eg:∀ args w,(callFunc g args).run prog w=.ok (.enter g args) w)
  (hf:∀ (W:World) (y:Sp),Below w.heap.size w W->Calls prog g (#[.agg (Gi y).toArray] ++ cb) W λe w'=>e=.returned (.bool (p y))/\Below W.heap.size W w') :
  Calls prog 326 #[.slice (some ⟨b,0,none⟩) n n,.func (.func g) #[] cb] w (Asg p n rows w):=by
 have HF:=jH hf;have HL:=jH hl;have HN:=jH hn;clear hf hl hn;go_enter func326,ntmps326;go_wp2;go_loopg [5,8] n (λgg _ s8 wr=>∃ k:Nat,k<=n/\n - k<=gg/\s8=.int .i64 k/\Hid (Below w.heap.size w wr)/\Hid (∀ j,j<k->p rows[j]! = false))
 case atStart=>exact ⟨0,Nat.zero_le _,by omega,rfl,jan _ w,λj hj=>absurd hj (Nat.not_lt_zero _)⟩
 case round =>
  obtain ⟨k,hk,hg,rfl,BW,A⟩:=hrel;by_cases hlt:k<n
  ·have hkz:(k:Int)<(n:Int):=jO
   obtain ⟨e0,e1,e2,e3,e4⟩:=Ald (HL.out.below BW.out) k (by have:=HN.out;omega) rows[k]! rfl;have hcall:=HF.out wr rows[k]! BW.out;generalize hy:rows[k]! = y at e0 e1 e2 e3 e4 hcall;have HY:=jH hy;clear hy;obtain ⟨v0,v1,v2,v3,v4⟩:=y;simp only [Gi] at hcall e0 e1 e2 e3 e4;cases hp:p ⟨v0,v1,v2,v3,v4⟩ with
   | true =>
    rw [hp] at hcall;have HP:=jH hp;have HC:=jH hcall;clear hp hcall;go_wp2_with fail;refine HC.out.mono ?_;rintro e w2 ⟨rfl,hb'⟩;have HB2:=jH (BW.out.trans (hb'.mono BW.out.size));clear hb';go_wp2;go_ret;exact ⟨k,hk,A.out,.inl ⟨hlt,by rw [HY.out];exact HP.out,rfl⟩,HB2.out⟩
   | false =>
    rw [hp] at hcall;have HP:=jH hp;have HC:=jH hcall;clear hp hcall;go_wp2_with fail;refine HC.out.mono ?_;rintro e w2 ⟨rfl,hb'⟩;have HB2:=jH (BW.out.trans (hb'.mono BW.out.size));clear hb';go_wp2;go_roundg (n - (k+1))
    case measure=>omega
    case rel =>
     refine ⟨k+1,by omega,by omega,by go_num,HB2,(show Hid _ from λj hj=>?_)⟩;by_cases e:j=k
     ·subst e;rw [HY.out];exact HP.out
     ·exact A.out j jO
  ·have hkz:¬ (k:Int)<(n:Int):=jO
   go_wp2;go_ret;exact ⟨k,hk,A.out,.inr ⟨by omega,rfl⟩,BW.out⟩
theorem R9 {α:Type} [Inhabited α] (p:α->Bool):∀ (l:List α) (k:Nat),k<l.length->(∀ j,j<k->p l[j]! = false)->p l[k]! = true->l.find? p=some l[k]!
 | [],_,h,_,_=>by simp at h
 | x::t,0,_,_,h=>by simp only [List.getElem!_cons_zero] at h ⊢;simp [h]
 | x::t,k+1,hk,h0,h1=>by
  have hx:=h0 0 jO;simp only [List.getElem!_cons_zero,List.getElem!_cons_succ] at hx h1 ⊢;rw [List.find?_cons_of_neg (by simp [hx])];exact R9 p t k (by simpa using hk) (λj hj=>by have:=h0 (j+1) jO;simpa using this) h1
theorem Ug {α:Type} [Inhabited α] (p:α->Bool):∀ (l:List α),(∀ j,j<l.length->p l[j]! = false)->l.find? p=none
 | [],_=>rfl
 | x::t,h=>by
  have hx:=h 0 jS;simp only [List.getElem!_cons_zero] at hx;rw [List.find?_cons_of_neg (by simp [hx])];exact Ug p t (λj hj=>by have:=h (j+1) (by simpa using hj);simpa using this)
def Ab8 (o:Option Int) (w:World) (e:Ending) (w':World):Prop :=
 e=.returned (.tuple #[.int .i32 (o.getD 0),.bool o.isSome])/\Below w.heap.size w w'
theorem Dh (w:World) (a b c:Obj):Below w.heap.size w (((w.alloc a).alloc b).alloc c):=(((jan _ w).alloc (jaa _) _).alloc jS _).alloc (by simp;omega) _
theorem A0o (t:Value) (a b:Int) (w:World) (hT:Table w t) :
  Calls prog 310 #[t,.int .i32 a,.int .i32 b] w (Ab8 (Gv a b) w):=by
 obtain ⟨b0,b1,b2,b3,rfl,-,-,-,l3⟩:=hT;unfold Gv;by_cases hb0:b=0
 ·rw [if_pos hb0];subst hb0;clear l3;go_enter func310,ntmps310;go_wp2;go_ret2;exact ⟨rfl,Dh _ _ _ _⟩
 ·rw [if_neg hb0];have hbb:(b == 0)=false:=by simpa using hb0
  obtain ⟨W0,hW0⟩:∃ W0,W0=((w.alloc (.cells #[.slice (some ⟨b0,0,none⟩) 74 74,.slice (some ⟨b1,0,none⟩) 10 10,.slice (some ⟨b2,0,none⟩) 11 11,.slice (some ⟨b3,0,none⟩) 42 42] 35)).alloc (.cells #[.int .i32 a] 21)).alloc (.cells #[.int .i32 b] 21):=⟨_,rfl⟩
  have hB0:Below w.heap.size w W0:=by rw [hW0];exact Dh _ _ _ _
  have hS:W0.heap.size=w.heap.size+1+1+1:=by rw [hW0];simp
  have c0:W0.cell? ⟨w.heap.size,3,none⟩=some (.slice (some ⟨b3,0,none⟩) 42 42):=by rw [hW0];go_simp
  have c1:W0.cell? ⟨w.heap.size+1,0,none⟩=some (.int .i32 a):=by rw [hW0];go_simp
  have c2:W0.cell? ⟨w.heap.size+1+1,0,none⟩=some (.int .i32 b):=by rw [hW0];go_simp
  have eg:∀ args w,(callFunc 327 args).run prog w=.ok (.enter 327 args) w:=enters_of func327 jK rfl;have hI:=Ats 327 #[.pointer (some ⟨w.heap.size+1,0,none⟩),.pointer (some ⟨w.heap.size+1+1,0,none⟩)] b3 42 splits (makes a b) W0 rfl (l3.below hB0) jO eg
   (λW y hb=>Akp (w.heap.size+1) (w.heap.size+1+1) a b y W ((hb.cell (p:=⟨w.heap.size+1,0,none⟩) (show w.heap.size+1<W0.heap.size by omega)).trans c1) ((hb.cell (p:=⟨w.heap.size+1+1,0,none⟩) (show w.heap.size+1+1<W0.heap.size by omega)).trans c2) (by have:=hb.size;omega) (by have:=hb.size;omega))
  have HL:=jH (l3.below hB0);have HB0:=jH hB0;have C0:=jH c0;have HS:=jH hS;have HI:=jH hI;clear l3 hB0 hS c0 c1 c2 eg hI;go_enter func310,ntmps310;go_wp2_with fail;rw [<- hW0];clear hW0;refine HI.out.mono ?_;rintro e w1 ⟨k,hk,k1,k2,hb1⟩;have a0:=(hb1.cell (p:=⟨w.heap.size,3,none⟩) (show w.heap.size<W0.heap.size by have:=HS.out;omega)).trans C0.out;have HB1:=jH hb1;rcases k2 with ⟨hlt,kp,rfl⟩ | ⟨rfl,rfl⟩
  ·have HK:=jH (R9 (makes a b) splits k hlt k1 kp);obtain ⟨e0,-⟩:=Ald (HL.out.below hb1) k hlt splits[k]! rfl;clear k1 kp hb1;generalize splits[k]! = y at HK e0;obtain ⟨v0,v1,v2,v3,v4⟩:=y;simp only at e0;go_wp2;go_ret2;refine ⟨?_,HB0.out.trans (HB1.out.mono HB0.out.size)⟩;rw [HK.out];rfl
  ·have HK:=jH (Ug (makes a b) splits k1);clear k1 hb1;go_wp2;go_ret2;refine ⟨?_,HB0.out.trans (HB1.out.mono HB0.out.size)⟩;rw [HK.out];rfl
end
section
open Go.RowKit
end
section
open Go.RowKit
end
section
open Go.RowKit
def tbl (b0 b1 b2 b3:Nat):Value:=.agg #[.slice (some ⟨b0,0,none⟩) 74 74,.slice (some ⟨b1,0,none⟩) 10 10,.slice (some ⟨b2,0,none⟩) 11 11,.slice (some ⟨b3,0,none⟩) 42 42]
def I6 (S b0 b1 b2 b3:Nat) (w:World):Prop :=
 S<w.heap.size/\w.cell? ⟨S,0,none⟩=some (.slice (some ⟨b0,0,none⟩) 74 74)/\w.cell? ⟨S,1,none⟩=some (.slice (some ⟨b1,0,none⟩) 10 10)/\w.cell? ⟨S,2,none⟩=some (.slice (some ⟨b2,0,none⟩) 11 11)/\w.cell? ⟨S,3,none⟩=some (.slice (some ⟨b3,0,none⟩) 42 42)
theorem I6.below {S b0 b1 b2 b3:Nat} {w w':World} (h:I6 S b0 b1 b2 b3 w) (hb:Below w.heap.size w w'):I6 S b0 b1 b2 b3 w' :=
 ⟨jas h.1 hb.size,(hb.cell (p:=⟨S,0,none⟩) h.1).trans h.2.1,(hb.cell (p:=⟨S,1,none⟩) h.1).trans h.2.2.1,(hb.cell (p:=⟨S,2,none⟩) h.1).trans h.2.2.2.1,(hb.cell (p:=⟨S,3,none⟩) h.1).trans h.2.2.2.2⟩
theorem Ih (w:World) (b0 b1 b2 b3:Nat) (T:TypeId):I6 w.heap.size b0 b1 b2 b3 (w.alloc (.cells #[.slice (some ⟨b0,0,none⟩) 74 74,.slice (some ⟨b1,0,none⟩) 10 10,.slice (some ⟨b2,0,none⟩) 11 11,.slice (some ⟨b3,0,none⟩) 42 42] T)) :=
 ⟨by simp,by simp,by simp,by simp,by simp⟩
theorem cell_kept {w w':World} {b o:Nat} {v:Value} (hc:w.cell? ⟨b,o,none⟩=some v) (hb:Below w.heap.size w w'):w'.cell? ⟨b,o,none⟩=some v :=
 Kc hb hc
end
