import Derived.Test.YthnhgmdlbfbhjaaGreatFindA
set_option maxRecDepth 100000
set_option maxHeartbeats 8000000
namespace Go.Proofs.YthnhgmdlbfbhjaaGreat
open Tryz
section
open Go.RowKit
def Gh (P:Program):List Oper->Act->World->Option (Act × World)
 | [],a,w=>some (a,w)
 | o::rest,a,w =>
  match o.guard with
  | some _=>none
  | none =>
   match (execOp a.eval o).run P w with
   | .ok (.value v) w'=>Gh P rest (a.put o.dst v) w'
   | .ok .skip w'=>Gh P rest (a.put o.dst undef) w'
   | _=>none
theorem Hc {P:Program} {ops:Array Oper} {Q:Exit->Act->World->Prop} {a':Act} {w':World} (hQ:Q .normal a' w'):∀ (l:List Oper) (a:Act) (w:World),Gh P l a w=some (a',w')->wpList P ops Q l a w
 | [],a,w,h=>by simp only [Gh,Option.some.injEq,Prod.mk.injEq] at h;obtain ⟨rfl,rfl⟩:=h;exact hQ
 | o::rest,a,w,h=>by
  unfold Gh at h;cases hg:o.guard with
  | some g=>rw [hg] at h;cases h
  | none =>
   rw [hg] at h;simp only at h;unfold wpList;rw [if_pos (by simp [Region.wanted,hg])];refine .inl ?_;unfold Oper.wp;split at h
   ·rename_i v w1 he
    rw [he];exact Hc hQ rest _ _ h
   ·rename_i w1 he
    rw [he];exact Hc hQ rest _ _ h
   ·cases h
theorem Jn {P:Program}:∀ (l m:List Oper) (a:Act) (w:World),Gh P (l ++ m) a w=(Gh P l a w).bind λp=>Gh P m p.1 p.2
 | [],m,a,w=>by simp [Gh]
 | o::l,m,a,w=>by
  rw [jah,Gh.eq_2,Gh.eq_2];cases hg:o.guard with
  | some g=>rfl
  | none =>
   simp only;split
   · exact Jn l m _ _
   · exact Jn l m _ _
   · rfl
theorem Ja {P:Program} {f:FuncId} {fn:Func} {i0 i1:Nat} {ops0 ops1:Array Oper} {args:Array Value} {t:Tmp} {v:Value} {w w':World} {R:Ending->World->Prop}
  (hf:P.funcs[f]? = some fn) (hb:fn.body=some ((Code.region i0 ops0 false).seq ((Code.region i1 ops1 false).seq .ret))) (hr:fn.results=#[.tmp t])
  (h:((Gh P (ops0.toList ++ ops1.toList) { tmps:=args ++ Array.replicate (fn.ntmps - args.size) undef,defers:=[] } w).map λp=>(p.1.tmps.getD t undef,p.1.defers,p.2))=some (v,[],w'))
  (hR:R (.returned v) w'):Calls P f args w R:=by
 refine calls_of_wp hf hb ?_;rw [Jn] at h;cases h0:Gh P ops0.toList { tmps:=args ++ Array.replicate (fn.ntmps - args.size) undef,defers:=[] } w with
 | none=>rw [h0] at h;cases h
 | some p0 =>
  obtain ⟨a0,w0⟩:=p0;rw [h0] at h;simp only [Option.bind_some] at h;cases h1:Gh P ops1.toList a0 w0 with
  | none=>rw [h1] at h;cases h
  | some p1 =>
   obtain ⟨a1,w1⟩:=p1;rw [h1] at h;simp only [Option.map_some,Option.some.injEq,Prod.mk.injEq] at h;obtain ⟨hv,hd,rfl⟩:=h;refine wp_seq (wp_region_list (Hc ?_ _ _ _ h0));refine wp_seq (wp_region_list (Hc ?_ _ _ _ h1));exact wp_ret (bodyPost_ret (results_tmp hr _ _ _) hd (by rw [hv];exact hR))
theorem Abl {α:Type} [Inhabited α] {enc:α->List Value} {k:Nat} (hk:∀ x,(enc x).length=k):∀ (rows:List α) (j:Nat),j<rows.length->∀ i v,(enc rows[j]!)[i]? = some v->(rows.flatMap enc)[j*k+i]? = some v
 | [],_,h,_,_,_=>by simp at h
 | x::t,0,_,i,v,h=>by
  simp only [List.getElem!_cons_zero] at h;have hi:i<(enc x).length:=(List.getElem?_eq_some_iff.1 h).1;rw [jao,Nat.zero_mul,Nat.zero_add,List.getElem?_append_left hi];exact h
 | x::t,j+1,hj,i,v,h=>by
  simp only [List.getElem!_cons_succ] at h;rw [jao,List.getElem?_append_right (by rw [hk,Nat.add_mul];omega),hk,show (j+1)*k+i - k=j*k+i by rw [Nat.add_mul];omega];exact Abl hk t j (by simpa using hj) i v h
theorem Pz {α:Type} [Inhabited α] {enc:α->List Value} {k:Nat} (hk:∀ x,(enc x).length=k) (rows:List α) (w:World) (T:TypeId):Jk enc k rows w.heap.size (w.alloc (.cells (rows.flatMap enc).toArray T)) :=
 ⟨by simp,λj hj i v hv=>by
  rw [World.cell?_alloc_at _ _ _ _ rfl,List.getElem?_toArray];exact Abl hk rows j hj i v hv⟩
theorem Jk.set {α:Type} [Inhabited α] {enc:α->List Value} {k:Nat} {rows:List α} {b S:Nat} {w:World} (h:Jk enc k rows b w) (hne:S ≠ b) (o:Nat) (u:Value):Jk enc k rows b (w.setCell ⟨S,o,none⟩ u) :=
 ⟨by simpa [World.setCell] using h.1,λj hj i v hv=>(World.cell?_of_block (a:=⟨b,j*k+i,none⟩) (Below.heap_setCell w ⟨S,o,none⟩ u b (Ne.symm hne))).trans (h.2 j hj i v hv)⟩
def Ti {α:Type} [Inhabited α] (enc:α->List Value) (k n:Nat) (rows:List α) (w:World) (e:Ending) (w':World):Prop :=
 ∃ b,e=.returned (.slice (some ⟨b,0,none⟩) n n)/\w.heap.size<=b/\Jk enc k rows b w'/\Below w.heap.size w w'
theorem Apb (w:World):Calls prog 21 #[] w (Ti Gk 6 74 ranges w) :=
 Ja (t:=0) (v:=.slice (some ⟨w.heap.size,0,none⟩) 74 74) (w':=w.alloc (.cells (ranges.flatMap Gk).toArray 63)) func21 rfl rfl jK
  ⟨_,rfl,jaa _,Pz (enc:=Gk) (k:=6) (λ_=>rfl) ranges w _,(jan _ _).alloc (jaa _) _⟩
theorem Ao9 (w:World):Calls prog 22 #[] w (Ti Pm 4 10 Dy w) :=
 Ja (t:=0) (v:=.slice (some ⟨w.heap.size,0,none⟩) 10 10) (w':=w.alloc (.cells (Dy.flatMap Pm).toArray 65)) func22 rfl rfl jK
  ⟨_,rfl,jaa _,Pz (enc:=Pm) (k:=4) (λ_=>rfl) Dy w _,(jan _ _).alloc (jaa _) _⟩
theorem Apa (w:World):Calls prog 23 #[] w (Ti Pn 3 11 lowers w) :=
 Ja (t:=0) (v:=.slice (some ⟨w.heap.size,0,none⟩) 11 11) (w':=w.alloc (.cells (lowers.flatMap Pn).toArray 67)) func23 rfl rfl jK
  ⟨_,rfl,jaa _,Pz (enc:=Pn) (k:=3) (λ_=>rfl) lowers w _,(jan _ _).alloc (jaa _) _⟩
theorem Am0 (w:World):Calls prog 24 #[] w (Ti Ew 5 42 splits w) :=
 Ja (t:=0) (v:=.slice (some ⟨w.heap.size,0,none⟩) 42 42) (w':=w.alloc (.cells (splits.flatMap Ew).toArray 69)) func24 rfl rfl jK
  ⟨_,rfl,jaa _,Pz (enc:=Ew) (k:=5) (λ_=>rfl) splits w _,(jan _ _).alloc (jaa _) _⟩
def Table (w:World) (t:Value):Prop :=
 ∃
  b0 b1 b2 b3,t=.agg #[.slice (some ⟨b0,0,none⟩) 74 74,.slice (some ⟨b1,0,none⟩) 10 10,.slice (some ⟨b2,0,none⟩) 11 11,.slice (some ⟨b3,0,none⟩) 42 42] /\
  Jk Gk 6 ranges b0 w/\Jk Pm 4 Dy b1 w/\Jk Pn 3 lowers b2 w/\Jk Ew 5 splits b3 w
theorem Table.below {w w':World} {t:Value} (h:Table w t) (hb:Below w.heap.size w w'):Table w' t:=by
 obtain ⟨b0,b1,b2,b3,rfl,h0,h1,h2,h3⟩:=h;exact ⟨b0,b1,b2,b3,rfl,h0.below hb,h1.below hb,h2.below hb,h3.below hb⟩
def Ane (w:World) (e:Ending) (w':World):Prop:=∃ t,e=.returned t/\Table w' t/\Below w.heap.size w w'
theorem Dz (w:World):Calls prog 9 #[] w (Ane w):=by
 go_enter func9,ntmps9;go_wp2_with fail;refine (Apb _).mono ?_;rintro e w1 ⟨b0,rfl,n0,l0,hb0⟩;have L0:=jH l0;have N0:=jH n0;have B0:=jH hb0;clear l0 n0 hb0;go_wp2_with fail;refine (Ao9 _).mono ?_;rintro e w2 ⟨b1,rfl,n1,l1,hb1⟩;have L1:=jH l1;have N1:=jH n1;have B1:=jH hb1;clear l1 n1 hb1;go_wp2_with fail;refine (Apa _).mono ?_;rintro e w3 ⟨b2,rfl,n2,l2,hb2⟩;have L2:=jH l2;have N2:=jH n2;have B2:=jH hb2;clear l2 n2 hb2;go_wp2_with fail;refine (Am0 _).mono ?_;rintro e w4 ⟨b3,rfl,n3,l3,hb3⟩;have L3:=jH l3;have N3:=jH n3;have B3:=jH hb3;clear l3 n3 hb3;have hb:Below (w.alloc (.cells #[.slice none 0 0,.slice none 0 0,.slice none 0 0,.slice none 0 0] 28)).heap.size (w.alloc (.cells #[.slice none 0 0,.slice none 0 0,.slice none 0 0,.slice none 0 0] 28)) w4 :=
  B0.out.trans ((B1.out.mono B0.out.size).trans ((B2.out.mono (Nat.le_trans B0.out.size B1.out.size)).trans (B3.out.mono (Nat.le_trans B0.out.size (Nat.le_trans B1.out.size B2.out.size)))))
 have hc:∀ i,w4.cell? ⟨w.heap.size,i,none⟩=(w.alloc (.cells #[.slice none 0 0,.slice none 0 0,.slice none 0 0,.slice none 0 0] 28)).cell? ⟨w.heap.size,i,none⟩:=λi=>hb.cell (p:=⟨w.heap.size,i,none⟩) (show w.heap.size<_ by simp);have d0:=(hc 0).trans (show _=some (.slice none 0 0) by simp);have d1:=(hc 1).trans (show _=some (.slice none 0 0) by simp);have d2:=(hc 2).trans (show _=some (.slice none 0 0) by simp);have d3:=(hc 3).trans (show _=some (.slice none 0 0) by simp);have fz:∀ i,w4.frozen? ⟨w.heap.size,i,none⟩=false:=λi=>(hb.frozen (p:=⟨w.heap.size,i,none⟩) (show w.heap.size<_ by simp)).trans jS;have HB:=jH (show Below w.heap.size w w4 from ((jan _ w).alloc (jaa _) _).trans (hb.mono jS));have HT:=jH (show Table w4 (.agg #[.slice (some ⟨b0,0,none⟩) 74 74,.slice (some ⟨b1,0,none⟩) 10 10,.slice (some ⟨b2,0,none⟩) 11 11,.slice (some ⟨b3,0,none⟩) 42 42]) from
  ⟨b0,b1,b2,b3,rfl,((L0.out.below B1.out).below B2.out).below B3.out,(L1.out.below B2.out).below B3.out,L2.out.below B3.out,L3.out⟩)
 have hlt:w.heap.size<w4.heap.size:=by have:=hb.size;simp at this;omega
 have hne:w.heap.size ≠ b0/\w.heap.size ≠ b1/\w.heap.size ≠ b2/\w.heap.size ≠ b3:=by
  have:=B0.out.size;have:=B1.out.size;have:=B2.out.size;have:=N0.out;have:=N1.out;have:=N2.out;have:=N3.out;simp at *;omega
 have NE:=jH hne;clear hb hc hne;go_wp2;refine bodyPost_ret (v:=.agg #[.slice (some ⟨b0,0,none⟩) 74 74,.slice (some ⟨b1,0,none⟩) 10 10,.slice (some ⟨b2,0,none⟩) 11 11,.slice (some ⟨b3,0,none⟩) 42 42]) (by simp [results,results9,go_sem,d0,d1,d2,d3]) rfl ⟨_,rfl,?_,?_⟩
 ·obtain ⟨n0,n1,n2,n3⟩:=NE.out;obtain ⟨c0,c1,c2,c3,hc,l0,l1,l2,l3⟩:=HT.out;simp only [Value.agg.injEq,Array.mk.injEq,List.cons.injEq,Value.slice.injEq,Option.some.injEq,Addr.mk.injEq,and_true] at hc;obtain ⟨rfl,rfl,rfl,rfl⟩:=hc;exact ⟨b0,b1,b2,b3,rfl,(((l0.set n0 _ _).set n0 _ _).set n0 _ _).set n0 _ _,(((l1.set n1 _ _).set n1 _ _).set n1 _ _).set n1 _ _,(((l2.set n2 _ _).set n2 _ _).set n2 _ _).set n2 _ _,(((l3.set n3 _ _).set n3 _ _).set n3 _ _).set n3 _ _⟩
 ·exact (((HB.out.setCell (p:=⟨w.heap.size,0,none⟩) (jaa _) _).setCell (p:=⟨w.heap.size,1,none⟩) (jaa _) _).setCell (p:=⟨w.heap.size,2,none⟩) (jaa _) _).setCell (p:=⟨w.heap.size,3,none⟩) (jaa _) _
end
section
open Go.RowKit
theorem Di (w:World) (a b:Obj):Below w.heap.size w ((w.alloc a).alloc b):=((jan _ w).alloc (jaa _) _).alloc jS _
theorem Je (t:Value) (x:Int) (w:World) (hT:Table w t) :
  Calls prog 162 #[t,.int .i32 x] w λe w'=>e=.returned (.agg (Gk ((Ch x).getD default)).toArray)/\Below w.heap.size w w':=by
 obtain ⟨b0,b1,b2,b3,rfl,l0,-,-,-⟩:=hT;unfold Ch;have hfind:=λW (h:Below w.heap.size w W)=>Ap2 b0 74 ranges x W rfl (l0.below h) St jO;unfold Tv at hfind;generalize Fm Rg.lo Rg.hi ranges x=o at hfind ⊢;generalize o.isSome=is at hfind;generalize o.getD default=y at hfind ⊢;obtain ⟨v0,v1,v2,v3,v4,v5⟩:=y;simp only [Gk] at hfind ⊢;have HF:=jH hfind;clear hfind l0;go_enter func162,ntmps162;go_wp2_with fail;refine (HF.out _ (Di _ _ _)).mono ?_;rintro e w1 ⟨rfl,hb1⟩;have hz:w.heap.size+1<w1.heap.size:=by have:=hb1.size;simp at this;omega
 have hc:∀ i,w1.cell? ⟨w.heap.size+1,i,none⟩=_:=λi=>hb1.cell (p:=⟨w.heap.size+1,i,none⟩) (show w.heap.size+1<_ by simp);have d0:=(hc 0).trans (show _=some (.int .i32 0) by go_simp);have d1:=(hc 1).trans (show _=some (.int .i32 0) by go_simp);have d2:=(hc 2).trans (show _=some (.int .i64 0) by go_simp);have d3:=(hc 3).trans (show _=some (.int .i64 0) by go_simp);have d4:=(hc 4).trans (show _=some (.int .i64 0) by go_simp);have d5:=(hc 5).trans (show _=some (.int .i64 0) by go_simp);have fz:∀ i,w1.frozen? ⟨w.heap.size+1,i,none⟩=false:=λi=>(hb1.frozen (p:=⟨w.heap.size+1,i,none⟩) (show w.heap.size+1<_ by simp)).trans (by go_simp);have HB:=jH ((Di _ _ _).trans (hb1.mono (by simp;omega)));clear hc hb1;go_wp2;refine bodyPost_ret (v:=.agg #[.int .i32 v0,.int .i32 v1,.int .i64 v2,.int .i64 v3,.int .i64 v4,.int .i64 v5]) (by simp [results,results162,go_sem,d0,d1,d2,d3,d4,d5,hz]) rfl ⟨rfl,?_⟩;exact Al (Mw HB.out jO _ _ _ _ _ _) (jaa _) _
theorem Zl (t:Value) (x:Int) (w:World) (hT:Table w t) :
  Calls prog 125 #[t,.int .i32 x] w λe w'=>e=.returned (.int .i64 (Bm x))/\Below w.heap.size w w':=by
 have hr:=λW (h:Below w.heap.size w W)=>Je t x W (hT.below h);obtain ⟨b0,b1,b2,b3,rfl,-,-,-,-⟩:=hT;unfold Bm;generalize (Ch x).getD default=y at hr ⊢;obtain ⟨v0,v1,v2,v3,v4,v5⟩:=y;simp only [Gk] at hr ⊢;have HF:=jH hr;clear hr;have hfld:∀ w,(Instr.field 63 (.agg #[.int .i32 v0,.int .i32 v1,.int .i64 v2,.int .i64 v3,.int .i64 v4,.int .i64 v5]) 2).run prog w=.ok (.int .i64 v2) w:=λ_=>by kernel_rfl
 go_enter func125,ntmps125;go_wp2_with fail;refine (HF.out _ ((jan _ w).alloc (jaa _) _)).mono ?_;rintro e w1 ⟨rfl,hb1⟩;have HB:=jH (((jan _ w).alloc (jaa _) _).trans (hb1.mono jS));clear hb1;go_wp2;go_ret;exact ⟨rfl,HB.out⟩
theorem Ow (t:Value) (x:Int) (w:World) (hT:Table w t) :
  Calls prog 205 #[t,.int .i32 x] w λe w'=>e=.returned (.int .i64 (Ao x))/\Below w.heap.size w w':=by
 have hr:=λW (h:Below w.heap.size w W)=>Je t x W (hT.below h);obtain ⟨b0,b1,b2,b3,rfl,-,-,-,-⟩:=hT;unfold Ao;generalize (Ch x).getD default=y at hr ⊢;obtain ⟨v0,v1,v2,v3,v4,v5⟩:=y;simp only [Gk] at hr ⊢;have HF:=jH hr;clear hr;have hfld:∀ w,(Instr.field 63 (.agg #[.int .i32 v0,.int .i32 v1,.int .i64 v2,.int .i64 v3,.int .i64 v4,.int .i64 v5]) 3).run prog w=.ok (.int .i64 v3) w:=λ_=>by kernel_rfl
 go_enter func205,ntmps205;go_wp2_with fail;refine (HF.out _ ((jan _ w).alloc (jaa _) _)).mono ?_;rintro e w1 ⟨rfl,hb1⟩;have HB:=jH (((jan _ w).alloc (jaa _) _).trans (hb1.mono jS));clear hb1;go_wp2;go_ret;exact ⟨rfl,HB.out⟩
theorem U9 (t:Value) (x:Int) (w:World) (hT:Table w t) :
  Calls prog 241 #[t,.int .i32 x] w λe w'=>e=.returned (.int .i64 (Ck x))/\Below w.heap.size w w':=by
 have hr:=λW (h:Below w.heap.size w W)=>Je t x W (hT.below h);obtain ⟨b0,b1,b2,b3,rfl,-,-,-,-⟩:=hT;unfold Ck;generalize (Ch x).getD default=y at hr ⊢;obtain ⟨v0,v1,v2,v3,v4,v5⟩:=y;simp only [Gk] at hr ⊢;have HF:=jH hr;clear hr;have hfld:∀ w,(Instr.field 63 (.agg #[.int .i32 v0,.int .i32 v1,.int .i64 v2,.int .i64 v3,.int .i64 v4,.int .i64 v5]) 4).run prog w=.ok (.int .i64 v4) w:=λ_=>by kernel_rfl
 go_enter func241,ntmps241;go_wp2_with fail;refine (HF.out _ ((jan _ w).alloc (jaa _) _)).mono ?_;rintro e w1 ⟨rfl,hb1⟩;have HB:=jH (((jan _ w).alloc (jaa _) _).trans (hb1.mono jS));clear hb1;go_wp2;go_ret;exact ⟨rfl,HB.out⟩
theorem Ld (t:Value) (x:Int) (w:World) (hT:Table w t) :
  Calls prog 236 #[t,.int .i32 x] w λe w'=>e=.returned (.int .i64 (Aq x))/\Below w.heap.size w w':=by
 have hr:=λW (h:Below w.heap.size w W)=>Je t x W (hT.below h);obtain ⟨b0,b1,b2,b3,rfl,-,-,-,-⟩:=hT;unfold Aq;generalize (Ch x).getD default=y at hr ⊢;obtain ⟨v0,v1,v2,v3,v4,v5⟩:=y;simp only [Gk] at hr ⊢;have HF:=jH hr;clear hr;have hfld:∀ w,(Instr.field 63 (.agg #[.int .i32 v0,.int .i32 v1,.int .i64 v2,.int .i64 v3,.int .i64 v4,.int .i64 v5]) 5).run prog w=.ok (.int .i64 v5) w:=λ_=>by kernel_rfl
 go_enter func236,ntmps236;go_wp2_with fail;refine (HF.out _ ((jan _ w).alloc (jaa _) _)).mono ?_;rintro e w1 ⟨rfl,hb1⟩;have HB:=jH (((jan _ w).alloc (jaa _) _).trans (hb1.mono jS));clear hb1;go_wp2;go_ret;exact ⟨rfl,HB.out⟩
theorem Uk:∀ y ∈ Dy,0<=y.lo/\y.lo<=y.hi/\y.hi<=65535/\0<=y.cls/\y.cls<=255/\0<=y.step/\y.step<=1:=by decide +kernel
theorem Vj:∀ y ∈ lowers,0<=y.lo/\y.lo<=y.hi/\y.hi<=70000/\-9000<=y.far/\y.far<=9000:=by decide +kernel
theorem Ij (t:Value) (x:Int) (w:World) (hT:Table w t) :
  Calls prog 151 #[t,.int .i32 x] w λe w'=>e=.returned (.int .i64 (Ab x))/\Below w.heap.size w w':=by
 obtain ⟨b0,b1,b2,b3,rfl,-,l1,-,-⟩:=hT;unfold Ab Mz;have hfind:=λW (h:Below w.heap.size w W)=>Ap0 b1 10 Dy x W rfl (l1.below h) Oy jO;unfold Tt at hfind;cases ho:Fm Cl.lo Cl.hi Dy x with
 | none =>
  rw [ho] at hfind;simp only [Pm,Option.getD_none,Option.isSome_none] at hfind ⊢;have HF:=jH hfind;clear hfind l1 ho;go_enter func151,ntmps151;go_wp2_with fail;refine (HF.out _ ((jan _ w).alloc (jaa _) _)).mono ?_;rintro e w1 ⟨rfl,hb1⟩;have HB:=jH (((jan _ w).alloc (jaa _) _).trans (hb1.mono jS));clear hb1;go_wp2;go_ret;exact ⟨rfl,Al HB.out (jaa _) _⟩
 | some y =>
  obtain ⟨hy,h1,h2⟩:=Co ho;obtain ⟨g0,g1,g2,g3,g4,g5,g6⟩:=Uk y hy;rw [ho] at hfind;obtain ⟨v0,v1,v2,v3⟩:=y;simp only [Pm,Option.getD_some,Option.isSome_some] at hfind h1 h2 g0 g1 g2 g3 g4 g5 g6 ⊢;have HF:=jH hfind;clear hfind l1 ho hy;go_enter func151,ntmps151;go_wp2_with fail;refine (HF.out _ ((jan _ w).alloc (jaa _) _)).mono ?_;rintro e w1 ⟨rfl,hb1⟩;have HB:=jH (((jan _ w).alloc (jaa _) _).trans (hb1.mono jS));clear hb1;go_wp2;go_ret;have hm:0<=v3*(x - v0)/\v3*(x - v0)<=65535:=by
   rcases (show v3=0\/v3=1 by omega) with rfl | rfl
   · simp
   · omega
  refine ⟨?_,Al HB.out (jaa _) _⟩;show Ending.returned (.int .i64 (wrap64 (v2+wrap64 (v3*(x - v0)))))=_;rw [IntWalk.wrap64_in (v3*(x - v0)) jO,IntWalk.wrap64_in _ jO]
theorem Yc (t:Value) (x:Int) (w:World) (hT:Table w t) :
  Calls prog 64 #[t,.int .i32 x] w λe w'=>e=.returned (.int .i32 (Cm x))/\Below w.heap.size w w':=by
 obtain ⟨b0,b1,b2,b3,rfl,-,-,l2,-⟩:=hT;unfold Cm Jc;have hfind:=λW (h:Below w.heap.size w W)=>Ap1 b2 11 lowers x W rfl (l2.below h) Sk jO;unfold Tu at hfind;cases ho:Fm Lw.lo Lw.hi lowers x with
 | none =>
  rw [ho] at hfind;simp only [Pn,Option.getD_none,Option.isSome_none] at hfind ⊢;have HF:=jH hfind;clear hfind l2 ho;go_enter func64,ntmps64;go_wp2_with fail;refine (HF.out _ ((jan _ w).alloc (jaa _) _)).mono ?_;rintro e w1 ⟨rfl,hb1⟩;have HB:=jH (((jan _ w).alloc (jaa _) _).trans (hb1.mono jS));clear hb1;go_wp2;go_ret;exact ⟨rfl,Al HB.out (jaa _) _⟩
 | some y =>
  obtain ⟨hy,h1,h2⟩:=Co ho;obtain ⟨g0,g1,g2,g3,g4⟩:=Vj y hy;rw [ho] at hfind;obtain ⟨v0,v1,v2⟩:=y;simp only [Pn,Option.getD_some,Option.isSome_some] at hfind h1 h2 g0 g1 g2 g3 g4 ⊢;have HF:=jH hfind;clear hfind l2 ho hy;go_enter func64,ntmps64;go_wp2_with fail;refine (HF.out _ ((jan _ w).alloc (jaa _) _)).mono ?_;rintro e w1 ⟨rfl,hb1⟩;have HB:=jH (((jan _ w).alloc (jaa _) _).trans (hb1.mono jS));clear hb1;go_wp2;go_ret;exact ⟨rfl,Al HB.out (jaa _) _⟩
theorem Qi (w:World) (a:Obj) {w1:World} (hb1:Below ((w.alloc a).alloc (.cells #[.int .i32 0,.int .i32 0,.int .i32 0,.bool false,.bool false] 69)).heap.size ((w.alloc a).alloc (.cells #[.int .i32 0,.int .i32 0,.int .i32 0,.bool false,.bool false] 69)) w1) :
  w.heap.size+1<w1.heap.size/\(∀ i,w1.frozen? ⟨w.heap.size+1,i,none⟩=false)/\w1.cell? ⟨w.heap.size+1,0,none⟩=some (.int .i32 0)/\w1.cell? ⟨w.heap.size+1,1,none⟩=some (.int .i32 0)/\w1.cell? ⟨w.heap.size+1,2,none⟩=some (.int .i32 0)/\w1.cell? ⟨w.heap.size+1,3,none⟩=some (.bool false)/\w1.cell? ⟨w.heap.size+1,4,none⟩=some (.bool false):=by
 have hc:∀ i,w1.cell? ⟨w.heap.size+1,i,none⟩=_:=λi=>hb1.cell (p:=⟨w.heap.size+1,i,none⟩) (show w.heap.size+1<_ by simp);exact ⟨by have:=hb1.size;simp at this;omega,λi=>(hb1.frozen (p:=⟨w.heap.size+1,i,none⟩) (show w.heap.size+1<_ by simp)).trans (by go_simp),
  (hc 0).trans (by go_simp),(hc 1).trans (by go_simp),(hc 2).trans (by go_simp),(hc 3).trans (by go_simp),(hc 4).trans (by go_simp)⟩
def Tj (o:Option Sp) (w:World) (e:Ending) (w':World):Prop :=
 e=.returned (.tuple #[.agg (Ew (o.getD default)).toArray,.bool o.isSome])/\Below w.heap.size w w'
theorem J6 (t:Value) (x:Int) (w:World) (hT:Table w t) :
  Calls prog 101 #[t,.int .i32 x] w (Tj (Aj x) w):=by
 obtain ⟨b0,b1,b2,b3,rfl,-,-,-,l3⟩:=hT;have hfind:=λW (h:Below w.heap.size w W)=>Ap3 b3 42 splits x W rfl (l3.below h) Ta jO;unfold Tw at hfind;have hsp:Aj x=match Fm Sp.rune Sp.rune splits x with | some x=>some x | none=>if Bf x then some ⟨x,x - 65248,0,true,true⟩ else none:=rfl
 cases ho:Fm Sp.rune Sp.rune splits x with
 | some y =>
  rw [hsp,ho];rw [ho] at hfind;obtain ⟨v0,v1,v2,v3,v4⟩:=y;simp only [Ew,Option.getD_some,Option.isSome_some] at hfind ⊢;have HF:=jH hfind;clear hfind l3 ho hsp;go_enter func101,ntmps101;go_wp2_with fail;refine (HF.out _ (Di _ _ _)).mono ?_;rintro e w1 ⟨rfl,hb1⟩;obtain ⟨hz,fz,d0,d1,d2,d3,d4⟩:=Qi _ _ hb1;have HB:=jH ((Di _ _ _).trans (hb1.mono (by simp;omega)));clear hb1;go_wp2;refine bodyPost_ret (v:=.tuple #[.agg #[.int .i32 v0,.int .i32 v1,.int .i32 v2,.bool v3,.bool v4],.bool true]) (by simp [results,results101,go_sem,d0,d1,d2,d3,d4,hz]) rfl ⟨rfl,?_⟩;exact Al (Hy HB.out jO _ _ _ _ _) (jaa _) _
 | none =>
  rw [hsp,ho];rw [ho] at hfind;have hd:(default:Sp)=⟨0,0,0,false,false⟩:=rfl;simp only [Ew,Option.getD_none,Option.isSome_none,hd] at hfind ⊢;have HF:=jH hfind;clear hfind l3 ho hsp hd;by_cases h1:65281<=x
  ·by_cases h2:x<=65374
   ·rw [if_pos (by simp [Bf,h1,h2])];go_enter func101,ntmps101;go_wp2_with fail;refine (HF.out _ (Di _ _ _)).mono ?_;rintro e w1 ⟨rfl,hb1⟩;obtain ⟨hz,fz,d0,d1,d2,d3,d4⟩:=Qi _ _ hb1;have HB:=jH ((Di _ _ _).trans (hb1.mono (by simp;omega)));clear hb1;go_wp2;refine bodyPost_ret (v:=.tuple #[.agg #[.int .i32 x,.int .i32 (x - 65248),.int .i32 0,.bool true,.bool true],.bool true]) (by simp [results,results101,go_sem,d0,d1,d2,d3,d4,hz]) rfl ⟨rfl,?_⟩;exact Al (Hy HB.out jO _ _ _ _ _) (jaa _) _
   ·rw [if_neg (by simp [Bf,h2])];go_enter func101,ntmps101;go_wp2_with fail;refine (HF.out _ (Di _ _ _)).mono ?_;rintro e w1 ⟨rfl,hb1⟩;obtain ⟨hz,fz,d0,d1,d2,d3,d4⟩:=Qi _ _ hb1;have HB:=jH ((Di _ _ _).trans (hb1.mono (by simp;omega)));clear hb1;go_wp2;refine bodyPost_ret (v:=.tuple #[.agg #[.int .i32 0,.int .i32 0,.int .i32 0,.bool false,.bool false],.bool false]) (by simp [results,results101,go_sem,d0,d1,d2,d3,d4,hz]) rfl ⟨rfl,?_⟩;exact Al (Hy HB.out jO _ _ _ _ _) (jaa _) _
  ·rw [if_neg (by simp [Bf,h1])];go_enter func101,ntmps101;go_wp2_with fail;refine (HF.out _ (Di _ _ _)).mono ?_;rintro e w1 ⟨rfl,hb1⟩;obtain ⟨hz,fz,d0,d1,d2,d3,d4⟩:=Qi _ _ hb1;have HB:=jH ((Di _ _ _).trans (hb1.mono (by simp;omega)));clear hb1;go_wp2;refine bodyPost_ret (v:=.tuple #[.agg #[.int .i32 0,.int .i32 0,.int .i32 0,.bool false,.bool false],.bool false]) (by simp [results,results101,go_sem,d0,d1,d2,d3,d4,hz]) rfl ⟨rfl,?_⟩;exact Al (Hy HB.out jO _ _ _ _ _) (jaa _) _
end
section
open Go.RowKit
theorem Ach (ba bb:Nat) (a b:Int) (y:Sp) (W:World) (ha:W.cell? ⟨ba,0,none⟩=some (.int .i32 a)) (hb:W.cell? ⟨bb,0,none⟩=some (.int .i32 b)) (la:ba<W.heap.size) (lb:bb<W.heap.size) :
  Calls prog 216 (#[.agg (Ew y).toArray] ++ #[.pointer (some ⟨ba,0,none⟩),.pointer (some ⟨bb,0,none⟩)]) W λe w'=>e=.returned (.bool (makes a b y))/\Below W.heap.size W w':=by
 obtain ⟨v0,v1,v2,v3,v4⟩:=y;unfold makes;simp only [Ew];show Calls prog 216 #[.agg #[.int .i32 v0,.int .i32 v1,.int .i32 v2,.bool v3,.bool v4],.pointer (some ⟨ba,0,none⟩),.pointer (some ⟨bb,0,none⟩)] W _;cases v3<;>cases v4<;>cases h1:(v1 == a)<;>cases h2:(v2 == b)
 all_goals
  go_enter func216,ntmps216;go_wp2;go_ret;exact ⟨rfl,Al (jan _ _) (jaa _) _⟩
def Aha (p:Sp->Bool) (n:Nat) (rows:List Sp) (w:World) (e:Ending) (w':World):Prop :=
 ∃ k:Nat,k<=n/\(∀ j,j<k->p rows[j]! = false)/\((k<n/\p rows[k]! = true/\e=.returned (.int .i64 k))\/(k=n/\e=.returned (.int .i64 (-1))))/\Below w.heap.size w w'
theorem Ah5 (g:Nat) (cb:Array Value) (b n:Nat) (rows:List Sp) (p:Sp->Bool) (w:World) (hn:n=rows.length) (hl:Jk Ew 5 rows b w) (hsz:n<4611686018427387904)
  (eg:∀ args w,(callFunc g args).run prog w=.ok (.enter g args) w)
  (hf:∀ (W:World) (y:Sp),Below w.heap.size w W->Calls prog g (#[.agg (Ew y).toArray] ++ cb) W λe w'=>e=.returned (.bool (p y))/\Below W.heap.size W w') :
  Calls prog 215 #[.slice (some ⟨b,0,none⟩) n n,.func (.func g) #[] cb] w (Aha p n rows w):=by
 have HF:=jH hf;have HL:=jH hl;have HN:=jH hn;clear hf hl hn;go_enter func215,ntmps215;go_wp2;go_loopg [5,8] n (λgg _ s8 wr=>∃ k:Nat,k<=n/\n - k<=gg/\s8=.int .i64 k/\Hid (Below w.heap.size w wr)/\Hid (∀ j,j<k->p rows[j]! = false))
 case atStart=>exact ⟨0,Nat.zero_le _,by omega,rfl,jan _ w,λj hj=>absurd hj (Nat.not_lt_zero _)⟩
 case round =>
  obtain ⟨k,hk,hg,rfl,BW,A⟩:=hrel;by_cases hlt:k<n
  ·have hkz:(k:Int)<(n:Int):=jO
   obtain ⟨e0,e1,e2,e3,e4⟩:=V8 (HL.out.below BW.out) k (by have:=HN.out;omega) rows[k]! rfl;have hcall:=HF.out wr rows[k]! BW.out;generalize hy:rows[k]! = y at e0 e1 e2 e3 e4 hcall;have HY:=jH hy;clear hy;obtain ⟨v0,v1,v2,v3,v4⟩:=y;simp only [Ew] at hcall e0 e1 e2 e3 e4;cases hp:p ⟨v0,v1,v2,v3,v4⟩ with
   | true =>
    rw [hp] at hcall;have HP:=jH hp;have HC:=jH hcall;clear hp hcall;go_wp2_with fail;refine HC.out.mono ?_;rintro e w2 ⟨rfl,hb'⟩;have HB2:=jH (BW.out.trans (hb'.mono BW.out.size));clear hb';go_wp2;go_ret;exact ⟨k,hk,A.out,.inl ⟨hlt,by rw [HY.out];exact HP.out,rfl⟩,HB2.out⟩
   | false =>
    rw [hp] at hcall;have HP:=jH hp;have HC:=jH hcall;clear hp hcall;go_wp2_with fail;refine HC.out.mono ?_;rintro e w2 ⟨rfl,hb'⟩;have HB2:=jH (BW.out.trans (hb'.mono BW.out.size));clear hb';go_wp2;go_roundg (n - (k+1))
    case measure=>omega
    case rel =>
     refine ⟨k+1,by omega,by omega,by go_num,HB2,(show Hid _ from λj hj=>?_)⟩;by_cases e:j=k
     ·subst e;rw [HY.out];exact HP.out
     ·exact A.out j jO
  ·have hkz:¬ (k:Int)<(n:Int):=jO
   go_wp2;go_ret;exact ⟨k,hk,A.out,.inr ⟨by omega,rfl⟩,BW.out⟩
theorem Me {α:Type} [Inhabited α] (p:α->Bool):∀ (l:List α) (k:Nat),k<l.length->(∀ j,j<k->p l[j]! = false)->p l[k]! = true->l.find? p=some l[k]!
 | [],_,h,_,_=>by simp at h
 | x::t,0,_,_,h=>by simp only [List.getElem!_cons_zero] at h ⊢;simp [h]
 | x::t,k+1,hk,h0,h1=>by
  have hx:=h0 0 jO;simp only [List.getElem!_cons_zero,List.getElem!_cons_succ] at hx h1 ⊢;rw [List.find?_cons_of_neg (by simp [hx])];exact Me p t k (by simpa using hk) (λj hj=>by have:=h0 (j+1) jO;simpa using this) h1
theorem M9 {α:Type} [Inhabited α] (p:α->Bool):∀ (l:List α),(∀ j,j<l.length->p l[j]! = false)->l.find? p=none
 | [],_=>rfl
 | x::t,h=>by
  have hx:=h 0 jS;simp only [List.getElem!_cons_zero] at hx;rw [List.find?_cons_of_neg (by simp [hx])];exact M9 p t (λj hj=>by have:=h (j+1) (by simpa using hj);simpa using this)
def Ms (o:Option Int) (w:World) (e:Ending) (w':World):Prop :=
 e=.returned (.tuple #[.int .i32 (o.getD 0),.bool o.isSome])/\Below w.heap.size w w'
theorem Ep (w:World) (a b c:Obj):Below w.heap.size w (((w.alloc a).alloc b).alloc c):=(((jan _ w).alloc (jaa _) _).alloc jS _).alloc (by simp;omega) _
theorem Aci (t:Value) (a b:Int) (w:World) (hT:Table w t) :
  Calls prog 195 #[t,.int .i32 a,.int .i32 b] w (Ms (D3 a b) w):=by
 obtain ⟨b0,b1,b2,b3,rfl,-,-,-,l3⟩:=hT;unfold D3;by_cases hb0:b=0
 ·rw [if_pos hb0];subst hb0;clear l3;go_enter func195,ntmps195;go_wp2;go_ret2;exact ⟨rfl,Ep _ _ _ _⟩
 ·rw [if_neg hb0];have hbb:(b == 0)=false:=by simpa using hb0
  obtain ⟨W0,hW0⟩:∃ W0,W0=((w.alloc (.cells #[.slice (some ⟨b0,0,none⟩) 74 74,.slice (some ⟨b1,0,none⟩) 10 10,.slice (some ⟨b2,0,none⟩) 11 11,.slice (some ⟨b3,0,none⟩) 42 42] 28)).alloc (.cells #[.int .i32 a] 21)).alloc (.cells #[.int .i32 b] 21):=⟨_,rfl⟩
  have hB0:Below w.heap.size w W0:=by rw [hW0];exact Ep _ _ _ _
  have hS:W0.heap.size=w.heap.size+1+1+1:=by rw [hW0];simp
  have c0:W0.cell? ⟨w.heap.size,3,none⟩=some (.slice (some ⟨b3,0,none⟩) 42 42):=by rw [hW0];go_simp
  have c1:W0.cell? ⟨w.heap.size+1,0,none⟩=some (.int .i32 a):=by rw [hW0];go_simp
  have c2:W0.cell? ⟨w.heap.size+1+1,0,none⟩=some (.int .i32 b):=by rw [hW0];go_simp
  have eg:∀ args w,(callFunc 216 args).run prog w=.ok (.enter 216 args) w:=enters_of func216 jK rfl;have hI:=Ah5 216 #[.pointer (some ⟨w.heap.size+1,0,none⟩),.pointer (some ⟨w.heap.size+1+1,0,none⟩)] b3 42 splits (makes a b) W0 rfl (l3.below hB0) jO eg
   (λW y hb=>Ach (w.heap.size+1) (w.heap.size+1+1) a b y W ((hb.cell (p:=⟨w.heap.size+1,0,none⟩) (show w.heap.size+1<W0.heap.size by omega)).trans c1) ((hb.cell (p:=⟨w.heap.size+1+1,0,none⟩) (show w.heap.size+1+1<W0.heap.size by omega)).trans c2) (by have:=hb.size;omega) (by have:=hb.size;omega))
  have HL:=jH (l3.below hB0);have HB0:=jH hB0;have C0:=jH c0;have HS:=jH hS;have HI:=jH hI;clear l3 hB0 hS c0 c1 c2 eg hI;go_enter func195,ntmps195;go_wp2_with fail;rw [<- hW0];clear hW0;refine HI.out.mono ?_;rintro e w1 ⟨k,hk,k1,k2,hb1⟩;have a0:=(hb1.cell (p:=⟨w.heap.size,3,none⟩) (show w.heap.size<W0.heap.size by have:=HS.out;omega)).trans C0.out;have HB1:=jH hb1;rcases k2 with ⟨hlt,kp,rfl⟩ | ⟨rfl,rfl⟩
  ·have HK:=jH (Me (makes a b) splits k hlt k1 kp);obtain ⟨e0,-⟩:=V8 (HL.out.below hb1) k hlt splits[k]! rfl;clear k1 kp hb1;generalize splits[k]! = y at HK e0;obtain ⟨v0,v1,v2,v3,v4⟩:=y;simp only at e0;go_wp2;go_ret2;refine ⟨?_,HB0.out.trans (HB1.out.mono HB0.out.size)⟩;rw [HK.out];rfl
  ·have HK:=jH (M9 (makes a b) splits k1);clear k1 hb1;go_wp2;go_ret2;refine ⟨?_,HB0.out.trans (HB1.out.mono HB0.out.size)⟩;rw [HK.out];rfl
end
section
open Go.RowKit
theorem Anv (w:World) {w1:World} (hb1:Below (w.alloc (.cells #[.int .i32 0,.int .i32 0,.int .i64 0,.int .i64 0,.int .i64 0,.int .i64 0] 63)).heap.size (w.alloc (.cells #[.int .i32 0,.int .i32 0,.int .i64 0,.int .i64 0,.int .i64 0,.int .i64 0] 63)) w1) :
  (∀ i,w1.frozen? ⟨w.heap.size,i,none⟩=false)/\w1.cell? ⟨w.heap.size,0,none⟩=some (.int .i32 0)/\w1.cell? ⟨w.heap.size,1,none⟩=some (.int .i32 0)/\w1.cell? ⟨w.heap.size,2,none⟩=some (.int .i64 0)/\w1.cell? ⟨w.heap.size,3,none⟩=some (.int .i64 0)/\w1.cell? ⟨w.heap.size,4,none⟩=some (.int .i64 0)/\w1.cell? ⟨w.heap.size,5,none⟩=some (.int .i64 0):=by
 have hc:∀ i,w1.cell? ⟨w.heap.size,i,none⟩=_:=λi=>hb1.cell (p:=⟨w.heap.size,i,none⟩) (show w.heap.size<_ by simp);exact ⟨λi=>(hb1.frozen (p:=⟨w.heap.size,i,none⟩) (show w.heap.size<_ by simp)).trans (by go_simp),
  (hc 0).trans (by go_simp),(hc 1).trans (by go_simp),(hc 2).trans (by go_simp),(hc 3).trans (by go_simp),(hc 4).trans (by go_simp),(hc 5).trans (by go_simp)⟩
theorem Lh {α:Type} [Inhabited α] {q:α->Prop} {rows:List α} {k:Nat} (A:∀ j,j<k->¬ q rows[j]!) {y:α} (hy:rows[k]! = y) (h:¬ q y):∀ j,j<k+1->¬ q rows[j]!:=λj hj=>by
 by_cases e:j=k
 · subst e;rw [hy];exact h
 · exact A j jO
def Ol (o:Option Rg) (w:World) (e:Ending) (w':World):Prop :=
 e=.returned (.tuple #[.agg (Gk (o.getD default)).toArray,.bool o.isSome])/\Below w.heap.size w w'
theorem Jg (x:Int) (w:World):Calls prog 110 #[.int .i32 x] w (Ol (Ch x) w):=by
 go_enter func110,ntmps110;go_wp2_with fail;refine (Apb _).mono ?_;rintro e w1 ⟨b,rfl,n0,l0,hb1⟩;obtain ⟨fz,d0,d1,d2,d3,d4,d5⟩:=Anv w hb1;have HL:=jH l0;have HB:=jH (((jan _ w).alloc (jaa _) _).trans (hb1.mono jS));have hne:b ≠ w.heap.size:=by simp at n0;omega
 clear l0 hb1 n0;go_wp2;go_loop [5] (λi=>∃ k:Nat,k<=74/\i=.int .i64 k/\Hid (∀ j,j<k->¬ (ranges[j]!.lo<=x/\x<=ranges[j]!.hi))) (λi=>74 - (intOf i).toNat)
 case atStart=>exact ⟨0,Nat.zero_le _,rfl,λj hj=>absurd hj (Nat.not_lt_zero _)⟩
 case round =>
  obtain ⟨k,hk,rfl,A⟩:=hrel;by_cases hlt:k<74
  ·have hkz:(k:Int)<74:=jO
   obtain ⟨e0,e1,e2,e3,e4,e5⟩:=Ag3 HL.out k hlt ranges[k]! rfl;generalize hy:ranges[k]! = y at e0 e1 e2 e3 e4 e5;obtain ⟨v0,v1,v2,v3,v4,v5⟩:=y;have HY:=jH hy;clear hy;simp only at e0 e1 e2 e3 e4 e5;by_cases h1:v0<=x
   ·by_cases h2:x<=v1
    ·go_wp2;refine bodyPost_ret (v:=.tuple #[.agg #[.int .i32 v0,.int .i32 v1,.int .i64 v2,.int .i64 v3,.int .i64 v4,.int .i64 v5],.bool true]) (by simp [results,results110,go_sem,d0,d1,d2,d3,d4,d5]) rfl ⟨?_,Mw HB.out (jaa _) _ _ _ _ _ _⟩;unfold Ch;rw [Mn x St k hlt (by rw [HY.out];exact h1) (by rw [HY.out];exact h2),HY.out];rfl
    ·have H2:=jH h2;have h2':decide (x<=v1)=false:=by simpa using h2
     go_wp2;exact ⟨⟨k+1,by omega,by go_num,jH (Lh (q:=λy=>y.lo<=x/\x<=y.hi) A.out HY.out (λh=>H2.out h.2))⟩,by simp [intOf];omega⟩
   ·have H1:=jH h1;have h1':decide (v0<=x)=false:=by simpa using h1
    go_wp2;exact ⟨⟨k+1,by omega,by go_num,jH (Lh (q:=λy=>y.lo<=x/\x<=y.hi) A.out HY.out (λh=>H1.out h.1))⟩,by simp [intOf];omega⟩
  ·have hkz:¬ (k:Int)<74:=jO
   go_wp2;refine bodyPost_ret (v:=.tuple #[.agg #[.int .i32 0,.int .i32 0,.int .i64 0,.int .i64 0,.int .i64 0,.int .i64 0],.bool false]) (by simp [results,results110,go_sem,d0,d1,d2,d3,d4,d5]) rfl ⟨?_,Mw HB.out (jaa _) _ _ _ _ _ _⟩;unfold Ch;rw [J5 x (λj hj=>A.out j (by have:ranges.length=74:=rfl;omega))];rfl
theorem Vy (x:Int) (w:World):Calls prog 75 #[.int .i32 x] w λe w'=>e=.returned (.int .i64 (Bm x))/\Below w.heap.size w w':=by
 have hr:=Jg x w;unfold Ol at hr;unfold Bm;generalize (Ch x).isSome=is at hr;generalize (Ch x).getD default=y at hr ⊢;obtain ⟨v0,v1,v2,v3,v4,v5⟩:=y;simp only [Gk] at hr ⊢;have HF:=jH hr;clear hr;go_enter func75,ntmps75;go_wp2_with fail;refine HF.out.mono ?_;rintro e w1 ⟨rfl,hb1⟩;have HB:=jH hb1;clear hb1;go_wp2;go_ret;exact ⟨rfl,Al HB.out (jaa _) _⟩
theorem F3 (x:Int) (w:World):Calls prog 114 #[.int .i32 x] w λe w'=>e=.returned (.int .i64 (Ao x))/\Below w.heap.size w w':=by
 have hr:=Jg x w;unfold Ol at hr;unfold Ao;generalize (Ch x).isSome=is at hr;generalize (Ch x).getD default=y at hr ⊢;obtain ⟨v0,v1,v2,v3,v4,v5⟩:=y;simp only [Gk] at hr ⊢;have HF:=jH hr;clear hr;go_enter func114,ntmps114;go_wp2_with fail;refine HF.out.mono ?_;rintro e w1 ⟨rfl,hb1⟩;have HB:=jH hb1;clear hb1;go_wp2;go_ret;exact ⟨rfl,Al HB.out (jaa _) _⟩
theorem Hl (x:Int) (w:World):Calls prog 199 #[.int .i32 x] w λe w'=>e=.returned (.int .i64 (Ck x))/\Below w.heap.size w w':=by
 have hr:=Jg x w;unfold Ol at hr;unfold Ck;generalize (Ch x).isSome=is at hr;generalize (Ch x).getD default=y at hr ⊢;obtain ⟨v0,v1,v2,v3,v4,v5⟩:=y;simp only [Gk] at hr ⊢;have HF:=jH hr;clear hr;go_enter func199,ntmps199;go_wp2_with fail;refine HF.out.mono ?_;rintro e w1 ⟨rfl,hb1⟩;have HB:=jH hb1;clear hb1;go_wp2;go_ret;exact ⟨rfl,Al HB.out (jaa _) _⟩
theorem Jm (x:Int) (w:World):Calls prog 159 #[.int .i32 x] w λe w'=>e=.returned (.int .i64 (Aq x))/\Below w.heap.size w w':=by
 have hr:=Jg x w;unfold Ol at hr;unfold Aq;generalize (Ch x).isSome=is at hr;generalize (Ch x).getD default=y at hr ⊢;obtain ⟨v0,v1,v2,v3,v4,v5⟩:=y;simp only [Gk] at hr ⊢;have HF:=jH hr;clear hr;go_enter func159,ntmps159;go_wp2_with fail;refine HF.out.mono ?_;rintro e w1 ⟨rfl,hb1⟩;have HB:=jH hb1;clear hb1;go_wp2;go_ret;exact ⟨rfl,Al HB.out (jaa _) _⟩
theorem Gg (x:Int) (w:World):Calls prog 104 #[.int .i32 x] w λe w'=>e=.returned (.int .i64 (Ab x))/\Below w.heap.size w w':=by
 go_enter func104,ntmps104;go_wp2_with fail;refine (Ao9 _).mono ?_;rintro e w1 ⟨b,rfl,n0,l0,hb1⟩;have HL:=jH l0;have HB:=jH hb1;clear l0 hb1 n0;go_wp2;go_loop [4] (λi=>∃ k:Nat,k<=10/\i=.int .i64 k/\Hid (∀ j,j<k->¬ (Dy[j]!.lo<=x/\x<=Dy[j]!.hi))) (λi=>10 - (intOf i).toNat)
 case atStart=>exact ⟨0,Nat.zero_le _,rfl,λj hj=>absurd hj (Nat.not_lt_zero _)⟩
 case round =>
  obtain ⟨k,hk,rfl,A⟩:=hrel;by_cases hlt:k<10
  ·have hkz:(k:Int)<10:=jO
   obtain ⟨e0,e1,e2,e3⟩:=Ag1 HL.out k hlt Dy[k]! rfl;have hrow:=Uk Dy[k]! (by rw [getElem!_pos Dy k hlt];exact List.getElem_mem hlt);generalize hy:Dy[k]! = y at e0 e1 e2 e3 hrow;obtain ⟨v0,v1,v2,v3⟩:=y;have HY:=jH hy;clear hy;simp only at e0 e1 e2 e3 hrow;by_cases h1:v0<=x
   ·by_cases h2:x<=v1
    ·have H12:=jH (And.intro h1 h2);obtain ⟨g0,g1,g2,g3,g4,g5,g6⟩:=hrow;go_wp2;go_quiet (fail);go_wp2;go_ret;refine ⟨?_,below_drewN HB.out _⟩;unfold Ab Mz;rw [Mn x Oy k hlt (by rw [HY.out];exact H12.out.1) (by rw [HY.out];exact H12.out.2),HY.out];have hm:0<=v3*(x - v0)/\v3*(x - v0)<=65535:=by
      have:=H12.out;rcases (show v3=0\/v3=1 by omega) with rfl | rfl
      · simp
      · omega
     show Ending.returned (.int .i64 (wrap64 (v2+wrap64 (v3*(x - v0)))))=_;rw [IntWalk.wrap64_in (v3*(x - v0)) jO,IntWalk.wrap64_in _ jO]
    ·have H2:=jH h2;have h2':decide (x<=v1)=false:=by simpa using h2
     clear hrow;go_wp2;exact ⟨⟨k+1,by omega,by go_num,jH (Lh (q:=λy=>y.lo<=x/\x<=y.hi) A.out HY.out (λh=>H2.out h.2))⟩,by simp [intOf];omega⟩
   ·have H1:=jH h1;have h1':decide (v0<=x)=false:=by simpa using h1
    clear hrow;go_wp2;exact ⟨⟨k+1,by omega,by go_num,jH (Lh (q:=λy=>y.lo<=x/\x<=y.hi) A.out HY.out (λh=>H1.out h.1))⟩,by simp [intOf];omega⟩
  ·have hkz:¬ (k:Int)<10:=jO
   go_wp2;go_ret;refine ⟨?_,HB.out⟩;unfold Ab Mz;rw [J5 x (λj hj=>A.out j (by have:Dy.length=10:=rfl;omega))];rfl
theorem Aaa (x:Int) (w:World):Calls prog 67 #[.int .i32 x] w λe w'=>e=.returned (.int .i32 (Cm x))/\Below w.heap.size w w':=by
 go_enter func67,ntmps67;go_wp2_with fail;refine (Apa _).mono ?_;rintro e w1 ⟨b,rfl,n0,l0,hb1⟩;have HL:=jH l0;have HB:=jH hb1;clear l0 hb1 n0;go_wp2;go_loop [4] (λi=>∃ k:Nat,k<=11/\i=.int .i64 k/\Hid (∀ j,j<k->¬ (lowers[j]!.lo<=x/\x<=lowers[j]!.hi))) (λi=>11 - (intOf i).toNat)
 case atStart=>exact ⟨0,Nat.zero_le _,rfl,λj hj=>absurd hj (Nat.not_lt_zero _)⟩
 case round =>
  obtain ⟨k,hk,rfl,A⟩:=hrel;by_cases hlt:k<11
  ·have hkz:(k:Int)<11:=jO
   obtain ⟨e0,e1,e2⟩:=Ag2 HL.out k hlt lowers[k]! rfl;have hrow:=Vj lowers[k]! (by rw [getElem!_pos lowers k hlt];exact List.getElem_mem hlt);generalize hy:lowers[k]! = y at e0 e1 e2 hrow;obtain ⟨v0,v1,v2⟩:=y;have HY:=jH hy;clear hy;simp only at e0 e1 e2 hrow;by_cases h1:v0<=x
   ·by_cases h2:x<=v1
    ·have H12:=jH (And.intro h1 h2);obtain ⟨g0,g1,g2,g3,g4⟩:=hrow;go_wp2;go_ret;refine ⟨?_,HB.out⟩;unfold Cm Jc;rw [Mn x Sk k hlt (by rw [HY.out];exact H12.out.1) (by rw [HY.out];exact H12.out.2),HY.out];rfl
    ·have H2:=jH h2;have h2':decide (x<=v1)=false:=by simpa using h2
     clear hrow;go_wp2;exact ⟨⟨k+1,by omega,by go_num,jH (Lh (q:=λy=>y.lo<=x/\x<=y.hi) A.out HY.out (λh=>H2.out h.2))⟩,by simp [intOf];omega⟩
   ·have H1:=jH h1;have h1':decide (v0<=x)=false:=by simpa using h1
    clear hrow;go_wp2;exact ⟨⟨k+1,by omega,by go_num,jH (Lh (q:=λy=>y.lo<=x/\x<=y.hi) A.out HY.out (λh=>H1.out h.1))⟩,by simp [intOf];omega⟩
  ·have hkz:¬ (k:Int)<11:=jO
   go_wp2;go_ret;refine ⟨?_,HB.out⟩;unfold Cm Jc;rw [J5 x (λj hj=>A.out j (by have:lowers.length=11:=rfl;omega))];rfl
theorem Su (x:Int) (w:World):Calls prog 68 #[.int .i32 x] w λe w'=>e=.returned (.bool (Bf x))/\w=w':=by
 unfold Bf;cases h1:decide (65281<=x)<;>cases h2:decide (x<=65374)
 all_goals
  go_enter func68,ntmps68;go_wp2
  all_goals
   go_ret
   first | exact ⟨rfl,rfl⟩ | (simp at h1 h2;omega)
theorem Am7 (x:Int) (h:Bf x=true):Aj x=some ⟨x,x - 65248,0,true,true⟩:=by
 unfold Aj;cases hr:rowOf x with
 | none=>simp [h]
 | some y =>
  exfalso;obtain ⟨hy,h1,h2⟩:=Co hr;have:∀ y ∈ splits,y.rune<65281\/65374<y.rune:=by decide +kernel
  have:=this y hy;simp only [Bf,jag,decide_eq_true_eq] at h;omega
end
section
open Go.RowKit
theorem Acs (w:World) {w1:World} (hb1:Below (w.alloc (.cells #[.int .i32 0,.int .i32 0,.int .i32 0,.bool false,.bool false] 69)).heap.size (w.alloc (.cells #[.int .i32 0,.int .i32 0,.int .i32 0,.bool false,.bool false] 69)) w1) :
  (∀ i,w1.frozen? ⟨w.heap.size,i,none⟩=false)/\w1.cell? ⟨w.heap.size,0,none⟩=some (.int .i32 0)/\w1.cell? ⟨w.heap.size,1,none⟩=some (.int .i32 0)/\w1.cell? ⟨w.heap.size,2,none⟩=some (.int .i32 0)/\w1.cell? ⟨w.heap.size,3,none⟩=some (.bool false)/\w1.cell? ⟨w.heap.size,4,none⟩=some (.bool false):=by
 have hc:∀ i,w1.cell? ⟨w.heap.size,i,none⟩=_:=λi=>hb1.cell (p:=⟨w.heap.size,i,none⟩) (show w.heap.size<_ by simp);exact ⟨λi=>(hb1.frozen (p:=⟨w.heap.size,i,none⟩) (show w.heap.size<_ by simp)).trans (by go_simp),
  (hc 0).trans (by go_simp),(hc 1).trans (by go_simp),(hc 2).trans (by go_simp),(hc 3).trans (by go_simp),(hc 4).trans (by go_simp)⟩
theorem Aez (x:Int) (h:Bf x=false):Aj x=rowOf x:=by
 unfold Aj;cases rowOf x<;>simp [h]
theorem La (x:Int) (w:World):Calls prog 113 #[.int .i32 x] w (Tj (Aj x) w):=by
 have hw:=λW=>Su x W;cases h:Bf x with
 | true =>
  rw [Am7 x h];simp only [h] at hw;have HW:=jH hw;simp only [Bf,jag,decide_eq_true_eq] at h;obtain ⟨h1,h2⟩:=h;clear hw;go_enter func113,ntmps113;go_wp2_with fail;refine (HW.out _).mono ?_;rintro e w1 ⟨rfl,rfl⟩;go_wp2;refine bodyPost_ret (v:=.tuple #[.agg #[.int .i32 x,.int .i32 (x - 65248),.int .i32 0,.bool true,.bool true],.bool true]) (by simp [results,results113,go_sem]) rfl ⟨rfl,?_⟩;exact (jan _ w).alloc (jaa _) _
 | false =>
  rw [Aez x h];simp only [h] at hw;have HW:=jH hw;clear hw h;go_enter func113,ntmps113;go_wp2_with fail;refine (HW.out _).mono ?_;rintro e w1 ⟨rfl,rfl⟩;go_wp2_with fail;refine (Am0 _).mono ?_;rintro e w1 ⟨b,rfl,n0,l0,hb1⟩;obtain ⟨fz,d0,d1,d2,d3,d4⟩:=Acs w hb1;have HL:=jH l0;have HB:=jH (((jan _ w).alloc (jaa _) _).trans (hb1.mono jS));have hne:b ≠ w.heap.size:=by simp at n0;omega
  clear l0 hb1 n0;go_wp2;go_loop [5] (λi=>∃ k:Nat,k<=42/\i=.int .i64 k/\Hid (∀ j,j<k->¬ (splits[j]!.rune<=x/\x<=splits[j]!.rune))) (λi=>42 - (intOf i).toNat)
  case atStart=>exact ⟨0,Nat.zero_le _,rfl,λj hj=>absurd hj (Nat.not_lt_zero _)⟩
  case round =>
   obtain ⟨k,hk,rfl,A⟩:=hrel;by_cases hlt:k<42
   ·have hkz:(k:Int)<42:=jO
    obtain ⟨e0,e1,e2,e3,e4⟩:=V8 HL.out k hlt splits[k]! rfl;generalize hy:splits[k]! = y at e0 e1 e2 e3 e4;obtain ⟨v0,v1,v2,v3,v4⟩:=y;have HY:=jH hy;clear hy;simp only at e0 e1 e2 e3 e4;by_cases h1:v0=x
    ·have H1:=jH h1;have h1':(v0 == x)=true:=by simpa using h1
     clear h1;go_wp2;refine bodyPost_ret (v:=.tuple #[.agg #[.int .i32 v0,.int .i32 v1,.int .i32 v2,.bool v3,.bool v4],.bool true]) (by simp [results,results113,go_sem,d0,d1,d2,d3,d4]) rfl ⟨?_,Hy HB.out (jaa _) _ _ _ _ _⟩;unfold rowOf;rw [Mn x Ta k hlt (by rw [HY.out];exact Int.le_of_eq H1.out) (by rw [HY.out];exact Int.le_of_eq H1.out.symm),HY.out];rfl
    ·have H1:=jH h1;have h1':(v0 == x)=false:=by simpa using h1
     clear h1;go_wp2;exact ⟨⟨k+1,by omega,by go_num,jH (Lh (q:=λy=>y.rune<=x/\x<=y.rune) A.out HY.out (λh=>H1.out (Int.le_antisymm h.1 h.2)))⟩,by simp [intOf];omega⟩
   ·have hkz:¬ (k:Int)<42:=jO
    go_wp2;refine bodyPost_ret (v:=.tuple #[.agg #[.int .i32 0,.int .i32 0,.int .i32 0,.bool false,.bool false],.bool false]) (by simp [results,results113,go_sem,d0,d1,d2,d3,d4]) rfl ⟨?_,Hy HB.out (jaa _) _ _ _ _ _⟩;unfold rowOf;rw [J5 x (λj hj=>A.out j (by have:splits.length=42:=rfl;omega))];rfl
theorem Afu {p:Sp->Bool} {rows:List Sp} {k:Nat} (A:∀ j,j<k->p rows[j]! = false) {y:Sp} (hy:rows[k]! = y) (h:p y=false):∀ j,j<k+1->p rows[j]! = false:=λj hj=>by
 by_cases e:j=k
 · subst e;rw [hy];exact h
 · exact A j jO
theorem Acr (a b:Int) (w:World):Calls prog 154 #[.int .i32 a,.int .i32 b] w (Ms (D3 a b) w):=by
 go_enter func154,ntmps154;go_wp2_with fail;refine (Am0 _).mono ?_;rintro e w1 ⟨c,rfl,n0,l0,hb1⟩;have HL:=jH l0;have HB:=jH hb1;clear l0 hb1 n0;go_wp2;go_loop [7] (λi=>∃ k:Nat,k<=42/\i=.int .i64 k/\Hid (∀ j,j<k->makes a b splits[j]! = false)) (λi=>42 - (intOf i).toNat)
 case atStart=>exact ⟨0,Nat.zero_le _,rfl,λj hj=>absurd hj (Nat.not_lt_zero _)⟩
 case round =>
  obtain ⟨k,hk,rfl,A⟩:=hrel;by_cases hb0:b=0
  ·have hbb:(b != 0)=false:=by simpa using hb0
   have HZ:=jH hb0;clear hb0;by_cases hlt:k<42
   ·have hkz:(k:Int)<42:=jO
    go_wp2;go_ret2;refine ⟨?_,HB.out⟩;unfold D3;rw [if_pos HZ.out];rfl
   ·have hkz:decide ((k:Int)<42)=false:=by simp;omega
    go_wp2;go_ret2;refine ⟨?_,HB.out⟩;unfold D3;rw [if_pos HZ.out];rfl
  ·have hbb:(b != 0)=true:=by simpa using hb0
   have HZ:=jH hb0;clear hb0;by_cases hlt:k<42
   ·have hkz:(k:Int)<42:=jO
    obtain ⟨e0,e1,e2,e3,e4⟩:=V8 HL.out k hlt splits[k]! rfl;generalize hy:splits[k]! = y at e0 e1 e2 e3 e4;obtain ⟨v0,v1,v2,v3,v4⟩:=y;have HY:=jH hy;clear hy;simp only at e0 e1 e2 e3 e4;have hm:makes a b ⟨v0,v1,v2,v3,v4⟩=(!v3 && !v4 && (v1 == a) && (v2 == b)):=rfl;cases v3<;>cases v4<;>cases h1:(v1 == a)<;>cases h2:(v2 == b)
    all_goals
     rw [h1,h2] at hm;have HM:=jH hm;clear hm;go_wp2
     first
      | exact ⟨⟨k+1,by omega,by go_num,jH (Afu A.out HY.out HM.out)⟩,by simp [intOf];omega⟩
      | (
       go_ret2;refine ⟨?_,HB.out⟩;unfold D3;rw [if_neg HZ.out,Me (makes a b) splits k hlt A.out (by rw [HY.out];exact HM.out),HY.out];rfl)
   ·have hkz:decide ((k:Int)<42)=false:=by simp;omega
    go_wp2;go_ret2;refine ⟨?_,HB.out⟩;unfold D3;rw [if_neg HZ.out,M9 (makes a b) splits (λj hj=>A.out j (by have:splits.length=42:=rfl;omega))];rfl
end
section
open Go.RowKit
def tbl (b0 b1 b2 b3:Nat):Value:=.agg #[.slice (some ⟨b0,0,none⟩) 74 74,.slice (some ⟨b1,0,none⟩) 10 10,.slice (some ⟨b2,0,none⟩) 11 11,.slice (some ⟨b3,0,none⟩) 42 42]
def Hv (S b0 b1 b2 b3:Nat) (w:World):Prop :=
 S<w.heap.size/\w.cell? ⟨S,0,none⟩=some (.slice (some ⟨b0,0,none⟩) 74 74)/\w.cell? ⟨S,1,none⟩=some (.slice (some ⟨b1,0,none⟩) 10 10)/\w.cell? ⟨S,2,none⟩=some (.slice (some ⟨b2,0,none⟩) 11 11)/\w.cell? ⟨S,3,none⟩=some (.slice (some ⟨b3,0,none⟩) 42 42)
theorem Hv.below {S b0 b1 b2 b3:Nat} {w w':World} (h:Hv S b0 b1 b2 b3 w) (hb:Below w.heap.size w w'):Hv S b0 b1 b2 b3 w' :=
 ⟨jas h.1 hb.size,(hb.cell (p:=⟨S,0,none⟩) h.1).trans h.2.1,(hb.cell (p:=⟨S,1,none⟩) h.1).trans h.2.2.1,(hb.cell (p:=⟨S,2,none⟩) h.1).trans h.2.2.2.1,(hb.cell (p:=⟨S,3,none⟩) h.1).trans h.2.2.2.2⟩
theorem Hk (w:World) (b0 b1 b2 b3:Nat) (T:TypeId):Hv w.heap.size b0 b1 b2 b3 (w.alloc (.cells #[.slice (some ⟨b0,0,none⟩) 74 74,.slice (some ⟨b1,0,none⟩) 10 10,.slice (some ⟨b2,0,none⟩) 11 11,.slice (some ⟨b3,0,none⟩) 42 42] T)) :=
 ⟨by simp,by simp,by simp,by simp,by simp⟩
structure Kept (w0:World) (S b0 b1 b2 b3:Nat) (w:World):Prop where
 below:Below w0.heap.size w0 w
 held:Hv S b0 b1 b2 b3 w
 table:Table w (tbl b0 b1 b2 b3)
theorem Kept.next {w0:World} {S b0 b1 b2 b3:Nat} {w w':World} (h:Kept w0 S b0 b1 b2 b3 w) (hb:Below w.heap.size w w'):Kept w0 S b0 b1 b2 b3 w' :=
 ⟨h.below.trans (hb.mono h.below.size),h.held.below hb,h.table.below hb⟩
theorem Kept.alloc {w0:World} {S b0 b1 b2 b3:Nat} {w:World} (h:Kept w0 S b0 b1 b2 b3 w) (o:Obj):Kept w0 S b0 b1 b2 b3 (w.alloc o):=h.next ((jan _ w).alloc (jaa _) o)
theorem Kept.drew {w0:World} {S b0 b1 b2 b3:Nat} {w:World} (h:Kept w0 S b0 b1 b2 b3 w):Kept w0 S b0 b1 b2 b3 w.drew:=h.next ((jan _ w).drew)
theorem cell_kept {w w':World} {b o:Nat} {v:Value} (hc:w.cell? ⟨b,o,none⟩=some v) (hb:Below w.heap.size w w'):w'.cell? ⟨b,o,none⟩=some v :=
 jB hb hc
theorem Cs {w0 w1:World} {b0 b1 b2 b3:Nat} (hb:Below w0.heap.size w0 w1) (hT:Table w1 (tbl b0 b1 b2 b3)) (T:TypeId) :
  Kept w0 w1.heap.size b0 b1 b2 b3 (w1.alloc (.cells #[.slice (some ⟨b0,0,none⟩) 74 74,.slice (some ⟨b1,0,none⟩) 10 10,.slice (some ⟨b2,0,none⟩) 11 11,.slice (some ⟨b3,0,none⟩) 42 42] T)) :=
 ⟨hb.alloc hb.size _,Hk _ _ _ _ _ _,hT.below ((jan _ _).alloc (jaa _) _)⟩
theorem Asj {w0:World} {S b0 b1 b2 b3:Nat} {w:World} (h:Kept w0 S b0 b1 b2 b3 w) {x:Int} {v:Int} (hv:Bm x=v) :
  Calls prog 125 #[.agg #[.slice (some ⟨b0,0,none⟩) 74 74,.slice (some ⟨b1,0,none⟩) 10 10,.slice (some ⟨b2,0,none⟩) 11 11,.slice (some ⟨b3,0,none⟩) 42 42],.int .i32 x] w λe w'=>e=.returned (.int .i64 v)/\Hid (Kept w0 S b0 b1 b2 b3 w')/\Hid (Below w.heap.size w w'):=by
 subst hv;exact (Zl _ x w h.table).mono λ_ _ ⟨he,hb⟩=>⟨he,h.next hb,hb⟩
theorem Arw {w0:World} {S b0 b1 b2 b3:Nat} {w:World} (h:Kept w0 S b0 b1 b2 b3 w) {x:Int} {v:Int} (hv:Ao x=v) :
  Calls prog 205 #[.agg #[.slice (some ⟨b0,0,none⟩) 74 74,.slice (some ⟨b1,0,none⟩) 10 10,.slice (some ⟨b2,0,none⟩) 11 11,.slice (some ⟨b3,0,none⟩) 42 42],.int .i32 x] w λe w'=>e=.returned (.int .i64 v)/\Hid (Kept w0 S b0 b1 b2 b3 w')/\Hid (Below w.heap.size w w'):=by
 subst hv;exact (Ow _ x w h.table).mono λ_ _ ⟨he,hb⟩=>⟨he,h.next hb,hb⟩
theorem Arz {w0:World} {S b0 b1 b2 b3:Nat} {w:World} (h:Kept w0 S b0 b1 b2 b3 w) {x:Int} {v:Int} (hv:Ck x=v) :
  Calls prog 241 #[.agg #[.slice (some ⟨b0,0,none⟩) 74 74,.slice (some ⟨b1,0,none⟩) 10 10,.slice (some ⟨b2,0,none⟩) 11 11,.slice (some ⟨b3,0,none⟩) 42 42],.int .i32 x] w λe w'=>e=.returned (.int .i64 v)/\Hid (Kept w0 S b0 b1 b2 b3 w')/\Hid (Below w.heap.size w w'):=by
 subst hv;exact (U9 _ x w h.table).mono λ_ _ ⟨he,hb⟩=>⟨he,h.next hb,hb⟩
theorem Aqz {w0:World} {S b0 b1 b2 b3:Nat} {w:World} (h:Kept w0 S b0 b1 b2 b3 w) {x:Int} {v:Int} (hv:Aq x=v) :
  Calls prog 236 #[.agg #[.slice (some ⟨b0,0,none⟩) 74 74,.slice (some ⟨b1,0,none⟩) 10 10,.slice (some ⟨b2,0,none⟩) 11 11,.slice (some ⟨b3,0,none⟩) 42 42],.int .i32 x] w λe w'=>e=.returned (.int .i64 v)/\Hid (Kept w0 S b0 b1 b2 b3 w')/\Hid (Below w.heap.size w w'):=by
 subst hv;exact (Ld _ x w h.table).mono λ_ _ ⟨he,hb⟩=>⟨he,h.next hb,hb⟩
theorem Ara {w0:World} {S b0 b1 b2 b3:Nat} {w:World} (h:Kept w0 S b0 b1 b2 b3 w) {x:Int} {v:Int} (hv:Ab x=v) :
  Calls prog 151 #[.agg #[.slice (some ⟨b0,0,none⟩) 74 74,.slice (some ⟨b1,0,none⟩) 10 10,.slice (some ⟨b2,0,none⟩) 11 11,.slice (some ⟨b3,0,none⟩) 42 42],.int .i32 x] w λe w'=>e=.returned (.int .i64 v)/\Hid (Kept w0 S b0 b1 b2 b3 w')/\Hid (Below w.heap.size w w'):=by
 subst hv;exact (Ij _ x w h.table).mono λ_ _ ⟨he,hb⟩=>⟨he,h.next hb,hb⟩
theorem Aro {w0:World} {S b0 b1 b2 b3:Nat} {w:World} (h:Kept w0 S b0 b1 b2 b3 w) {x:Int} {v:Int} (hv:Cm x=v) :
  Calls prog 64 #[.agg #[.slice (some ⟨b0,0,none⟩) 74 74,.slice (some ⟨b1,0,none⟩) 10 10,.slice (some ⟨b2,0,none⟩) 11 11,.slice (some ⟨b3,0,none⟩) 42 42],.int .i32 x] w λe w'=>e=.returned (.int .i32 v)/\Hid (Kept w0 S b0 b1 b2 b3 w')/\Hid (Below w.heap.size w w'):=by
 subst hv;exact (Yc _ x w h.table).mono λ_ _ ⟨he,hb⟩=>⟨he,h.next hb,hb⟩
theorem Aq1 {w0:World} {S b0 b1 b2 b3:Nat} {w:World} (h:Kept w0 S b0 b1 b2 b3 w) {x v0 v1 v2:Int} {v3 v4 is:Bool} {o:Option Sp} (ho:Aj x=o) (hv:o.getD default=⟨v0,v1,v2,v3,v4⟩) (hi:o.isSome=is) :
  Calls prog 101 #[.agg #[.slice (some ⟨b0,0,none⟩) 74 74,.slice (some ⟨b1,0,none⟩) 10 10,.slice (some ⟨b2,0,none⟩) 11 11,.slice (some ⟨b3,0,none⟩) 42 42],.int .i32 x] w λe w'=>e=.returned (.tuple #[.agg #[.int .i32 v0,.int .i32 v1,.int .i32 v2,.bool v3,.bool v4],.bool is])/\Hid (Kept w0 S b0 b1 b2 b3 w')/\Hid (Below w.heap.size w w'):=by
 subst ho;exact (J6 _ x w h.table).mono λ_ _ ⟨he,hb⟩=>⟨by rw [he,hv,hi];rfl,h.next hb,hb⟩
theorem Asb {w0:World} {S b0 b1 b2 b3:Nat} {w:World} (h:Kept w0 S b0 b1 b2 b3 w) {a b v:Int} {is:Bool} {o:Option Int} (ho:D3 a b=o) (hv:o.getD 0=v) (hi:o.isSome=is) :
  Calls prog 195 #[.agg #[.slice (some ⟨b0,0,none⟩) 74 74,.slice (some ⟨b1,0,none⟩) 10 10,.slice (some ⟨b2,0,none⟩) 11 11,.slice (some ⟨b3,0,none⟩) 42 42],.int .i32 a,.int .i32 b] w λe w'=>e=.returned (.tuple #[.int .i32 v,.bool is])/\Hid (Kept w0 S b0 b1 b2 b3 w')/\Hid (Below w.heap.size w w'):=by
 subst ho;exact (Aci _ a b w h.table).mono λ_ _ ⟨he,hb⟩=>⟨by rw [he,hv,hi],h.next hb,hb⟩
theorem Aoo:Aj 65313=some ⟨65313,65,0,true,true⟩:=by kernel_rfl
theorem Aqg:D3 65 776=some 196:=by decide +kernel
theorem Aqx:D3 197 0=none:=by decide +kernel
end
