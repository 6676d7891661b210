import Derived.Deep.WholeRow
import Derived.Defers
import Derived.Laws.Pointers
import Derived.Laws.LoneSync
import Derived.RegionCalls
import Derived.Laws.CopyOwn
import Derived.Test.YtipkfalbepiphaaGreatDoorLexB
set_option maxRecDepth 100000
set_option maxHeartbeats 8000000
namespace Go.Proofs.YtipkfalbepiphaaGreatDoor
open Tryz
section
open Go.RowKit Utf
def Cj (f:Nat->Value) (v:Value):List Value:=(List.range 256).map f ++ [v]
theorem Gz (f:Nat->Value) (v:Value):(Cj f v).length=257:=by simp [Cj]
theorem Ob (f:Nat->Value) (v:Value) (k:Nat) (hk:k<256):(Cj f v)[k]? = some (f k):=by
 unfold Cj;rw [List.getElem?_append_left (by simpa using hk)];simp [hk]
theorem Ks (f:Nat->Value) (v:Value):(Cj f v)[256]? = some v:=by
 unfold Cj;rw [List.getElem?_append_right jS];simp
theorem Ags (f:Nat->Value) (v x:Value) (k:Nat) (hk:k<256):(Cj f v).set k x=Cj (λj=>if j=k then x else f j) v:=by
 apply List.ext_getElem?;intro j;by_cases hj:j<256
 ·rw [Ob _ _ _ hj,List.getElem?_set,Gz];by_cases e:k=j
  ·subst e;simp;omega
  ·rw [if_neg e,if_neg (λh=>e h.symm),Ob _ _ _ hj]
 ·by_cases h6:j=256
  ·subst h6;rw [Ks,List.getElem?_set_ne jO,Ks]
  ·rw [List.getElem?_eq_none (by rw [List.length_set,Gz];omega),List.getElem?_eq_none (by rw [Gz];omega)]
theorem Agr (f:Nat->Value) (v x:Value):(Cj f v).set 256 x=Cj f x:=by
 unfold Cj;rw [List.set_append_right _ _ jS];simp
def D7 (B:Nat) (f:Nat->Value) (v:Value) (w:World):Prop:=w.heap[B]? = some (.cells (Cj f v).toArray 214 (0,0))
theorem D7.lt {B:Nat} {f:Nat->Value} {v:Value} {w:World} (h:D7 B f v w):B<w.heap.size:=(Array.getElem?_eq_some_iff.1 h).1
theorem D7.at_ {B:Nat} {f:Nat->Value} {v:Value} {w:World} (h:D7 B f v w) (k:Nat) (hk:k<256):w.cell? ⟨B,k,none⟩=some (f k):=by
 have:=Ob f v k hk;unfold D7 at h;simp [World.cell?,h,this]
theorem D7.last {B:Nat} {f:Nat->Value} {v:Value} {w:World} (h:D7 B f v w):w.cell? ⟨B,256,none⟩=some v:=by
 have:=Ks f v;unfold D7 at h;simp [World.cell?,h,this]
theorem D7.free {B:Nat} {f:Nat->Value} {v:Value} {w:World} (h:D7 B f v w) (k:Nat):w.frozen? ⟨B,k,none⟩=false:=by unfold D7 at h;simp [World.frozen?,h]
theorem D7.set {B:Nat} {f:Nat->Value} {v:Value} {w:World} (h:D7 B f v w) (k:Nat) (hk:k<256) (x:Value):D7 B (λj=>if j=k then x else f j) v (w.setCell ⟨B,k,none⟩ x):=by
 unfold D7 at h ⊢;rw [<- Ags f v x k hk];simp [World.setCell,Array.getElem?_modify,h]
theorem D7.put {B:Nat} {f:Nat->Value} {v:Value} {w:World} (h:D7 B f v w) (x:Value):D7 B f x (w.setCell ⟨B,256,none⟩ x):=by
 unfold D7 at h ⊢;rw [<- Agr f v x];simp [World.setCell,Array.getElem?_modify,h]
theorem D7.Ac {B:Nat} {f:Nat->Value} {v:Value} {w w':World} (h:D7 B f v w) (hb:Below w.heap.size w w'):D7 B f v w':=(hb.block B h.lt).trans h
theorem D7.grown {B:Nat} {f:Nat->Value} {v:Value} {w w':World} {row:Option Nat} (h:D7 B f v w) (hg:w.grownBy w' row) (hne:some B ≠ row):D7 B f v w':=(hg.block B h.lt hne).trans h
theorem A2m (v:Value):Tryz.zeroCells214.toList.set 256 v=Cj (λ_=>.slice none 0 0) v:=by kernel_rfl
theorem A2l:Tryz.zeroCells214.size=257:=by kernel_rfl
theorem A1r:(Tryz.prog.info? 214).map (·.size)=some 257:=by kernel_rfl
theorem Avo (v:Value) (hv:v.oneCell'=true) (W:World):(storeCells ⟨W.heap.size,0,none⟩ (Tryz.zeroCells214.toList.set 256 v)).run prog (W.alloc (.cells Tryz.zeroCells214 214))=.ok () (W.alloc (.cells (Cj (λ_=>.slice none 0 0) v).toArray 214)):=by
 have h:=run_storeCells_new (P:=prog) W 214 Tryz.zeroCells214 (Cj (λ_=>.slice none 0 0) v).toArray (by rw [A1r,List.size_toArray,Gz]) (by rw [A2l,List.size_toArray,Gz]) (by
  rw [Array.all_eq_true];intro i hi;simp only [List.getElem_toArray];have hm:=List.getElem_mem (l:=Cj (λ_=>.slice none 0 0) v) (n:=i) (by simpa using hi);generalize (Cj (λ_=>Value.slice none 0 0) v)[i]'(by simpa using hi)=u at hm;unfold Cj at hm;rw [jap] at hm;rcases hm with hm | hm
  ·obtain ⟨j,-,rfl⟩:=List.mem_map.1 hm;rfl
  ·rw [List.mem_singleton.1 hm];exact hv)
 rw [A2m];exact h
structure Nf (base B T:Nat) (f:Nat->Value) (l:List (List UInt8)) (W:World):Prop where
 rep:D7 B f (.slice (some ⟨T,0,none⟩) l.length 2) W
 own:Ck base (.slice (some ⟨T,0,none⟩) l.length 2) l W
 ne:T ≠ B
 low:base<=B
theorem Nf.Ac {base B T:Nat} {f:Nat->Value} {l:List (List UInt8)} {W W':World} (h:Nf base B T f l W) (hb:Below W.heap.size W W'):Nf base B T f l W':=⟨h.rep.Ac hb,h.own.Ac hb,h.ne,h.low⟩
theorem Ck.set {base B:Nat} {v:Value} {l:List (List UInt8)} {w:World} (h:Ck base v l w) (hne:some B ≠ v.ownBlock) (k:Nat) (x:Value):Ck base v l (w.setCell ⟨B,k,none⟩ x):=by
 refine ⟨h.1,?_⟩;rcases h.2 with h0 | ⟨g,cap,cur,rfl,h1,hg,h2⟩
 ·exact .inl h0
 ·refine .inr ⟨g,cap,cur,rfl,h1,?_,h2⟩;rw [<- hg];exact Below.heap_setCell _ _ _ _ (λe=>hne (by rw [show (⟨B,k,none⟩:Addr).block=B from rfl] at e;rw [e];rfl))
theorem Nf.set {base B T:Nat} {f:Nat->Value} {l:List (List UInt8)} {W:World} (h:Nf base B T f l W) (k:Nat) (hk:k<256) (x:Value):Nf base B T (λj=>if j=k then x else f j) l (W.setCell ⟨B,k,none⟩ x) :=
 ⟨h.rep.set k hk x,h.own.set (λe=>h.ne (by injection e with e;exact e.symm)) k x,h.ne,h.low⟩
theorem Xu (W:World) (base T:Nat) (l:List (List UInt8)) (hown:Ck base (.slice (some ⟨T,0,none⟩) l.length 2) l W) (hl:l.length<2) (x:List UInt8)
  (N:Nat) (hN:N=W.heap.size)
  {ops:Array Oper} {rest:List Oper} {o:Oper} {a:Act} {Q:Exit->Act->World->Prop} (hgd:o.guard=none) (s y:Operand)
  (ho:o.op=.call { callee:=.builtin .append,args:=#[s,y],argTypes:=#[120,120] })
  (hs:a.eval s=.slice (some ⟨T,0,none⟩) l.length 2) (hx:a.eval y=.slice (some ⟨N,0,none⟩) 1 1)
  (h:∀ w',Ck base (.slice (some ⟨T,0,none⟩) (l.length+1) 2) (l ++ [x]) w'->(W.alloc (.cells #[.string ⟨x.toArray⟩] 9)).grownBy w' (some T)->wpList prog ops Q rest (a.put o.dst (.slice (some ⟨T,0,none⟩) (l.length+1) 2)) w'):wpList prog ops Q (o::rest) a (W.alloc (.cells #[.string ⟨x.toArray⟩] 9)):=by
 subst hN;obtain ⟨i0,hi0,hz0,hs0,hb0⟩:=info_parts Lh;have hown':=World.ownsRow.alloc hown (.cells #[.string ⟨x.toArray⟩] 9);refine wpList_append_fits _ hgd s y 120 ho base 9 i0 1 underlying120 hi0 hs0 T l.length 2 (l.map J9) hs hown' ⟨W.heap.size,0,none⟩ 1 1 [.string ⟨x.toArray⟩] hx rfl ?_ (λu hu=>by rw [List.mem_singleton.1 hu];rfl) jO ?_
 ·intro j u hj;have e:(⟨W.heap.size,0,none⟩:Addr).add j=⟨W.heap.size,j,none⟩:=by unfold Addr.add;split<;>simp_all
  have hj':j<1:=(List.getElem?_eq_some_iff.1 hj).1;rw [e,World.cell?_alloc_at _ _ _ _ jS];rw [<- hj];obtain rfl:j=0:=jO
  rfl
 ·intro w' ho' hg;refine h w' ?_ hg;unfold Ck;rw [jab,List.map_append];exact ho'
def M9 (q:Nat) (a b:Int) (W:World):Prop:=q<W.heap.size/\W.cell? ⟨q,0,none⟩=some (.int .u8 a)/\W.cell? ⟨q,1,none⟩=some (.int .u8 b)
theorem M9.Ac {q:Nat} {a b:Int} {W W':World} (h:M9 q a b W) (hs:W.heap.size<=W'.heap.size) (hk:W'.heap[q]? = W.heap[q]?):M9 q a b W' :=
 ⟨jas h.1 hs,(World.cell?_of_block (a:=⟨q,0,none⟩) hk).trans h.2.1,(World.cell?_of_block (a:=⟨q,1,none⟩) hk).trans h.2.2⟩
def Qe (T:Nat) (a b:ByteArray) (W:World):Prop:=T<W.heap.size/\W.cell? ⟨T,0,none⟩=some (.string a)/\W.cell? ⟨T,1,none⟩=some (.string b)
theorem Qe.Ac {T:Nat} {a b:ByteArray} {W W':World} (h:Qe T a b W) (hs:W.heap.size<=W'.heap.size) (hk:W'.heap[T]? = W.heap[T]?):Qe T a b W' :=
 ⟨jas h.1 hs,(World.cell?_of_block (a:=⟨T,0,none⟩) hk).trans h.2.1,(World.cell?_of_block (a:=⟨T,1,none⟩) hk).trans h.2.2⟩
def Kx (base B:Nat) (W:World):Prop:=∃ p q c1 c2 T,base<=B/\base<=p/\base<=q/\base<=T/\D7 B (λj=>if j=34 then .slice (some ⟨p,0,none⟩) 2 c1 else if j=92 then .slice (some ⟨q,0,none⟩) 2 c2 else .slice none 0 0) (.slice (some ⟨T,0,none⟩) 2 2) W/\M9 p 92 34 W/\M9 q 92 92 W/\Qe T ⟨#[92]⟩ ⟨#[34]⟩ W
theorem Kx.set {base B g:Nat} {W:World} (h:Kx base B W) (hg:g<base) (i:Nat) (v:Value):Kx base B (W.setCell ⟨g,i,none⟩ v):=by
 obtain ⟨p,q,c1,c2,T,l1,l2,l3,l4,h1,h2,h3,h4⟩:=h;exact ⟨p,q,c1,c2,T,l1,l2,l3,l4,(Below.heap_setCell _ _ _ _ (show B ≠ g by omega)).trans h1,h2.Ac jS (Below.heap_setCell _ _ _ _ (show p ≠ g by omega)),h3.Ac jS (Below.heap_setCell _ _ _ _ (show q ≠ g by omega)),h4.Ac jS (Below.heap_setCell _ _ _ _ (show T ≠ g by omega))⟩
theorem Nf.bytes {base B T:Nat} {f:Nat->Value} {l:List (List UInt8)} {W:World} (h:Nf base B T f l W) (S:ByteArray) (hS:S.size=2) (k:Nat) (hk:k<256) :
  ∃
   cap W1,(convert 9 45 (.string S)).run prog W=.ok (.slice (some ⟨W.heap.size,0,none⟩) 2 cap) W1/\W1.cell? ⟨B,k,none⟩=some (f k)/\W1.frozen? ⟨B,k,none⟩=false/\Below W.heap.size W W1 /\
   Nf base B T (λj=>if j=k then .slice (some ⟨W.heap.size,0,none⟩) 2 cap else f j) l (W1.setCell ⟨B,k,none⟩ (.slice (some ⟨W.heap.size,0,none⟩) 2 cap)) /\
   M9 W.heap.size (S[0].toNat:Int) (S[1].toNat:Int) (W1.setCell ⟨B,k,none⟩ (.slice (some ⟨W.heap.size,0,none⟩) 2 cap)):=by
 obtain ⟨cap,W1,hrun,hcell,hb,hlt⟩:=Ah8 S W;rw [hS] at hrun;have hr:=h.Ac hb;have hBW:=h.rep.lt;have hne:(⟨B,k,none⟩:Addr).block ≠ W.heap.size:=by show B ≠ _;omega
 refine ⟨cap,W1,hrun,hr.rep.at_ k hk,hr.rep.free k,hb,hr.set k hk _,?_⟩;refine M9.Ac (W:=W1) ⟨hlt,hcell 0 jO,hcell 1 jO⟩ jS (Below.heap_setCell _ _ _ _ (λe=>hne e.symm))
theorem nil_eq (W:World):(binOp .eql 45 (.slice none 0 0) (.slice none 0 0)).run prog W=.ok (.bool true) W:=by kernel_rfl
theorem Aoq (W:World):(binOp .neq 45 (.slice none 0 0) (.slice none 0 0)).run prog W=.ok (.bool false) W:=by kernel_rfl
theorem Ag3 (a:Addr) (n c:Nat) (W:World):(binOp .neq 45 (.slice (some a) n c) (.slice none 0 0)).run prog W=.ok (.bool true) W:=by kernel_rfl
theorem Ah7 (W:World) (b:UInt8) (v:Value) (hv:v=.int .u8 (b.toNat:Int)):(convert 45 9 (.slice (some ⟨W.heap.size,0,none⟩) 1 1)).run prog (W.alloc (.cells #[v] 5))=.ok (.string ⟨#[b]⟩) (W.alloc (.cells #[v] 5)):=by
 subst hv;refine run_convert_bytes_back _ 45 9 5 ⟨W.heap.size,0,none⟩ 1 [b] underlying45 underlying5 underlying9 λj hj=>?_;have hj0:j=0:=by simpa using hj
 subst hj0;rw [show (⟨W.heap.size,0,none⟩:Addr).add 0=⟨W.heap.size,0,none⟩ by unfold Addr.add;simp,World.cell?_alloc_at _ _ _ _ jS];rfl
theorem Nf.more {base B T:Nat} {f:Nat->Value} {l:List (List UInt8)} {W W1 w2:World} {x:List UInt8} (h:Nf base B T f l W) (h1:Below W.heap.size W W1) (hg:W1.grownBy w2 (some T)) (ho:Ck base (.slice (some ⟨T,0,none⟩) (l.length+1) 2) (l ++ [x]) w2) :
  (∃ v,w2.cell? ⟨B,256,none⟩=some v)/\w2.frozen? ⟨B,256,none⟩=false/\Nf base B T f (l ++ [x]) (w2.setCell ⟨B,256,none⟩ (.slice (some ⟨T,0,none⟩) (l.length+1) 2)):=by
 have hr:=(h.rep.Ac h1).grown hg (λe=>h.ne (by injection e with e;exact e.symm));refine ⟨⟨_,hr.last⟩,hr.free 256,?_,?_,h.ne,h.low⟩
 ·rw [jab];exact hr.put _
 ·rw [jab];exact ho.set (λe=>h.ne (by injection e with e;exact e.symm)) _ _
theorem Asv (g h c:Nat) (w:World) (h4:w.cell? ⟨g,4,none⟩=some (.slice (some ⟨h,0,none⟩) 4 c)) (hc:4<=c)
  (S0 S1 S2 S3:ByteArray) (e0:S0=⟨#[34]⟩) (e1:S1=⟨#[92,34]⟩) (e2:S2=⟨#[92]⟩) (e3:S3=⟨#[92,92]⟩)
  (s0:w.cell? ⟨h,0,none⟩=some (.string S0)) (s1:w.cell? ⟨h,1,none⟩=some (.string S1)) (s2:w.cell? ⟨h,2,none⟩=some (.string S2)) (s3:w.cell? ⟨h,3,none⟩=some (.string S3)) :
  Calls prog 117 #[.pointer (some ⟨g,0,none⟩)] w λe w'=>∃ B,e=.returned (.iface 215 (.pointer (some ⟨B,0,none⟩)))/\Kx w.heap.size B w'/\Below w.heap.size w w':=by
 have hcz:(4:Int)<=(c:Int):=jO
 have z0:S0.size=1:=by rw [e0];rfl
 have z1:S1.size=2:=by rw [e1];rfl
 have z2:S2.size=1:=by rw [e2];rfl
 have z3:S3.size=2:=by rw [e3];rfl
 have b0:S0[0].toNat=34:=by subst e0;rfl
 have b2:S2[0].toNat=92:=by subst e2;rfl
 have E1:=jH e1;have E3:=jH e3;clear e0 e1 e2 e3;go_enter func117,ntmps117;go_wp2;go_loopg [4,5] 3 (λgk s4 s5 wr=>((s5=.int .i64 0/\s4=.bool true/\2<gk)\/(s5=.int .i64 2/\s4=.bool false/\1<gk)\/(s5=.int .i64 4/\s4=.bool false/\0<gk))/\w=wr)
 case atStart=>exact ⟨.inl ⟨rfl,rfl,by omega⟩,rfl⟩
 case round =>
  obtain ⟨⟨rfl,rfl,hg⟩ | ⟨rfl,rfl,hg⟩ | ⟨rfl,rfl,hg⟩,rfl⟩:=hrel
  ·go_wp2;go_roundg 2
   case measure=>omega
   case rel=>exact ⟨.inr (.inl ⟨rfl,rfl,by omega⟩),rfl⟩
  ·go_wp2;go_roundg 1
   case measure=>omega
   case rel=>exact ⟨.inr (.inr ⟨rfl,rfl,by omega⟩),rfl⟩
  ·obtain ⟨i0,hi0,hz0,hs0,hbb⟩:=info_parts Lh;have hst:=Avo (.slice (some ⟨w.heap.size,0,none⟩) 0 2) rfl;have hlt:h<w.heap.size:=jam _ _ s0;go_wp2_with (at_make;refine wpList_make_own _ rfl _ _ 120 rfl w.heap.size 9 i0 (.string ⟨#[]⟩) 1 underlying120 hi0 hz0 hs0 .i64 .i64 2 2 rfl rfl rfl (by rw [hbb];decide) (by simp only [maxLen];omega) (jaa _) ?_;intro w1 ho1 hg1);obtain ⟨B,hB⟩:∃ B,B=w1.heap.size:=⟨_,rfl⟩
   obtain ⟨W0,hW0⟩:∃ W0,W0=w1.alloc (.cells (Cj (λ_=>.slice none 0 0) (.slice (some ⟨w.heap.size,0,none⟩) 0 2)).toArray 214):=⟨_,rfl⟩
   rw [<- hW0,<- hB];have hB0:Below w.heap.size w w1:=⟨hg1.os,hg1.tape,hg1.output,hg1.size,λk hk=>hg1.block k hk jS⟩
   have hR0:Nf w.heap.size B w.heap.size (λ_=>.slice none 0 0) [] W0:=by
    have hsz:=World.ownsRow.lt ho1 w.heap.size rfl;refine ⟨?_,?_,by omega,by omega⟩
    ·rw [hW0,hB];exact heap_alloc_new w1 _
    ·rw [hW0];exact World.ownsRow.alloc ho1 _
   have hBW:Below w.heap.size w W0:=by rw [hW0];exact hB0.alloc hB0.size _
   have HS:=jH (λ(W:World) (hb:Below w.heap.size w W)=>And.intro ((hb.cell (p:=⟨h,0,none⟩) hlt).trans s0) (And.intro ((hb.cell (p:=⟨h,1,none⟩) hlt).trans s1) (And.intro ((hb.cell (p:=⟨h,2,none⟩) hlt).trans s2) ((hb.cell (p:=⟨h,3,none⟩) hlt).trans s3))));have R0:=jH (And.intro hR0 hBW);clear hW0 hB hB0 hR0 hBW hst ho1 hg1 s0 s1 s2 s3 h4;obtain ⟨T,hT⟩:∃ T,T=w.heap.size:=⟨_,rfl⟩
   rw [<- hT] at R0 ⊢;have HT:=jH hT;clear hT;have hnq:=nil_eq;go_loopg [12] 3 (λgk s12 wr=>(s12=.int .i64 2/\2<gk/\Hid (Nf T B T (λ_=>.slice none 0 0) [] wr/\Below T w wr)) \/
    (s12=.int .i64 0/\1<gk/\Hid (∃ q c2,Nf T B T (λj=>if j=92 then .slice (some ⟨q,0,none⟩) 2 c2 else .slice none 0 0) [[92]] wr/\M9 q 92 92 wr/\q ≠ T/\q ≠ B/\T<=q/\Below T w wr)) \/
    (s12=.int .i64 (-2)/\0<gk/\Hid (Kx T B wr/\Below T w wr)))
   case atStart=>exact .inl ⟨rfl,by omega,R0⟩
   case round =>
    rcases hrel with ⟨rfl,hg,I⟩ | ⟨rfl,hg,I⟩ | ⟨rfl,hg,I⟩
    ·obtain ⟨t0,t1,t2,t3⟩:=HS.out wr (by rw [<- HT.out];exact I.out.2);have c92:=I.out.1.rep.at_ 92 jO;have c256:=I.out.1.rep.last;have hcv:=Ah7 wr 92 (.int .u8 92) rfl;go_wp2_with (at_builtin;refine Xu _ T T [] ((I.out.1.own.Ac (Below.alloc (jan _ wr) (jaa _) _))) jD [92] _ jS rfl _ _ rfl rfl rfl ?_;intro w2 ho2 hg2;obtain ⟨⟨x256,d256⟩,f256,hr2⟩:=I.out.1.more (Below.alloc (Below.alloc (jan _ wr) (jaa _) _) jS _) hg2 ho2);have hTw:T<=wr.heap.size:=Nat.le_trans (by rw [HT.out];exact jaa _) I.out.2.size;have hb2:Below T w (w2.setCell ⟨B,256,none⟩ (.slice (some ⟨T,0,none⟩) 1 2)):=((((I.out.2.alloc hTw _).alloc (by simp;omega) _).grown hg2 (by simp;omega) (λk e=>by cases e;exact jaa _)).setCell (p:=⟨B,256,none⟩) I.out.1.low _)
     obtain ⟨W2,hW2⟩:∃ W2,W2=w2.setCell ⟨B,256,none⟩ (.slice (some ⟨T,0,none⟩) 1 2):=⟨_,rfl⟩
     have hr2:Nf T B T (λ_=>.slice none 0 0) [[92]] W2:=by rw [hW2];exact hr2
     rw [<- hW2] at hb2 ⊢;obtain ⟨cap,W3,hrun,k92,f92,hb3,hr3,h2⟩:=hr2.bytes S3 z3 92 jO;rw [hrun];simp only [Result.andThen];rw [Oper.upon_value];have I2:Hid (∃ q c2,Nf T B T (λj=>if j=92 then .slice (some ⟨q,0,none⟩) 2 c2 else .slice none 0 0) [[92]] (W3.setCell ⟨B,92,none⟩ (.slice (some ⟨W2.heap.size,0,none⟩) 2 cap))/\M9 q 92 92 (W3.setCell ⟨B,92,none⟩ (.slice (some ⟨W2.heap.size,0,none⟩) 2 cap))/\q ≠ T/\q ≠ B/\T<=q/\Below T w (W3.setCell ⟨B,92,none⟩ (.slice (some ⟨W2.heap.size,0,none⟩) 2 cap))):=by
      have hB2:=hr2.rep.lt;have hT2:=(World.ownsRow.lt hr2.own T rfl).2;refine jH ⟨W2.heap.size,cap,hr3,?_,by omega,by omega,by omega,(hb2.trans (hb3.mono jO)).setCell (p:=⟨B,92,none⟩) hr2.low _⟩;have e3:=E3.out;subst e3;exact h2
     clear hr3 h2 hrun hW2 hr2 hb2 hg2 ho2 d256 f256;go_wp2;go_roundg 2
     case measure=>omega
     case rel=>exact .inr (.inl ⟨rfl,by omega,I2⟩)
    ·obtain ⟨q,c2,hR,hQ,hqT,hqB,hqL,hBw⟩:=I.out;obtain ⟨t0,t1,t2,t3⟩:=HS.out wr (by rw [<- HT.out];exact hBw);have c34:wr.cell? ⟨B,34,none⟩=some (.slice none 0 0):=hR.rep.at_ 34 jO;have c256:=hR.rep.last;have hcv:=Ah7 wr 34 (.int .u8 34) rfl;have HR:=jH hR;have HQ:=jH hQ;have HBw:=jH hBw;clear hR hQ hBw I;go_wp2_with (at_builtin;refine Xu _ T T [[92]] ((HR.out.own.Ac (Below.alloc (jan _ wr) (jaa _) _))) jD [34] _ jS rfl _ _ rfl rfl rfl ?_;intro w2 ho2 hg2;obtain ⟨⟨x256,d256⟩,f256,hr2⟩:=HR.out.more (Below.alloc (Below.alloc (jan _ wr) (jaa _) _) jS _) hg2 ho2);have hTw:T<=wr.heap.size:=Nat.le_trans (by rw [HT.out];exact jaa _) HBw.out.size;have hb2:Below T w (w2.setCell ⟨B,256,none⟩ (.slice (some ⟨T,0,none⟩) 2 2)):=((((HBw.out.alloc hTw _).alloc (by simp;omega) _).grown hg2 (by simp;omega) (λk e=>by cases e;exact jaa _)).setCell (p:=⟨B,256,none⟩) HR.out.low _)
     have hq2:M9 q 92 92 (w2.setCell ⟨B,256,none⟩ (.slice (some ⟨T,0,none⟩) 2 2)):=by
      have hlt:=HQ.out.1;refine HQ.out.Ac (by have:=hg2.size;simp at this ⊢;omega) ?_;rw [Below.heap_setCell _ _ _ _ (show q ≠ B from hqB),hg2.block q (by simp;omega) (λe=>hqT (by injection e)),heap_alloc_old _ _ (by simp;omega),heap_alloc_old _ _ hlt]
     have hs2:Qe T ⟨#[92]⟩ ⟨#[34]⟩ (w2.setCell ⟨B,256,none⟩ (.slice (some ⟨T,0,none⟩) 2 2)):=by
      refine Qe.Ac (W:=w2) ⟨(World.ownsRow.lt ho2 T rfl).2,Ck.cell ho2 0 jD,Ck.cell ho2 1 jD⟩ jS (Below.heap_setCell _ _ _ _ HR.out.ne)
     obtain ⟨W2,hW2⟩:∃ W2,W2=w2.setCell ⟨B,256,none⟩ (.slice (some ⟨T,0,none⟩) 2 2):=⟨_,rfl⟩
     have hr2:Nf T B T (λj=>if j=92 then .slice (some ⟨q,0,none⟩) 2 c2 else .slice none 0 0) [[92],[34]] W2:=by rw [hW2];exact hr2
     rw [<- hW2] at hb2 hq2 hs2 ⊢;obtain ⟨cap,W3,hrun,k34,f34,hb3,hr3,h2⟩:=hr2.bytes S1 z1 34 jO;rw [hrun];simp only [Result.andThen];rw [Oper.upon_value];have I2:Hid (Kx T B (W3.setCell ⟨B,34,none⟩ (.slice (some ⟨W2.heap.size,0,none⟩) 2 cap))/\Below T w (W3.setCell ⟨B,34,none⟩ (.slice (some ⟨W2.heap.size,0,none⟩) 2 cap))):=by
      have hB2:=hr2.rep.lt;have hT2:=(World.ownsRow.lt hr2.own T rfl).2;refine jH ⟨⟨W2.heap.size,q,cap,c2,T,hr2.low,by omega,hqL,jaa _,hr3.rep,?_,hq2.Ac (by have:=hb3.size;simp;omega) ((Below.heap_setCell _ _ _ _ (show q ≠ B from hqB)).trans (hb3.block q hq2.1)),hs2.Ac (by have:=hb3.size;simp;omega) ((Below.heap_setCell _ _ _ _ hr2.ne).trans (hb3.block T hs2.1))⟩,(hb2.trans (hb3.mono jO)).setCell (p:=⟨B,34,none⟩) hr2.low _⟩;have e1:=E1.out;subst e1;exact h2
     have d34:∃ v,W3.cell? ⟨B,34,none⟩=some v:=⟨_,k34⟩
     clear k34;obtain ⟨v34,k34⟩:=d34;clear hr3 h2 hrun hW2 hr2 hb2 hg2 ho2 d256 f256 hq2 hs2;go_wp2;go_roundg 1
     case measure=>omega
     case rel=>exact .inr (.inr ⟨rfl,by omega,I2⟩)
    ·obtain ⟨h1,h2⟩:=I.out;go_wp2;go_ret;exact ⟨B,rfl,by rw [<- HT.out];exact h1,by rw [<- HT.out];exact h2⟩
end
section
open Go.RowKit Utf
def GAt (g:Nat) (d m:Int) (r o:Value) (W:World):Prop:=W.heap[g]? = some (.cells #[.int .u32 d,.int .i32 m,.int .u32 0,r,o] 142 (0,0))
section
variable {g:Nat} {d m:Int} {r o:Value} {W:World}
theorem GAt.lt (H:GAt g d m r o W):g<W.heap.size:=(Array.getElem?_eq_some_iff.1 H).1
theorem GAt.c0 (H:GAt g d m r o W):W.cell? ⟨g,0,none⟩=some (.int .u32 d):=by unfold GAt at H;simp [World.cell?,H]
theorem GAt.c1 (H:GAt g d m r o W):W.cell? ⟨g,1,none⟩=some (.int .i32 m):=by unfold GAt at H;simp [World.cell?,H]
theorem GAt.c3 (H:GAt g d m r o W):W.cell? ⟨g,3,none⟩=some r:=by unfold GAt at H;simp [World.cell?,H]
theorem GAt.c4 (H:GAt g d m r o W):W.cell? ⟨g,4,none⟩=some o:=by unfold GAt at H;simp [World.cell?,H]
theorem GAt.fr (H:GAt g d m r o W) (k:Nat):W.frozen? ⟨g,k,none⟩=false:=by unfold GAt at H;simp [World.frozen?,H]
theorem GAt.A4m (H:GAt g d m r o W) (x:Int):GAt g x m r o (W.setCell ⟨g,0,none⟩ (.int .u32 x)):=by unfold GAt at H ⊢;simp [World.setCell,Array.getElem?_modify,H]
theorem GAt.Awc (H:GAt g d m r o W) (x:Int):GAt g d x r o (W.setCell ⟨g,1,none⟩ (.int .i32 x)):=by unfold GAt at H ⊢;simp [World.setCell,Array.getElem?_modify,H]
theorem GAt.Aae (H:GAt g d m r o W) (x:Value):GAt g d m x o (W.setCell ⟨g,3,none⟩ x):=by unfold GAt at H ⊢;simp [World.setCell,Array.getElem?_modify,H]
theorem GAt.Awd (H:GAt g d m r o W) (x:Value):GAt g d m r x (W.setCell ⟨g,4,none⟩ x):=by unfold GAt at H ⊢;simp [World.setCell,Array.getElem?_modify,H]
theorem GAt.drew (H:GAt g d m r o W):GAt g d m r o W.drew:=H
theorem GAt.Ac {W':World} (H:GAt g d m r o W) (hb:Below W.heap.size W W'):GAt g d m r o W':=(hb.block g H.lt).trans H
end
theorem Kx.drew {base B:Nat} {W:World} (h:Kx base B W):Kx base B W.drew:=h
theorem Ak3 (w:World):(callFunc 206 #[]).run prog w=.ok (.value (.tuple #[])) w:=run_call_mark0 func206 jK jK jK .disable jK w
theorem Ar3 (w:World):(callFunc 208 #[]).run prog w=.ok (.value (.tuple #[])) w:=run_call_mark0 func208 jK jK jK .enable jK w
theorem Avj (a:Addr) (w:World):(callFunc 209 #[.pointer (some a)]).run prog w=.ok (.value (.tuple #[])) w:=run_call_marked func209 jK jK jK .acquire jK a w
theorem Avi (a:Addr) (w:World):(callFunc 211 #[.pointer (some a)]).run prog w=.ok (.value (.tuple #[])) w:=run_call_marked func211 jK jK jK .releaseMerge jK a w
theorem Rr (a:Addr) (d:Int) (w:World) (hc:w.cell? a=some (.int .u32 d)):Calls prog 115 #[.pointer (some a)] w λe w'=>e=.returned (.bool (d != 0))/\w'=w:=by
 have hl:=run_call_load (P:=prog) func143 jK jK jK .u32 jK hc;go_enter func115,ntmps115;go_wp2;go_ret;exact ⟨rfl,rfl⟩
theorem Ap1 (a:Addr) (x:Value) (u:FrameMode) (w:World) (hc:w.cell? a=some x) (hz:w.frozen? a=false) :
  CallsD prog 146 #[.pointer (some a),.bool true] u w λe u' w'=>u'=u/\(e=.returned (.tuple #[])/\w'=w.drew.setCell a (.int .u32 1)):=by
 have hc':w.drew.cell? a=some x:=by go_simp
 have hz':w.drew.frozen? a=false:=by go_simp
 have hst:=run_call_store (P:=prog) func176 jK jK jK jK (k:=.u32) (y:=1) hc' hz';go_enter_d func146,ntmps146
 go_wp2;go_region_calls
 all_goals (go_end0;exact ⟨rfl,rfl⟩)
theorem Ahf (a:Addr) (w:World) (hc:w.cell? a=some (.int .i32 1)) (hz:w.frozen? a=false) :
  Calls prog 175 #[.pointer (some a)] w λe w'=>e=.returned (.tuple #[])/\w'=w.setCell a (.int .i32 0):=by
 have hd:=Ak3;have he:=Ar3;have hr:=Avi;have hadd:=run_call_add (P:=prog) func212 jK jK jK .i32 jK (y:=-1) (s:=0) hc hz (by simp [go_sem];rfl);have hcv:=run_convert_to_unsafe (P:=prog) (src:=266) (dst:=150) underlying266 underlying150 jK hc;go_enter func175,ntmps175;go_wp2;go_end0;exact ⟨rfl,rfl⟩
theorem Al0 (b k:Nat) (u:FrameMode) (w:World) (hc:w.cell? ⟨b,k,none⟩=some (.int .i32 1)) (hz:w.frozen? ⟨b,k,none⟩=false) :
  CallsD prog 145 #[.pointer (some ⟨b,k,none⟩)] u w λe u' w'=>u'=u/\(e=.returned (.tuple #[])/\w'=w.setCell ⟨b,k,none⟩ (.int .i32 0)):=by
 have K:=jH (Ahf ⟨b,k,none⟩ w hc hz);go_enter_d func145,ntmps145
 go_wp2_with fail;refine K.out.mono ?_;rintro e w1 ⟨rfl,rfl⟩;go_wp2;go_end0;exact ⟨rfl,rfl⟩
theorem Aoe (a:Addr) (w:World) (hc:w.cell? a=some (.int .i32 0)) (hz:w.frozen? a=false) :
  Calls prog 174 #[.pointer (some a)] w λe w'=>e=.returned (.tuple #[])/\w'=w.setCell a (.int .i32 1):=by
 have hd:=Ak3;have he:=Ar3;have ha:=Avj;have hcas:=run_call_cas_hit (P:=prog) func207 jK jK jK .i32 jK (y:=1) hc hz;have hc':(w.setCell a (.int .i32 1)).cell? a=some (.int .i32 1):=World.cell?_setCell_same w a _ hc;have hcv:=run_convert_to_unsafe (P:=prog) (src:=266) (dst:=150) underlying266 underlying150 jK hc';go_enter func174,ntmps174;go_wp2
 first | go_end0 | (simp only [Exit.inBlock,Exit.then];refine bodyPost_ret (results_none rfl _ _ _) rfl ?_) | refine bodyPost_ret (results_none rfl _ _ _) rfl ?_
 exact ⟨rfl,rfl⟩
theorem Azx (b k:Nat) (w:World) (hc:w.cell? ⟨b,k,none⟩=some (.int .i32 0)) (hz:w.frozen? ⟨b,k,none⟩=false) :
  Calls prog 144 #[.pointer (some ⟨b,k,none⟩)] w λe w'=>e=.returned (.tuple #[])/\w'=w.setCell ⟨b,k,none⟩ (.int .i32 1):=by
 have K:=jH (Aoe ⟨b,k,none⟩ w hc hz);go_enter func144,ntmps144;go_wp2_with fail;refine K.out.mono ?_;rintro e w1 ⟨rfl,rfl⟩;go_wp2;go_end0;exact ⟨rfl,rfl⟩
structure Made (g h c:Nat) (w:World):Prop where
 s0:w.cell? ⟨h,0,none⟩=some (.string ⟨#[34]⟩)
 s1:w.cell? ⟨h,1,none⟩=some (.string ⟨#[92,34]⟩)
 s2:w.cell? ⟨h,2,none⟩=some (.string ⟨#[92]⟩)
 s3:w.cell? ⟨h,3,none⟩=some (.string ⟨#[92,92]⟩)
 ne:h ≠ g
 room:4<=c
theorem Made.set {g h c:Nat} {w:World} (H:Made g h c w) (k:Nat) (v:Value):Made g h c (w.setCell ⟨g,k,none⟩ v):=by
 have e:∀ j,(w.setCell ⟨g,k,none⟩ v).cell? ⟨h,j,none⟩=w.cell? ⟨h,j,none⟩:=λj=>World.cell?_of_block (a:=⟨h,j,none⟩) (Below.heap_setCell _ _ _ _ H.ne);exact ⟨(e 0).trans H.s0,(e 1).trans H.s1,(e 2).trans H.s2,(e 3).trans H.s3,H.ne,H.room⟩
def Ahk (g:Nat) (d m:Int) (base:Nat) (w w':World):Prop:=∃ B,GAt g d m (.iface 215 (.pointer (some ⟨B,0,none⟩))) (.slice none 0 0) w'/\Kx base B w'/\Below g w w'
theorem Abe (g h c:Nat) (d m:Int) (r:Value) (w:World) (H:GAt g d m r (.slice (some ⟨h,0,none⟩) 4 c) w) (M:Made g h c w) :
  Calls prog 88 #[.pointer (some ⟨g,0,none⟩)] w λe w'=>e=.returned (.tuple #[])/\Ahk g d m w.heap.size w w':=by
 have K:=jH (Asv g h c w H.c4 M.room ⟨#[34]⟩ ⟨#[92,34]⟩ ⟨#[92]⟩ ⟨#[92,92]⟩ rfl rfl rfl rfl M.s0 M.s1 M.s2 M.s3);have HG:=jH H;clear H M;go_enter func88,ntmps88;go_wp2_with fail;refine K.out.mono ?_;rintro e w1 ⟨B,rfl,hr,hb⟩;have h1:=HG.out.Ac hb;have c3:=h1.c3;have f3:=h1.fr 3;have h2:=h1.Aae (.iface 215 (.pointer (some ⟨B,0,none⟩)));have c4:=h2.c4;have f4:=h2.fr 4;have HE:=jH (show Ahk g d m w.heap.size w ((w1.setCell ⟨g,3,none⟩ (.iface 215 (.pointer (some ⟨B,0,none⟩)))).setCell ⟨g,4,none⟩ (.slice none 0 0)) from
  ⟨B,h2.Awd _,(hr.set HG.out.lt _ _).set HG.out.lt _ _,(((hb.mono (Nat.le_of_lt HG.out.lt))).setCell (p:=⟨g,3,none⟩) (jaa _) _).setCell (p:=⟨g,4,none⟩) (jaa _) _⟩)
 clear h1 h2 hr hb;go_wp2;go_end0;exact ⟨rfl,HE.out⟩
theorem A1t (g h c:Nat) (r:Value) (w:World) (H:GAt g 0 0 r (.slice (some ⟨h,0,none⟩) 4 c) w) (M:Made g h c w) :
  Calls prog 116 #[.pointer (some ⟨g,0,none⟩),.func (.func 88) #[.pointer (some ⟨g,0,none⟩)] #[]] w λe w'=>e=.returned (.tuple #[])/\Ahk g 1 0 w.heap.size w w':=by
 have KL:=jH (Azx g 1 w H.c1 (H.fr 1));have H1:=H.Awc 1;have KD:=jH (Rr ⟨g,0,none⟩ 0 _ H1.c0);have KB:=jH (Abe g h c 0 1 r _ H1 (M.set 1 _));have hsz:(w.setCell ⟨g,1,none⟩ (.int .i32 1)).heap.size=w.heap.size:=by simp
 rw [hsz] at KB;have HB:=jH (((jan g w).setCell (p:=⟨g,1,none⟩) (jaa _) (.int .i32 1)));have HG:=jH H.lt;clear H H1 M hsz;go_enter_defers func116,ntmps116
 go_wp2_with fail;refine KL.out.mono ?_;rintro e w1 ⟨rfl,rfl⟩;go_wp2_with fail;refine KD.out.mono ?_;rintro e w1 ⟨rfl,rfl⟩;go_wp2_with fail;refine KB.out.mono ?_;rintro e w2 ⟨rfl,B,h2,hr2,hb2⟩;go_wp2;refine leaves_cons (f:=146) (args:=#[.pointer (some ⟨g,0,none⟩),.bool true]) jS (by simp [go_sem]) ?_;refine (Ap1 ⟨g,0,none⟩ _ .returning w2 h2.c0 (h2.fr 0)).mono ?_;rintro e u' w'' ⟨rfl,rfl,rfl⟩;have h3:=h2.drew.A4m 1;refine leaves_cons (f:=145) (args:=#[.pointer (some ⟨g,1,none⟩)]) (by simp [settle]) (by simp [go_sem]) ?_;refine (Al0 g 1 _ _ h3.c1 (h3.fr 1)).mono ?_;rintro e u' w'' ⟨rfl,rfl,rfl⟩;have HE:=jH (show Ahk g 1 0 w.heap.size w ((w2.drew.setCell ⟨g,0,none⟩ (.int .u32 1)).setCell ⟨g,1,none⟩ (.int .i32 0)) from
  ⟨B,h3.Awc 0,(hr2.drew.set HG.out _ _).set HG.out _ _,((((HB.out.trans hb2).drew).setCell (p:=⟨g,0,none⟩) (jaa _) _).setCell (p:=⟨g,1,none⟩) (jaa _) _)⟩)
 simp [Leaves,settle,results,results116];exact HE.out
theorem A5u (g h c:Nat) (r:Value) (w:World) (H:GAt g 0 0 r (.slice (some ⟨h,0,none⟩) 4 c) w) (M:Made g h c w) :
  Calls prog 87 #[.pointer (some ⟨g,0,none⟩),.func (.func 88) #[.pointer (some ⟨g,0,none⟩)] #[]] w λe w'=>e=.returned (.tuple #[])/\Ahk g 1 0 w.heap.size w w':=by
 have KD:=jH (Rr ⟨g,0,none⟩ 0 _ H.c0);have KS:=jH (A1t g h c r w H M);clear H M;go_enter func87,ntmps87;go_wp2_with fail;refine KD.out.mono ?_;rintro e w1 ⟨rfl,rfl⟩;go_wp2_with fail;refine KS.out.mono ?_;rintro e w1 ⟨rfl,hE⟩;go_wp2;go_end0;exact ⟨rfl,hE⟩
end
section
open Go.RowKit Utf
namespace Lex
def ext:List UInt8->Nat
 | []=>0
 | c::t=>(if c.toNat=34\/c.toNat=92 then 1 else 0)+ext t
theorem Wy:∀ l,(esc l).length=l.length+ext l
 | []=>rfl
 | c::t=>by
  have ih:=Wy t;unfold esc ext;split
  · simp only [jac,ih];omega
  · simp only [jac,ih];omega
theorem Afu:∀ a b,esc (a ++ b)=esc a ++ esc b
 | [],_=>rfl
 | c::t,b=>by
  rw [jah,esc.eq_2,esc.eq_2,Afu t b];split<;>rfl
theorem Arc:∀ a b,ext (a ++ b)=ext a+ext b
 | [],_=>by simp [ext]
 | c::t,b=>by
  rw [jah,ext.eq_2,ext.eq_2,Arc t b];omega
theorem Afx:∀ l,ext l<=l.length
 | []=>jaa _
 | c::t=>by
  have:=Afx t;rw [ext.eq_2,jac];split<;>omega
theorem Yq:∀ l,ext l=0->esc l=l
 | [],_=>rfl
 | c::t,h=>by
  rw [ext.eq_2] at h;by_cases hc:c.toNat=34\/c.toNat=92
  ·rw [if_pos hc] at h;omega
  ·rw [if_neg hc] at h;rw [esc.eq_2,if_neg hc,Yq t jO]
theorem Ac9:∀ l,ext l=Lib.countByte l 92+Lib.countByte l 34
 | []=>rfl
 | c::t=>by
  have ih:=Ac9 t;unfold Lib.countByte at ih ⊢;rw [ext.eq_2,ih,List.count_cons,List.count_cons];have e1:(c == 92)=decide (c.toNat=92):=by
   rw [Bool.eq_iff_iff,beq_iff_eq,decide_eq_true_iff,<- UInt8.toNat_inj];rfl
  have e2:(c == 34)=decide (c.toNat=34):=by
   rw [Bool.eq_iff_iff,beq_iff_eq,decide_eq_true_iff,<- UInt8.toNat_inj];rfl
  rw [e1,e2];by_cases h1:c.toNat=92
  ·rw [if_pos (.inr h1),if_pos (by simpa using h1),if_neg (by simp [h1])];omega
  ·by_cases h2:c.toNat=34
   · rw [if_pos (.inl h2),if_neg (by simpa using h1),if_pos (by simpa using h2)];omega
   · rw [if_neg jO,if_neg (by simpa using h1),if_neg (by simpa using h2)];omega
theorem Aep {s:ByteArray} {i:Nat} (h:i<s.size):s.data.toList.take (i+1)=s.data.toList.take i ++ [s[i]]:=by
 rw [List.take_add_one,List.getElem?_eq_getElem (by simpa using h)];rfl
theorem Ay2 {s:ByteArray} {i:Nat} (h:i<s.size):ext (s.data.toList.take (i+1))=ext (s.data.toList.take i)+(if s[i].toNat=34\/s[i].toNat=92 then 1 else 0):=by
 rw [Aep h,Arc,ext.eq_2,ext.eq_1];omega
theorem Jq {s:ByteArray} {i:Nat} (h:i<s.size):esc (s.data.toList.take (i+1))=esc (s.data.toList.take i) ++ (if s[i].toNat=34\/s[i].toNat=92 then [92,s[i]] else [s[i]]):=by
 rw [Aep h,Afu,esc.eq_2,esc.eq_1]
theorem Vv (l:List UInt8) (i:Nat):(esc (l.take i)).length<=(esc l).length:=by
 have h:=Afu (l.take i) (l.drop i);rw [List.take_append_drop] at h;rw [h,jab];omega
end Lex
def Lv (n:Nat) (x:List UInt8):List Value:=x.map Dn ++ List.replicate (n - x.length) (.int .u8 0)
def Ei (G n:Nat) (x:List UInt8) (W:World):Prop:=W.heap[G]? = some (.cells (Lv n x).toArray 5 (0,0))/\x.length<=n
theorem X8 {n:Nat} {x:List UInt8} (h:x.length<=n):(Lv n x).length=n:=by unfold Lv;simp;omega
theorem Ax5 {n:Nat} {x:List UInt8} (h:x.length<n) (c:UInt8):(Lv n x).set x.length (.int .u8 (c.toNat:Int))=Lv n (x ++ [c]):=by
 unfold Lv;rw [List.set_append_right _ _ jS,jai,Nat.sub_self,show n - x.length=(n - (x ++ [c]).length)+1 by rw [jab];simp;omega,List.replicate_succ,jae];simp [Dn]
theorem Ax6 (n:Nat) (x:List UInt8) (c d:UInt8):(Lv n x).take x.length ++ [.int .u8 (c.toNat:Int),.int .u8 (d.toNat:Int)] ++ (Lv n x).drop (x.length+2)=Lv n (x ++ [c,d]):=by
 unfold Lv;rw [List.take_append_of_le_length jS,List.take_of_length_le jS,List.drop_append,List.drop_of_length_le jS,List.nil_append,jai,List.drop_replicate];simp [Dn];omega
theorem Ei.lt {G n:Nat} {x:List UInt8} {W:World} (h:Ei G n x W):G<W.heap.size:=(Array.getElem?_eq_some_iff.1 h.1).1
theorem Ei.fr {G n:Nat} {x:List UInt8} {W:World} (h:Ei G n x W) (k:Nat):W.frozen? ⟨G,k,none⟩=false:=by simp [World.frozen?,h.1]
theorem Ei.at_ {G n:Nat} {x:List UInt8} {W:World} (h:Ei G n x W) (k:Nat) (hk:k<n):∃ v,W.cell? ⟨G,k,none⟩=some v:=by
 refine ⟨(Lv n x)[k]'(by rw [X8 h.2];exact hk),?_⟩;simp [World.cell?,h.1,X8 h.2,hk]
theorem Ei.put {G n:Nat} {x:List UInt8} {W:World} (h:Ei G n x W) (hx:x.length<n) (c:UInt8):Ei G n (x ++ [c]) (W.setCell ⟨G,x.length,none⟩ (.int .u8 (c.toNat:Int))):=by
 refine ⟨?_,by rw [jab];simp;omega⟩;rw [<- Ax5 hx c];simp [World.setCell,Array.getElem?_modify,h.1]
theorem Ei.drew {G n:Nat} {x:List UInt8} {W:World} (h:Ei G n x W):Ei G n x W.drew:=h
theorem Ei.bytes {G:Nat} {x:List UInt8} {W:World} (h:Ei G x.length x W):Bytes (.slice (some ⟨G,0,none⟩) x.length x.length) x W:=by
 refine ⟨some ⟨G,0,none⟩,x.length,by rw [jai],by rw [jai];exact jaa _,λh=>(by cases h),λ_=>⟨_,rfl,h.lt,λj u hu=>?_⟩⟩;have e:(⟨G,0,none⟩:Addr).add j=⟨G,j,none⟩:=by unfold Addr.add;split<;>simp_all
 have h1:=h.1;unfold Lv at h1;rw [Nat.sub_self,List.replicate_zero,List.append_nil] at h1;rw [e,<- hu];simp [World.cell?,h1]
theorem Zf (n:Nat) (hn:n<=1000000) (W:World):(Instr.makeSlice 45 (.int .i64 (n:Int)) (.int .i64 (n:Int))).run prog W=.ok (.slice (some ⟨W.heap.size,0,none⟩) n n) (W.alloc (.cells (Lv n []).toArray 5)):=by
 obtain ⟨i0,hi,hz0,hz1,hz2⟩:=info_parts E4;have h:=run_makeSlice (P:=prog) (w:=W) 45 5 i0 (.int .u8 0) underlying45 hi hz0 .i64 .i64 (n:Int) (n:Int) jO (Int.le_refl _) (by rw [hz1];omega) (by rw [hz2];omega) jO;rw [h,Int.toNat_natCast,hz1,Nat.mul_one];have e:madeCells (Value.int .u8 0).cells n=(Lv n []).toArray:=by
  unfold madeCells Lv;rw [show (Value.int IntKind.u8 0).cells=#[Value.int .u8 0] from rfl];apply Array.ext
  ·simp
  ·intro i h1 h2;simp [Nat.mod_one]
 rw [e]
theorem Acj (W:World) (n:Nat):Ei W.heap.size n [] (W.alloc (.cells (Lv n []).toArray 5)):=⟨heap_alloc_new W _,Nat.zero_le _⟩
theorem Ei.copy {G n:Nat} {x:List UInt8} {W:World} (h:Ei G n x W) (hx:x.length+2<=n) (p c1:Nat) (c d:UInt8) (hp:M9 p (c.toNat:Int) (d.toNat:Int) W) :
  ∃ W2,(∀ ty,(Builtin.copy_ #[45,45] ty #[.slice (some ⟨G,x.length,none⟩) (n - x.length) (n - x.length),.slice (some ⟨p,0,none⟩) 2 c1]).run prog W=.ok (.int .i64 2) W2)/\Ei G n (x ++ [c,d]) W2/\(∀ m,m<=G->Below m W W2):=by
 obtain ⟨i0,hi,hz0,hz1,hz2⟩:=info_parts E4;have hrun:=λty=>run_copy_row (P:=prog) W 45 45 ty 5 G x.length (n - x.length) (n - x.length) ⟨p,0,none⟩ 2 c1 (Lv n x).toArray 5 [.int .u8 (c.toNat:Int),.int .u8 (d.toNat:Int)] underlying45 (by rw [hi];exact congrArg some hz1) h.1
  (by show 2=Nat.min 2 (n - x.length);simp only [Nat.min_def];split<;>omega)
  (λj v hj=>by
   rw [Addr.add_lit];match j,hj with
   | 0,hj=>simp only [List.getElem?_cons_zero,Option.some.injEq] at hj;subst hj;exact hp.2.1
   | 1,hj=>simp only [List.getElem?_cons_succ,List.getElem?_cons_zero,Option.some.injEq] at hj;subst hj;exact hp.2.2
   | j+2,hj=>simp at hj)
  (by show x.length+2<=_;rw [List.size_toArray,X8 h.2];exact hx)
  (λv hv=>by simp only [jal,List.not_mem_nil,or_false] at hv;rcases hv with rfl | rfl<;>rfl)
 refine ⟨_,λty=>hrun ty,⟨?_,by rw [jab];simp;omega⟩,λm hm=>?_⟩
 ·rw [setRow_heap W G _ _ _ _ h.1];rw [<- Ax6 n x c d];simp
 ·exact below_setRow (jan _ _) hm _
theorem Ru (s t:ByteArray) (c:UInt8) (w:World) (ht:t=⟨#[c]⟩):Calls prog 385 #[.string s,.string t] w λe w'=>e=.returned (.int .i64 (Lib.countByte s.data.toList c:Nat))/\w=w':=by
 have hz:t.size=1:=by rw [ht];rfl
 have h0:t[0]=c:=by subst ht;rfl
 clear ht;have hc:(c.toNat:Int).toNat.toUInt8=c:=by rw [Int.toNat_natCast];exact UInt8.ofNat_toNat
 go_enter func385,ntmps385;go_wp2;rw [run_callFunc_extern func387 jK jK jK (e:=Extern.BytealgCount.count) jK,Lib.run_countString,hc];simp only [Result.andThen];rw [Oper.upon_value];go_wp2;go_ret;exact ⟨rfl,rfl⟩
end
section
open Go.RowKit Utf
structure Kb (B T:Nat) (f:Nat->Value) (W:World):Prop where
 rep:D7 B f (.slice (some ⟨T,0,none⟩) 2 2) W
 strs:Qe T ⟨#[92]⟩ ⟨#[34]⟩ W
 want:∀ c:UInt8,c.toNat=34\/c.toNat=92->∃ r cc,f c.toNat=.slice (some ⟨r,0,none⟩) 2 cc/\M9 r 92 (c.toNat:Int) W
 leave:∀ c:UInt8,¬ (c.toNat=34\/c.toNat=92)->f c.toNat=.slice none 0 0
theorem Kb.Ac {B T:Nat} {f:Nat->Value} {W W':World} (h:Kb B T f W) (hb:Below W.heap.size W W'):Kb B T f W' :=
 ⟨h.rep.Ac hb,h.strs.Ac hb.size (hb.block T h.strs.1),λc hc=>by
  obtain ⟨r,cc,e,h2⟩:=h.want c hc;exact ⟨r,cc,e,h2.Ac hb.size (hb.block r h2.1)⟩,h.leave⟩
theorem Kx.A7b {base B:Nat} {W:World} (h:Kx base B W):∃ T f,Kb B T f W:=by
 obtain ⟨p,q,c1,c2,T,-,-,-,-,h1,h2,h3,h4⟩:=h;refine ⟨T,_,h1,h4,λc hc=>?_,λc hc=>?_⟩
 ·rcases hc with h | h
  · exact ⟨p,c1,by simp [h],by rw [h];exact h2⟩
  · exact ⟨q,c2,by simp [h],by rw [h];exact h3⟩
 ·simp only [not_or] at hc;simp [hc.1,hc.2]
theorem Kb.byte {B T:Nat} {f:Nat->Value} {W:World} (h:Kb B T f W) (c:UInt8):W.cell? ⟨B,c.toNat,none⟩=some (f c.toNat):=h.rep.at_ c.toNat (UInt8.toNat_lt c)
theorem A06 (B T:Nat) (f:Nat->Value) (s:ByteArray) (w:World) (hs:s.size<16) (hR:Kb B T f w) :
  Calls prog 383 #[.pointer (some ⟨B,0,none⟩),.string s] w λe w'=>e=.returned (.string ⟨(Lex.esc s.data.toList).toArray⟩)/\Below w.heap.size w w':=by
 have hsl:s.data.toList.length=s.size:=by simp
 have k256:=hR.rep.last;have HS:=jH hR;have hfew:¬ (16:Int)<=(s.size:Int):=jO
 clear hR;go_enter func383,ntmps383;go_wp2;clear k256;go_loopg [5,6,10] (s.size+1) (λgk s5 s6 s10 wr=>∃ (i M:Nat) (b:Bool),s10=.int .i64 i/\s5=.int .i64 M/\s6=.bool b/\i<=s.size/\M<=200000/\s.size - i<gk/\Hid (M=s.size+Lex.ext (s.data.toList.take i)/\b=decide (0<Lex.ext (s.data.toList.take i)))/\w=wr)
 case atStart=>exact ⟨0,s.size,false,rfl,rfl,rfl,Nat.zero_le _,by omega,by omega,jH ⟨rfl,rfl⟩,rfl⟩
 case round =>
  obtain ⟨i,M,b,rfl,rfl,rfl,hi,hM,hg,HM,rfl⟩:=hrel;by_cases hlt:i<s.size
  ·have hiz:(i:Int)<(s.size:Int):=jO
   have hcl:s[i].toNat<256:=UInt8.toNat_lt _;have kc:=HS.out.byte s[i];have hmore:=Lex.Ay2 hlt;have hfl:=Lex.Afx (s.data.toList.take (i+1));rw [jak] at hfl;by_cases hc:s[i].toNat=34\/s[i].toNat=92
   ·obtain ⟨r,cc,hf,-⟩:=HS.out.want _ hc;rw [hf] at kc;rw [if_pos hc] at hmore;have hsn:=Ag3 ⟨r,0,none⟩ 2 cc;have I2:Hid (M+1=s.size+Lex.ext (s.data.toList.take (i+1))/\true=decide (0<Lex.ext (s.data.toList.take (i+1)))):=jH ⟨by have:=HM.out.1;omega,by rw [hmore];simp⟩;have hM2:M+1<=200000:=by have:=I2.out.1;omega
    clear hc hf hmore hfl HM;go_wp2;go_roundg (s.size - i)
    case measure=>omega
    case rel=>exact ⟨i+1,M+1,true,by go_num,by go_num,rfl,by omega,by omega,by omega,I2,rfl⟩
   ·rw [HS.out.leave _ hc] at kc;rw [if_neg hc,Nat.add_zero] at hmore;have hnn:=Aoq;have I2:Hid (M=s.size+Lex.ext (s.data.toList.take (i+1))/\b=decide (0<Lex.ext (s.data.toList.take (i+1)))):=jH (by rw [hmore];exact HM.out);clear hc hmore hfl HM;go_wp2;go_roundg (s.size - i)
    case measure=>omega
    case rel=>exact ⟨i+1,M,b,by go_num,rfl,rfl,by omega,hM,by omega,I2,rfl⟩
  obtain rfl:i=s.size:=jO
  have hiz:¬ (s.size:Int)<(s.size:Int):=jO
  rw [List.take_of_length_le (by rw [hsl];exact jaa _)] at HM;have HBel:Hid (Below w.heap.size w w):=jH (jan _ _);cases b
  ·have E:Hid ((⟨(Lex.esc s.data.toList).toArray⟩:ByteArray)=s):=jH (by
    have h0:Lex.ext s.data.toList=0:=by have:=HM.out.2;simpa using this
    rw [Lex.Yq _ h0])
   have hbf:Hid (Below w.heap.size w w):=HBel;go_wp2;go_ret;exact ⟨congrArg (λx=>Ending.returned (.string x)) E.out.symm,hbf.out⟩
  ·have hmk:=Zf M jO;have hml:(Lex.esc s.data.toList).length=M:=by rw [Lex.Wy,HM.out.1];simp
   have HML:=jH hml;clear hml;go_wp2;obtain ⟨G,hG⟩:∃ G,G=w.heap.size:=⟨_,rfl⟩
   obtain ⟨W0,hW0⟩:∃ W0,W0=w.alloc (.cells (Lv M []).toArray 5):=⟨_,rfl⟩
   rw [<- hW0,<- hG];have I0:=jH (show Ei G M [] W0/\Below w.heap.size w W0 from by rw [hW0,hG];exact ⟨Acj w M,HBel.out.alloc HBel.out.size _⟩);have HGl:=jH (show w.heap.size<=G by rw [hG];exact HBel.out.size);clear hW0 hG hmk HBel;go_loopg [13,14] (s.size+1) (λgk s13 s14 wr=>∃ i j:Nat,s13=.int .i64 j/\s14=.int .i64 i/\i<=s.size/\j<=M/\s.size - i<gk/\Hid (∃ x,x=Lex.esc (s.data.toList.take i)/\x.length=j/\Ei G M x wr/\Below w.heap.size w wr))
   case atStart=>exact ⟨0,0,rfl,rfl,Nat.zero_le _,Nat.zero_le _,by omega,jH ⟨[],rfl,rfl,I0.out.1,I0.out.2⟩⟩
   case round =>
    obtain ⟨i,j,rfl,rfl,hi,hj,hg,I⟩:=hrel;by_cases hlt:i<s.size
    ·have hiz:(i:Int)<(s.size:Int):=jO
     obtain ⟨x,hx,hxl,hB,hb⟩:=I.out;have hsee:=(HS.out).Ac hb;have hcl:s[i].toNat<256:=UInt8.toNat_lt _;have hlen:=Lex.Vv s.data.toList (i+1);rw [Lex.Jq hlt,HML.out,jab,<- hx,hxl] at hlen;have hmore:=Lex.Jq hlt;rw [<- hx] at hmore;by_cases hc:s[i].toNat=34\/s[i].toNat=92
     ·obtain ⟨r,cc,hf,h2⟩:=hsee.want _ hc;have kc:=hsee.byte s[i];rw [hf] at kc;rw [if_pos hc] at hlen hmore;have hj2:j+2<=M:=by simpa using hlen
      have hsn:=Ag3 ⟨r,0,none⟩ 2 cc;obtain ⟨W2,hcp,hB2,hb2⟩:=hB.drew.copy jO r cc 92 s[i] h2;rw [hxl] at hcp;have kd:wr.drew.cell? ⟨B,s[i].toNat,none⟩=some (.slice (some ⟨r,0,none⟩) 2 cc):=kc;have I2:Hid (∃ x,x=Lex.esc (s.data.toList.take (i+1))/\x.length=j+2/\Ei G M x W2/\Below w.heap.size w W2) :=
       jH ⟨x ++ [92,s[i]],hmore.symm,by rw [jab,hxl];rfl,hB2,(hb.drew).trans (hb2 _ HGl.out)⟩
      have hjz:(j:Int)+2<=(M:Int):=jO
      have hjm:(j:Int)<=(M:Int):=jO
      clear hx hxl hB hb hsee hlen hmore hc hf h2 hB2 hb2 I;go_wp2_with fail;go_region;go_wp2;go_roundg (s.size - i)
      case measure=>omega
      case rel=>exact ⟨i+1,j+2,by go_num,by go_num,by omega,by omega,by omega,I2⟩
     ·have kc:=hsee.byte s[i];rw [hsee.leave _ hc] at kc;rw [if_neg hc] at hlen hmore;have hj2:j+1<=M:=by simpa using hlen
      have hnn:=Aoq;have hput:=hB.put jO s[i];have hat:=hB.at_ j jO;have hfr:=hB.fr j;rw [hxl] at hput;obtain ⟨u,hu⟩:=hat;have I2:Hid (∃ x,x=Lex.esc (s.data.toList.take (i+1))/\x.length=j+1/\Ei G M x (wr.setCell ⟨G,j,none⟩ (.int .u8 (s[i].toNat:Int)))/\Below w.heap.size w (wr.setCell ⟨G,j,none⟩ (.int .u8 (s[i].toNat:Int)))) :=
       jH ⟨x ++ [s[i]],hmore.symm,by rw [jab,hxl];rfl,hput,hb.setCell (p:=⟨G,j,none⟩) HGl.out _⟩
      have hjz:(j:Int)<(M:Int):=jO
      clear hx hxl hB hb hsee hlen hmore hc hput I;go_wp2;go_roundg (s.size - i)
      case measure=>omega
      case rel=>exact ⟨i+1,j+1,by go_num,by go_num,by omega,by omega,by omega,I2⟩
    ·obtain rfl:i=s.size:=jO
     have hiz:¬ (s.size:Int)<(s.size:Int):=jO
     obtain ⟨x,hx,hxl,hB,hb⟩:=I.out;rw [List.take_of_length_le jS] at hx;have hjM:x.length=M:=by rw [hx,HML.out]
     rw [<- hjM] at hB;have hcv:=Hr hB.bytes;rw [hjM] at hcv;have E:=jH hx;have Hb:=jH hb;clear hx hxl hB hb hjM I;go_wp2;go_ret;have hE:=E.out;subst hE;exact ⟨rfl,Hb.out⟩
theorem Avp (B T:Nat) (f:Nat->Value) (s:ByteArray) (w:World) (hs:16<=s.size) (hs2:s.size<=100000) (hR:Kb B T f w) :
  Calls prog 383 #[.pointer (some ⟨B,0,none⟩),.string s] w λe w'=>e=.returned (.string ⟨(Lex.esc s.data.toList).toArray⟩)/\Below w.heap.size w w':=by
 have hsl:s.data.toList.length=s.size:=by simp
 have k256:=hR.rep.last;have HS:=jH hR;have hmany:(16:Int)<=(s.size:Int):=jO
 obtain ⟨a,ha⟩:∃ a,a=Lib.countByte s.data.toList 92:=⟨_,rfl⟩
 obtain ⟨d,hd⟩:∃ d,d=Lib.countByte s.data.toList 34:=⟨_,rfl⟩
 have hx:Lex.ext s.data.toList=a+d:=by rw [Lex.Ac9,ha,hd]
 have hxl:=Lex.Afx s.data.toList;rw [hsl] at hxl;obtain ⟨S92,h92⟩:∃ S:ByteArray,S=⟨#[92]⟩:=⟨_,rfl⟩
 obtain ⟨S34,h34⟩:∃ S:ByteArray,S=⟨#[34]⟩:=⟨_,rfl⟩
 have hT:=hR.strs;rw [<- h92,<- h34] at hT;have HT:=jH hT;have K92:=jH (λW=>Ru s S92 92 W h92);have K34:=jH (λW=>Ru s S34 34 W h34);rw [<- ha] at K92;rw [<- hd] at K34;have z92:S92.size=1:=by rw [h92];rfl
 have z34:S34.size=1:=by rw [h34];rfl
 have b92:S92[0].toNat=92:=by subst h92;rfl
 have b34:S34[0].toNat=34:=by subst h34;rfl
 have HX:=jH hx;have hab:a+d<=100000:=jO
 clear hR ha hd hx hxl h92 h34 hT;go_enter func383,ntmps383;go_wp2;go_loopg [5,6,32] 3 (λgk s5 s6 s32 wr=>∃ (i M:Nat) (b:Bool),s32=.int .i64 i/\s5=.int .i64 M/\s6=.bool b/\M<=200000/\2<gk+i/\i<=2/\Hid (M=s.size+(if 0<i then a else 0)+(if 1<i then d else 0)/\b=decide (0<(if 0<i then a else 0)+(if 1<i then d else 0)))/\Hid (Below w.heap.size w wr))
 case atStart=>exact ⟨0,s.size,false,rfl,rfl,rfl,by omega,by omega,by omega,jH ⟨rfl,rfl⟩,jH (jan _ _)⟩
 case round =>
  obtain ⟨i,M,b,rfl,rfl,rfl,hM,hg,hi,HM,HBel⟩:=hrel;by_cases hlt:i<2
  ·have ht:=(HT.out.Ac HBel.out.size (HBel.out.block T HT.out.1))
   have hrep:=(HS.out.Ac HBel.out)
   rcases (by omega:i=0\/i=1) with rfl | rfl
   ·obtain ⟨-,t0,-⟩:=ht;obtain ⟨r,cc,hf,-⟩:=hrep.want 92 (.inr rfl);have kc:wr.cell? ⟨B,92,none⟩=some (.slice (some ⟨r,0,none⟩) 2 cc):=(hrep.byte 92).trans (congrArg some hf);have kd:wr.drew.cell? ⟨B,92,none⟩=some (.slice (some ⟨r,0,none⟩) 2 cc):=kc;have hM0:M=s.size:=HM.out.1;by_cases hz:a=0
    ·have I2:Hid (M=s.size+(if 0<1 then a else 0)+(if 1<1 then d else 0)/\b=decide (0<(if 0<1 then a else 0)+(if 1<1 then d else 0))):=jH (by rw [hz];exact HM.out);have hzz:((a:Int) != 0)=false:=by simp [hz]
     clear hz HM hf hrep hM0;go_wp2_with fail;with_reducible refine (K92.out _).mono ?_
     rintro e w1 ⟨rfl,rfl⟩;go_wp2;go_roundg 2
     case measure=>omega
     case rel=>exact ⟨1,M,b,rfl,rfl,rfl,hM,by omega,by omega,I2,HBel⟩
    ·have I2:Hid (M+a=s.size+(if 0<1 then a else 0)+(if 1<1 then d else 0)/\true=decide (0<(if 0<1 then a else 0)+(if 1<1 then d else 0))):=jH (by rw [hM0];exact ⟨by simp,by simp;omega⟩);have hzz:((a:Int) != 0)=true:=by simp [hz]
     have hMa:M+a<=200000:=jO
     clear hz HM hf hrep hM0;go_wp2_with fail;with_reducible refine (K92.out _).mono ?_
     rintro e w1 ⟨rfl,rfl⟩;go_wp2_with fail;go_region;go_wp2;go_roundg 2
     case measure=>omega
     case rel=>exact ⟨1,M+a,true,rfl,by go_num,rfl,hMa,by omega,by omega,I2,jH HBel.out.drew⟩
   ·obtain ⟨-,-,t0⟩:=ht;obtain ⟨r,cc,hf,-⟩:=hrep.want 34 (.inl rfl);have kc:wr.cell? ⟨B,34,none⟩=some (.slice (some ⟨r,0,none⟩) 2 cc):=(hrep.byte 34).trans (congrArg some hf);have kd:wr.drew.cell? ⟨B,34,none⟩=some (.slice (some ⟨r,0,none⟩) 2 cc):=kc;have hM0:M=s.size+a:=by simpa using HM.out.1
    have hb0:b=decide (0<a):=by simpa using HM.out.2
    by_cases hz:d=0
    ·have I2:Hid (M=s.size+(if 0<2 then a else 0)+(if 1<2 then d else 0)/\b=decide (0<(if 0<2 then a else 0)+(if 1<2 then d else 0))):=jH ⟨by simp;omega,by rw [hb0,hz];simp⟩;have hzz:((d:Int) != 0)=false:=by simp [hz]
     clear hz HM hf hrep hM0 hb0;go_wp2_with fail;with_reducible refine (K34.out _).mono ?_
     rintro e w1 ⟨rfl,rfl⟩;go_wp2;go_roundg 1
     case measure=>omega
     case rel=>exact ⟨2,M,b,rfl,rfl,rfl,hM,by omega,by omega,I2,HBel⟩
    ·have I2:Hid (M+d=s.size+(if 0<2 then a else 0)+(if 1<2 then d else 0)/\true=decide (0<(if 0<2 then a else 0)+(if 1<2 then d else 0))):=jH ⟨by simp;omega,by simp;omega⟩;have hzz:((d:Int) != 0)=true:=by simp [hz]
     have hMa:M+d<=200000:=jO
     clear hz HM hf hrep hM0 hb0;go_wp2_with fail;with_reducible refine (K34.out _).mono ?_
     rintro e w1 ⟨rfl,rfl⟩;go_wp2_with fail;go_region;go_wp2;go_roundg 1
     case measure=>omega
     case rel=>exact ⟨2,M+d,true,rfl,by go_num,rfl,hMa,by omega,by omega,I2,jH HBel.out.drew⟩
  obtain rfl:i=2:=jO
  replace HM:Hid (M=s.size+Lex.ext s.data.toList/\b=decide (0<Lex.ext s.data.toList)):=jH (by rw [HX.out];have:=HM.out;simp at this;exact ⟨by omega,this.2⟩);cases b
  ·have E:Hid ((⟨(Lex.esc s.data.toList).toArray⟩:ByteArray)=s):=jH (by
    have h0:Lex.ext s.data.toList=0:=by have:=HM.out.2;simpa using this
    rw [Lex.Yq _ h0])
   have hbf:Hid (Below w.heap.size w wr):=HBel;go_wp2;go_ret;exact ⟨congrArg (λx=>Ending.returned (.string x)) E.out.symm,hbf.out⟩
  ·have hmk:=Zf M jO;have hml:(Lex.esc s.data.toList).length=M:=by rw [Lex.Wy,HM.out.1];simp
   have HML:=jH hml;clear hml;go_wp2;obtain ⟨G,hG⟩:∃ G,G=wr.heap.size:=⟨_,rfl⟩
   obtain ⟨W0,hW0⟩:∃ W0,W0=wr.alloc (.cells (Lv M []).toArray 5):=⟨_,rfl⟩
   rw [<- hW0,<- hG];have I0:=jH (show Ei G M [] W0/\Below w.heap.size w W0 from by rw [hW0,hG];exact ⟨Acj wr M,HBel.out.alloc HBel.out.size _⟩);have HGl:=jH (show w.heap.size<=G by rw [hG];exact HBel.out.size);clear hW0 hG hmk HBel;go_loopg [13,14] (s.size+1) (λgk s13 s14 wr=>∃ i j:Nat,s13=.int .i64 j/\s14=.int .i64 i/\i<=s.size/\j<=M/\s.size - i<gk/\Hid (∃ x,x=Lex.esc (s.data.toList.take i)/\x.length=j/\Ei G M x wr/\Below w.heap.size w wr))
   case atStart=>exact ⟨0,0,rfl,rfl,Nat.zero_le _,Nat.zero_le _,by omega,jH ⟨[],rfl,rfl,I0.out.1,I0.out.2⟩⟩
   case round =>
    obtain ⟨i,j,rfl,rfl,hi,hj,hg,I⟩:=hrel;by_cases hlt:i<s.size
    ·have hiz:(i:Int)<(s.size:Int):=jO
     obtain ⟨x,hx,hxl,hB,hb⟩:=I.out;have hsee:=(HS.out).Ac hb;have hcl:s[i].toNat<256:=UInt8.toNat_lt _;have hlen:=Lex.Vv s.data.toList (i+1);rw [Lex.Jq hlt,HML.out,jab,<- hx,hxl] at hlen;have hmore:=Lex.Jq hlt;rw [<- hx] at hmore;by_cases hc:s[i].toNat=34\/s[i].toNat=92
     ·obtain ⟨r,cc,hf,h2⟩:=hsee.want _ hc;have kc:=hsee.byte s[i];rw [hf] at kc;rw [if_pos hc] at hlen hmore;have hj2:j+2<=M:=by simpa using hlen
      have hsn:=Ag3 ⟨r,0,none⟩ 2 cc;obtain ⟨W2,hcp,hB2,hb2⟩:=hB.drew.copy jO r cc 92 s[i] h2;rw [hxl] at hcp;have kd:wr.drew.cell? ⟨B,s[i].toNat,none⟩=some (.slice (some ⟨r,0,none⟩) 2 cc):=kc;have I2:Hid (∃ x,x=Lex.esc (s.data.toList.take (i+1))/\x.length=j+2/\Ei G M x W2/\Below w.heap.size w W2) :=
       jH ⟨x ++ [92,s[i]],hmore.symm,by rw [jab,hxl];rfl,hB2,(hb.drew).trans (hb2 _ HGl.out)⟩
      have hjz:(j:Int)+2<=(M:Int):=jO
      have hjm:(j:Int)<=(M:Int):=jO
      clear hx hxl hB hb hsee hlen hmore hc hf h2 hB2 hb2 I;go_wp2_with fail;go_region;go_wp2;go_roundg (s.size - i)
      case measure=>omega
      case rel=>exact ⟨i+1,j+2,by go_num,by go_num,by omega,by omega,by omega,I2⟩
     ·have kc:=hsee.byte s[i];rw [hsee.leave _ hc] at kc;rw [if_neg hc] at hlen hmore;have hj2:j+1<=M:=by simpa using hlen
      have hnn:=Aoq;have hput:=hB.put jO s[i];have hat:=hB.at_ j jO;have hfr:=hB.fr j;rw [hxl] at hput;obtain ⟨u,hu⟩:=hat;have I2:Hid (∃ x,x=Lex.esc (s.data.toList.take (i+1))/\x.length=j+1/\Ei G M x (wr.setCell ⟨G,j,none⟩ (.int .u8 (s[i].toNat:Int)))/\Below w.heap.size w (wr.setCell ⟨G,j,none⟩ (.int .u8 (s[i].toNat:Int)))) :=
       jH ⟨x ++ [s[i]],hmore.symm,by rw [jab,hxl];rfl,hput,hb.setCell (p:=⟨G,j,none⟩) HGl.out _⟩
      have hjz:(j:Int)<(M:Int):=jO
      clear hx hxl hB hb hsee hlen hmore hc hput I;go_wp2;go_roundg (s.size - i)
      case measure=>omega
      case rel=>exact ⟨i+1,j+1,by go_num,by go_num,by omega,by omega,by omega,I2⟩
    ·obtain rfl:i=s.size:=jO
     have hiz:¬ (s.size:Int)<(s.size:Int):=jO
     obtain ⟨x,hx,hxl,hB,hb⟩:=I.out;rw [List.take_of_length_le jS] at hx;have hjM:x.length=M:=by rw [hx,HML.out]
     rw [<- hjM] at hB;have hcv:=Hr hB.bytes;rw [hjM] at hcv;have E:=jH hx;have Hb:=jH hb;clear hx hxl hB hb hjM I;go_wp2;go_ret;have hE:=E.out;subst hE;exact ⟨rfl,Hb.out⟩
theorem A05 (base B:Nat) (s:ByteArray) (w:World) (hs:s.size<=100000) (hR:Kx base B w) :
  Calls prog 383 #[.pointer (some ⟨B,0,none⟩),.string s] w λe w'=>e=.returned (.string ⟨(Lex.esc s.data.toList).toArray⟩)/\Below w.heap.size w w':=by
 obtain ⟨T,f,h⟩:=hR.A7b;rcases Nat.lt_or_ge s.size 16 with h16 | h16
 ·exact A06 B T f s w h16 h
 ·exact Avp B T f s w h16 hs h
end
section
open Go.RowKit Utf
theorem Ak8 (g h c:Nat) (r:Value) (s:ByteArray) (w:World) (hs:s.size<=100000) (H:GAt g 0 0 r (.slice (some ⟨h,0,none⟩) 4 c) w) (M:Made g h c w) :
  Calls prog 61 #[.pointer (some ⟨g,0,none⟩),.string s] w λe w'=>e=.returned (.string ⟨(Lex.esc s.data.toList).toArray⟩)/\Below g w w':=by
 have KD:=jH (A5u g h c r w H M);have hmf:∀ (fn:Fn) (first cap:Array Value) (w:World),(Instr.makeFunc fn first cap).run prog w=.ok (.func fn first cap) w:=λ_ _ _ _=>rfl;clear H M;go_enter func61,ntmps61;go_wp2_with fail;refine KD.out.mono ?_;rintro e w1 ⟨rfl,B,h1,hr,hb⟩;have c3:=h1.c3;have KR:=jH (A05 _ B s w1 hs hr);have HB:=jH hb;have HG:=jH h1.lt;clear h1 hr hb;go_wp2_with fail;refine KR.out.mono ?_;rintro e w2 ⟨rfl,hb2⟩;have HB2:=jH hb2;clear hb2;go_wp2;go_ret;exact ⟨rfl,HB.out.trans (HB2.out.mono (Nat.le_of_lt HG.out))⟩
theorem Ck.room {base:Nat} {v:Value} {l:List (List UInt8)} {w:World} (h:Ck base v l w) (hl:0<l.length):∃ g c,v=.slice (some ⟨g,0,none⟩) l.length c/\l.length<=c/\base<=g/\g<w.heap.size:=by
 rcases h.2 with ⟨-,h0⟩ | ⟨g,cap,cur,rfl,hb,hg,hnc,hcm,hcs,hcur⟩
 · omega
 · exact ⟨g,cap,rfl,hnc,hb,(World.ownsRow.lt h g rfl).2⟩
def Axi (w:World) (e:Ending) (w':World):Prop:=∃ g h c r,e=.returned (.pointer (some ⟨g,0,none⟩))/\GAt g 0 0 r (.slice (some ⟨h,0,none⟩) 4 c) w'/\Made g h c w'/\w.heap.size<=g/\Below w.heap.size w w'
def Se:List (List UInt8):=[[34],[92,34],[92],[92,92]]
theorem Aop (b:Nat) (w:World) (h0:w.cell? ⟨b,0,none⟩=some (.string ⟨#[34]⟩)) (h1:w.cell? ⟨b,1,none⟩=some (.string ⟨#[92,34]⟩)) (h2:w.cell? ⟨b,2,none⟩=some (.string ⟨#[92]⟩)) (h3:w.cell? ⟨b,3,none⟩=some (.string ⟨#[92,92]⟩)) :
  Calls prog 60 #[.slice (some ⟨b,0,none⟩) 4 4] w (Axi w):=by
 obtain ⟨i0,hi,hz0,hz1,hz2⟩:=info_parts Lh;have HS:=jH (show ∀ j u,(Se.map J9)[j]? = some u->w.cell? ((⟨b,0,none⟩:Addr).add j)=some u from λj u hj=>by
  rw [Addr.add_lit];match j,hj with
  | 0,hj=>simp only [Se,List.map_cons,List.getElem?_cons_zero,Option.some.injEq] at hj;subst hj;exact h0
  | 1,hj=>simp only [Se,List.map_cons,List.getElem?_cons_succ,List.getElem?_cons_zero,Option.some.injEq] at hj;subst hj;exact h1
  | 2,hj=>simp only [Se,List.map_cons,List.getElem?_cons_succ,List.getElem?_cons_zero,Option.some.injEq] at hj;subst hj;exact h2
  | 3,hj=>simp only [Se,List.map_cons,List.getElem?_cons_succ,List.getElem?_cons_zero,Option.some.injEq] at hj;subst hj;exact h3
  | j+4,hj=>simp [Se] at hj)
 have H1:Hid (∀ u ∈ Se.map J9,u.oneCell'=true):=jH (λu hu=>by obtain ⟨x,-,rfl⟩:=List.mem_map.1 hu;rfl);clear h0 h1 h2 h3;go_enter func60,ntmps60;go_wp2_with (at_builtin;(refine wpList_append_own _ rfl _ _ 120 rfl w.heap.size 9 i0 (.string ⟨#[]⟩) 1 16 underlying120 hi hz0 hz1 hz2 rfl jD (.slice none 0 0) 0 [] rfl (World.ownsRow_nil _ _ _ _) ⟨b,0,none⟩ 4 4 (Se.map J9) rfl rfl HS.out H1.out (by simp [maxLen]) jO jS ?_);intro v2 w2 ho2 hg2 _;have HO:=jH (show Ck w.heap.size v2 Se w2 from ho2);have HB2:=jH (show Below w.heap.size w w2 from ⟨hg2.os,hg2.tape,hg2.output,hg2.size,λk hk=>hg2.block k hk (λe=>by have:some k=(none:Option Nat):=e;cases this)⟩);clear ho2 hg2;obtain ⟨h,c,rfl,hc,hh,hlt⟩:=HO.out.room jD);go_ret;have hc':4<=c:=hc;refine ⟨w2.heap.size,h,c,_,rfl,heap_alloc_new w2 _,?_,HB2.out.size,HB2.out.alloc HB2.out.size _⟩;have hk:=λo=>HO.out.Ac ((jan _ w2).alloc (jaa _) o);exact ⟨Ck.cell (hk _) 0 jD,Ck.cell (hk _) 1 jD,Ck.cell (hk _) 2 jD,Ck.cell (hk _) 3 jD,by omega,hc'⟩
theorem Auo (W:World) (b:Nat) (hb:b=W.heap.size):Calls prog 60 #[.slice (some ⟨b,0,none⟩) 4 4] (W.alloc (.cells #[.string ⟨#[34]⟩,.string ⟨#[92,34]⟩,.string ⟨#[92]⟩,.string ⟨#[92,92]⟩] 9)).drew (Axi (W.alloc (.cells #[.string ⟨#[34]⟩,.string ⟨#[92,34]⟩,.string ⟨#[92]⟩,.string ⟨#[92,92]⟩] 9)).drew):=by
 subst hb;exact Aop W.heap.size _ (by go_simp) (by go_simp) (by go_simp) (by go_simp)
namespace Lex
theorem Axw (a b:List UInt8):(⟨a.toArray⟩:ByteArray) ++ ⟨b.toArray⟩=⟨(a ++ b).toArray⟩:=by
 apply ByteArray.ext;simp [ByteArray.data_append]
theorem Xv (c d:UInt8) (x:List UInt8):(⟨#[c]⟩:ByteArray) ++ ⟨x.toArray⟩ ++ ⟨#[d]⟩=⟨(c::(x ++ [d])).toArray⟩:=by
 rw [show (⟨#[c]⟩:ByteArray)=⟨[c].toArray⟩ from rfl,show (⟨#[d]⟩:ByteArray)=⟨[d].toArray⟩ from rfl,Axw,Axw];rfl
end Lex
theorem Alp (k p:Int) (s:ByteArray) (w:World) (hs:s.size<=100000):Calls prog 44 #[.agg #[.int .i64 k,.string s,.int .i64 p]] w λe w'=>e=.returned (.string ⟨(Lex.Co k s.data.toList).toArray⟩)/\Below w.heap.size w w':=by
 obtain ⟨R,hR⟩:∃ R:ByteArray,R=⟨(Lex.Co k s.data.toList).toArray⟩:=⟨_,rfl⟩
 rw [<- hR];by_cases h3:k=3
 ·subst h3;have E:=jH (show R=⟨#[40]⟩ ++ s ++ ⟨#[41]⟩ by
   rw [hR,Lex.Co,if_pos rfl];have:=Lex.Xv 40 41 s.data.toList;rw [Lex.Gn] at this;exact this.symm)
  clear hR;go_enter func44,ntmps44;go_wp2;go_ret;exact ⟨congrArg (λx=>Ending.returned (.string x)) E.out.symm,(jan _ _).alloc (jaa _) _⟩
 by_cases h5:k=5
 ·subst h5;have E:=jH (show R=⟨#[91]⟩ ++ s ++ ⟨#[93]⟩ by
   rw [hR,Lex.Co,if_neg jD,if_pos rfl];have:=Lex.Xv 91 93 s.data.toList;rw [Lex.Gn] at this;exact this.symm)
  clear hR;go_enter func44,ntmps44;go_wp2;go_ret;exact ⟨congrArg (λx=>Ending.returned (.string x)) E.out.symm,(jan _ _).alloc (jaa _) _⟩
 by_cases h1:k=1
 ·subst h1;have E:=jH (show R=⟨#[34]⟩ ++ ⟨(Lex.esc s.data.toList).toArray⟩ ++ ⟨#[34]⟩ by
   rw [hR,Lex.Co,if_neg jD,if_neg jD,if_pos rfl];exact (Lex.Xv 34 34 _).symm)
  have hXs:(⟨(Lex.esc s.data.toList).toArray⟩:ByteArray).size<=200000:=by
   have h1:=Lex.Wy s.data.toList;have h2:=Lex.Afx s.data.toList;have h4:s.data.toList.length=s.size:=by simp
   show (Lex.esc s.data.toList).toArray.size<=_;rw [List.size_toArray];omega
  have KX:=jH (λg h c r W H M=>Ak8 g h c r s W hs H M);generalize (⟨(Lex.esc s.data.toList).toArray⟩:ByteArray)=X at E hXs KX;have a1:∀ W,(Op.stringOp .add ⟨#[34]⟩ X).run prog W=.ok (.string (⟨#[34]⟩ ++ X)) W:=λW=>run_string_add_sum W _ _ (by show 1+X.size<=_;omega);have a2:∀ W,(Op.stringOp .add (⟨#[34]⟩ ++ X) ⟨#[34]⟩).run prog W=.ok (.string (⟨#[34]⟩ ++ X ++ ⟨#[34]⟩)) W:=λW=>run_string_add_sum W _ _ (by rw [ByteArray.size_append];show 1+X.size+1<=_;omega);clear hR h3 h5;have c1:(w.alloc (.cells #[.int .i64 1,.string s,.int .i64 p] 83)).cell? ⟨w.heap.size,1,none⟩=some (.string s):=by go_simp
  go_enter func44,ntmps44;go_wp2;go_region_held3 (λw'=>w'.cell? ⟨w.heap.size,1,none⟩=some (.string s)) (go_keep) (first
   | (go_at_call 60;(with_reducible refine (Auo _ _ jS).mono ?_);rintro e w2 ⟨g,h,c,r,rfl,hG,hM,hg,hb⟩;have B2:=jH hb;have KR:=jH (KX.out g h c r w2 hG hM);have HG:=jH hg;have d1:w2.cell? ⟨w.heap.size,1,none⟩=some (.string s):=(hb.cell (p:=⟨w.heap.size,1,none⟩) (by simp;omega)).trans (by go_simp);clear hb hG hM hg)
   | (go_at_call 61;(with_reducible refine KR.out.mono ?_);rintro e w3 ⟨rfl,hb3⟩;have B3:=jH hb3;have e1:w3.cell? ⟨w.heap.size,1,none⟩=some (.string s):=(hb3.cell (p:=⟨w.heap.size,1,none⟩) (show w.heap.size<g by have:=HG.out;simp at this;omega)).trans d1;clear hb3))
  all_goals
   go_wp2;go_ret;refine ⟨congrArg (λx=>Ending.returned (.string x)) E.out.symm,?_⟩;have hg:=HG.out;simp at hg;exact ((((((jan _ w).alloc (jaa _) _).drew).alloc jS _)).trans (B2.out.mono (by simp;omega))).trans (B3.out.mono jO)
 ·have E:=jH (show R=s by
   rw [hR,Lex.Co,if_neg h3,if_neg h5,if_neg h1,Lex.Gn])
  have n1:(k == 1)=false:=by simpa using h1
  have n3:(k == 3)=false:=by simpa using h3
  have n5:(k == 5)=false:=by simpa using h5
  have KC:=jH (De s (w.alloc (.cells #[.int .i64 k,.string s,.int .i64 p] 83)) hs);clear hR h1 h3 h5;go_enter func44,ntmps44;go_wp2_with fail;with_reducible refine KC.out.mono ?_
  rintro e w1 ⟨rfl,hb1⟩;have B1:=jH hb1;clear hb1;go_wp2;go_ret;exact ⟨congrArg (λx=>Ending.returned (.string x)) E.out.symm,((jan _ w).alloc (jaa _) _).trans (B1.out.mono jS)⟩
end
