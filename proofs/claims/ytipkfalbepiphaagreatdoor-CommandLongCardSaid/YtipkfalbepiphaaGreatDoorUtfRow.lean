import Derived.Test.YtipkfalbepiphaaGreatDoorGround
import Derived.Maps.AppendAt
import Derived.Deep.AppendLies
import Derived.OwnWalk
import Derived.Laws.OwnMore
import Derived.Laws.IdiomStrings
import Derived.WalkMore
import Derived.ScopeJumps
import Derived.Laws.BytesArg
import Derived.Laws.AppendOwnNone
namespace Go.Proofs.YtipkfalbepiphaaGreatDoor
section
open Go.RowKit
def Dn (b:UInt8):Value:=.int .u8 (b.toNat:Int)
def Ct (r:Int):Value:=.int .i32 r
theorem E4:(Tryz.prog.info? 5).map (λi=>(i.zero,i.size,i.bytes))=some (some (.int .u8 0),1,1):=by kernel_rfl
theorem Bt:(Tryz.prog.info? 21).map (λi=>(i.zero,i.size,i.bytes))=some (some (.int .i32 0),1,4):=by kernel_rfl
def Bu (base:Nat) (v:Value) (bs:List UInt8) (w:World):Prop:=w.ownsRow base 5 1 v bs.length (bs.map Dn)
def Av (base:Nat) (v:Value) (l:List Int) (w:World):Prop:=w.ownsRow base 21 1 v l.length (l.map Ct)
section
variable {P:Program}
theorem Db (W:World) (t E:TypeId) (z:Value) (bytes:Nat) (ht:P.underlying t=some (.slice E)) (hi:(P.info? E).map (λi=>(i.zero,i.size,i.bytes))=some (some z,1,bytes)) (hz1:z.cells.size=1) (hby:bytes<=8)
  (base:Nat) (v:Value) (n:Nat) (xs:List Value) (hown:W.ownsRow base E 1 v n xs) (hbase:base<=W.heap.size) (hlen:n<=1000000) (m:Nat) (hmm:m<=1000) (cells:List Value) (hm:cells.length=m) (h1:cells.all (λu=>u.oneCell')=true)
  {ops:Array Oper} {rest:List Oper} {o:Oper} {a:Act} {Q:Exit->Act->World->Prop} (hgd:o.guard=none) (s x:Operand)
  (ho:o.op=.call { callee:=.builtin .append,args:=#[s,x],argTypes:=#[t,t] })
  (hs:a.eval s=v) (hx:a.eval x=.slice (some ⟨W.heap.size,0,none⟩) m m)
  (h:∀ v' w',w'.ownsRow base E 1 v' (n+m) (xs ++ cells)->Below base W w'->wpList P ops Q rest (a.put o.dst v') w'):wpList P ops Q (o::rest) a (W.alloc (.cells cells.toArray E)):=by
 obtain ⟨i0,hi0,hz0,hs0,hb0⟩:=info_parts hi
 have hown':=hown.alloc (.cells cells.toArray E)
 refine wpList_append_own _ hgd s x t ho base E i0 z 1 bytes ht hi0 hz0 hs0 hb0 hz1 (by decide) v n xs hs hown' ⟨W.heap.size,0,none⟩ m m cells hx (by omega) ?_ (λu hu=>List.all_eq_true.1 h1 u hu) (by simp only [maxLen];omega) ?_ (by simp;omega) ?_
 ·intro j u hj
  have e:(⟨W.heap.size,0,none⟩:Addr).add j=⟨W.heap.size,j,none⟩:=by unfold Addr.add;split<;>simp_all
  have hj':j<cells.length:=(List.getElem?_eq_some_iff.1 hj).1
  rw [e,World.cell?_alloc_at _ _ _ _ (by simp)]
  rw [<- hj];simp [List.getElem?_eq_getElem hj']
 ·have:(n+m)*bytes<=(n+m)*8:=Nat.mul_le_mul_left _ hby
  omega
 ·intro v' w' ho' hg _
  refine h v' w' ho' (((Below.refl _ W).alloc hbase _).grown hg (by simp;omega) λk hk=>(hown'.lt k hk).1)
end
theorem Bu.more {base:Nat} {v:Value} {bs ns:List UInt8} {w:World} {m:Nat} {cells:List Value} (h:w.ownsRow base 5 1 v (bs.length+m) (bs.map Dn ++ cells)) (hc:cells=ns.map Dn) (hm:m=ns.length):Bu base v (bs ++ ns) w:=by
 subst hc hm
 unfold Bu
 rw [List.length_append,List.map_append]
 exact h
theorem Av.more {base:Nat} {v:Value} {l ns:List Int} {w:World} {m:Nat} {cells:List Value} (h:w.ownsRow base 21 1 v (l.length+m) (l.map Ct ++ cells)) (hc:cells=ns.map Ct) (hm:m=ns.length):Av base v (l ++ ns) w:=by
 subst hc hm
 unfold Av
 rw [List.length_append,List.map_append]
 exact h
theorem Bu.nil (base:Nat) (w:World):Bu base (.slice none 0 0) [] w:=World.ownsRow_nil w base _ _
theorem Av.nil (base:Nat) (w:World):Av base (.slice none 0 0) [] w:=World.ownsRow_nil w base _ _
end
section
open Go.RowKit
section
variable {P:Program} {Q:Exit->Act->World->Prop} {a:Act} {w:World}
theorem G7 {c rest:Code} (l:Nat) (hf:findLabel c l=some rest)
  (h:c.wp P (Exit.jump l (λa' w'=>rest.wp P (Exit.noGoto Q) a' w') Q) a w):(Code.scope c).wp P Q a w:=by
 refine wp_scope_jumps l _ (λ_ _=>0) hf h λa' w' hJ=>wp_mono hJ ?_
 intro e a2 w2 hq
 cases e with
 | goto l'=>exact hq.elim
 | _=>exact hq
theorem Sg (l:Nat) (J:Act->World->Prop):Exit.jump l J Q .ret a w=Q .ret a w:=rfl
end
theorem Bf (a:Addr) (n:Nat):(a.add n).block=a.block:=by unfold Addr.add;split<;>rfl
def Row (v:Value) (xs:List Value) (w:World):Prop :=
 ∃ (A:Option Addr) (c:Nat),v=.slice A xs.length c/\xs.length<=c/\(A=none->c=0)/\(0<xs.length->∃ ad,A=some ad/\ad.block<w.heap.size/\∀ j u,xs[j]? = some u->w.cell? (ad.add j)=some u)
theorem Row.Ac {v:Value} {xs:List Value} {w w':World} (h:Row v xs w) (hb:Below w.heap.size w w'):Row v xs w':=by
 obtain ⟨A,c,rfl,hc,h0,ha⟩:=h
 refine ⟨A,c,rfl,hc,h0,λhp=>?_⟩
 obtain ⟨ad,rfl,hlt,hcell⟩:=ha hp
 exact ⟨ad,rfl,Nat.lt_of_lt_of_le hlt hb.size,λj u hu=>(hb.cell (by rw [Bf];exact hlt)).trans (hcell j u hu)⟩
theorem Row.Zm {v:Value} {xs:List Value} {w:World} {base n:Nat} {E:TypeId} (h:w.ownsRow base E 1 v n xs):Row v xs w:=by
 have hx:xs.length=n:=by have:=h.1;omega
 subst hx
 rcases h.2 with ⟨rfl,h0⟩ | ⟨g,cap,cur,rfl,hb,hg,hnc,hcm,hcs,hcur⟩
 ·exact ⟨none,0,by rw [h0],by omega,λ_=>rfl,λhp=>absurd hp (by omega)⟩
 ·refine ⟨some ⟨g,0,none⟩,cap,rfl,hnc,λh=>(by cases h),λ_=>⟨_,rfl,(h.lt g rfl).2,λj u hu=>?_⟩⟩
  exact h.cells (g:=g) rfl j u hu
def Bytes (v:Value) (bs:List UInt8) (w:World):Prop:=Row v (bs.map Dn) w
def Runes (v:Value) (l:List Int) (w:World):Prop:=Row v (l.map Ct) w
theorem Runes.Ac {v:Value} {l:List Int} {w w':World} (h:Runes v l w) (hb:Below w.heap.size w w'):Runes v l w':=Row.Ac h hb
theorem Runes.form {v:Value} {l:List Int} {w:World} (h:Runes v l w):∃ (A:Option Addr) (c:Nat),v=.slice A l.length c/\l.length<=c /\
  (∀ k,k<l.length->∃ ad,A=some ad/\ad.block<w.heap.size/\w.cell? (ad.add k)=some (.int .i32 l[k]!)):=by
 obtain ⟨A,c,rfl,hc,-,ha⟩:=h
 simp only [List.length_map] at ha hc ⊢
 refine ⟨A,c,rfl,hc,λk hk=>?_⟩
 obtain ⟨ad,rfl,hlt,hcell⟩:=ha (by omega)
 refine ⟨ad,rfl,hlt,hcell k _ ?_⟩
 rw [List.getElem?_map,List.getElem?_eq_getElem hk,getElem!_pos l k hk]
 rfl
theorem Av.Nc {base:Nat} {v:Value} {l:List Int} {w:World} (h:Av base v l w):Runes v l w:=Row.Zm h
theorem Hr {v:Value} {bs:List UInt8} {w:World} (h:Bytes v bs w):(convert 45 9 v).run Tryz.prog w=.ok (.string ⟨bs.toArray⟩) w:=by
 obtain ⟨A,c,rfl,hc,-,ha⟩:=h
 simp only [List.length_map] at ha hc ⊢
 cases A with
 | none =>
  have h0:bs.length=0:=by
   rcases Nat.eq_zero_or_pos bs.length with h0 | h0
   · exact h0
   · obtain ⟨ad,h,-⟩:=ha h0;cases h
  rw [run_convert_bytes_nil (P:=Tryz.prog) w 45 5 Tryz.underlying45 Tryz.underlying5 bs.length c 9 Tryz.underlying9,List.eq_nil_of_length_eq_zero h0]
  rfl
 | some ad =>
  refine run_convert_bytes_back w 45 9 5 ad c bs Tryz.underlying45 Tryz.underlying5 Tryz.underlying9 λj hj=>?_
  obtain ⟨ad',h,-,hcell⟩:=ha (by omega)
  obtain rfl:ad=ad':=by injection h
  refine hcell j _ ?_
  rw [List.getElem?_map,List.getElem?_eq_getElem hj]
  rfl
theorem Bu.bytes {base:Nat} {v:Value} {bs:List UInt8} {w:World} (h:Bu base v bs w):Bytes v bs w:=Row.Zm h
theorem Zr {base n:Nat} {E:TypeId} {v:Value} {xs:List Value} {w w':World} (h:w.ownsRow base E 1 v n xs) (hb:Below w.heap.size w w'):w'.ownsRow base E 1 v n xs:=by
 have hlt:=h.lt
 refine ⟨h.1,?_⟩
 rcases h.2 with h0 | ⟨g,cap,cur,rfl,h1,hg,h2⟩
 · exact .inl h0
 · exact .inr ⟨g,cap,cur,rfl,h1,(hb.block g (hlt g rfl).2).trans hg,h2⟩
theorem Bu.Ac {base:Nat} {v:Value} {bs:List UInt8} {w w':World} (h:Bu base v bs w) (hb:Below w.heap.size w w'):Bu base v bs w':=Zr h hb
theorem Av.Ac {base:Nat} {v:Value} {l:List Int} {w w':World} (h:Av base v l w) (hb:Below w.heap.size w w'):Av base v l w':=Zr h hb
section
variable {P:Program}
theorem Amo (W:World) (t E:TypeId) (z:Value) (bytes:Nat) (ht:P.underlying t=some (.slice E)) (hi:(P.info? E).map (λi=>(i.zero,i.size,i.bytes))=some (some z,1,bytes)) (hz1:z.cells.size=1) (hby:bytes<=8)
  (base:Nat) (v:Value) (n:Nat) (xs:List Value) (hown:W.ownsRow base E 1 v n xs) (hbase:base<=W.heap.size) (hlen:n<=1000000) (src:Value) (cells:List Value) (hsrc:Row src cells W) (h1:∀ u ∈ cells,u.oneCell'=true) (hmm:cells.length<=1000000)
  {ops:Array Oper} {rest:List Oper} {o:Oper} {a:Act} {Q:Exit->Act->World->Prop} (hgd:o.guard=none) (s x:Operand)
  (ho:o.op=.call { callee:=.builtin .append,args:=#[s,x],argTypes:=#[t,t] })
  (hs:a.eval s=v) (hx:a.eval x=src)
  (h:∀ v' w',w'.ownsRow base E 1 v' (n+cells.length) (xs ++ cells)->Below base W w'->wpList P ops Q rest (a.put o.dst v') w'):wpList P ops Q (o::rest) a W:=by
 obtain ⟨i0,hi0,hz0,hs0,hb0⟩:=info_parts hi
 obtain ⟨A,c,rfl,hc,h0,ha⟩:=hsrc
 cases A with
 | none =>
  have hl0:cells.length=0:=by have:=h0 rfl;omega
  have hc0:c=0:=h0 rfl
  obtain rfl:cells=[]:=List.eq_nil_of_length_eq_zero hl0
  subst hc0
  refine wpList_append_own_none hgd s x t ho base E i0 1 ht hi0 v n xs hs hown hx (h v W ?_ (Below.refl _ _))
  simpa using hown
 | some ad =>
  refine wpList_append_own _ hgd s x t ho base E i0 z 1 bytes ht hi0 hz0 hs0 hb0 hz1 (by decide) v n xs hs hown ad cells.length c cells hx (by omega) ?_ h1 (by simp only [maxLen];omega) ?_ hbase ?_
  ·intro j u hj
   have hj':j<cells.length:=(List.getElem?_eq_some_iff.1 hj).1
   obtain ⟨ad',e,-,hcell⟩:=ha (by omega)
   obtain rfl:ad=ad':=by injection e
   exact hcell j u hj
  ·have:(n+cells.length)*bytes<=(n+cells.length)*8:=Nat.mul_le_mul_left _ hby
   omega
  ·intro v' w' ho' hg _
   exact h v' w' ho' ((Below.refl _ W).grown hg hbase λk hk=>(hown.lt k hk).1)
end
theorem Ad1 (l:List Int):∀ u ∈ l.map Ct,u.oneCell'=true:=by
 intro u hu
 obtain ⟨b,-,rfl⟩:=List.mem_map.1 hu
 rfl
end
section
open Go.RowKit
section
variable {P:Program}
end
theorem Av.lower {base base':Nat} {v:Value} {l:List Int} {w:World} (h:Av base v l w) (hb:base'<=base):Av base' v l w:=by
 refine ⟨h.1,?_⟩
 rcases h.2 with h0 | ⟨g,cap,cur,h1,h2,h3⟩
 · exact .inl h0
 · exact .inr ⟨g,cap,cur,h1,Nat.le_trans hb h2,h3⟩
section
variable {P:Program}
end
theorem Av.shape {base:Nat} {v:Value} {l:List Int} {w:World} (h:Av base v l w):∃ (A:Option Addr) (c:Nat),v=.slice A l.length c/\(0<l.length->∃ g,A=some ⟨g,0,none⟩/\base<=g/\g<w.heap.size):=by
 rcases h.2 with ⟨rfl,h0⟩ | ⟨g,cap,cur,rfl,hb,hg,hnc,hcm,hcs,hcur⟩
 · exact ⟨none,0,by rw [h0],λhp=>by omega⟩
 · exact ⟨some ⟨g,0,none⟩,cap,rfl,λ_=>⟨g,rfl,hb,(h.lt g rfl).2⟩⟩
theorem Av.cell {base g n c:Nat} {l:List Int} {w:World} (h:Av base (.slice (some ⟨g,0,none⟩) n c) l w) (k:Nat) (hk:k<l.length):w.cell? ⟨g,k,none⟩=some (.int .i32 l[k]!):=by
 have hn:n=l.length:=by
  rcases h.2 with ⟨h0,-⟩ | ⟨g',cap,cur,h0,-⟩
  · cases h0
  · injection h0
 subst hn
 have:=World.ownsRow.cellAt h k (by omega)
 rw [this,List.getElem?_map,List.getElem?_eq_getElem hk,getElem!_pos l k hk]
 rfl
theorem Av.free {base g n c:Nat} {l:List Int} {w:World} (h:Av base (.slice (some ⟨g,0,none⟩) n c) l w) (k:Nat):w.frozen? ⟨g,k,none⟩=false:=by
 have hn:n=l.length:=by
  rcases h.2 with ⟨h0,-⟩ | ⟨g',cap,cur,h0,-⟩
  · cases h0
  · injection h0
 subst hn
 exact World.ownsRow.frozenAt h k
theorem Av.put {base g n c:Nat} {l:List Int} {w:World} (h:Av base (.slice (some ⟨g,0,none⟩) n c) l w) (k:Nat) (x:Int):Av base (.slice (some ⟨g,0,none⟩) n c) (l.set k x) (w.setCell ⟨g,k,none⟩ (.int .i32 x)):=by
 have hn:n=l.length:=by
  rcases h.2 with ⟨h0,-⟩ | ⟨g',cap,cur,h0,-⟩
  · cases h0
  · injection h0
 subst hn
 have:=(World.ownsRow.stored h k (.int .i32 x)).1
 unfold Av
 rw [List.length_set,List.map_set]
 exact this
theorem Av.drewN {base:Nat} {v:Value} {l:List Int} {w:World} (h:Av base v l w) (n:Nat):Av base v l (w.drewN n):=h
theorem Av.drew {base:Nat} {v:Value} {l:List Int} {w:World} (h:Av base v l w):Av base v l w.drew:=h
end
section
open Go.RowKit
structure Cq (v v':Value) (w w':World):Prop where
 os:w'.os=w.os
 tape:w'.tape=w.tape
 output:w'.output=w.output
 size:w.heap.size<=w'.heap.size
 block:∀ k,k<w.heap.size->some k ≠ v.ownBlock->w'.heap[k]? = w.heap[k]?
 place:∀ k,v'.ownBlock=some k->v.ownBlock=some k\/w.heap.size<=k
theorem Cq.refl (v:Value) (w:World):Cq v v w w:=⟨rfl,rfl,rfl,Nat.le_refl _,λ_ _ _=>rfl,λ_ h=>.inl h⟩
theorem Cq.trans {v v1 v2:Value} {w w1 w2:World} (h:Cq v v1 w w1) (k:Cq v1 v2 w1 w2):Cq v v2 w w2:=by
 refine ⟨k.os.trans h.os,k.tape.trans h.tape,k.output.trans h.output,Nat.le_trans h.size k.size,λi hi hne=>?_,λi hi=>?_⟩
 ·refine (k.block i (Nat.lt_of_lt_of_le hi h.size) λe=>?_).trans (h.block i hi hne)
  rcases h.place i e.symm with h1 | h1
  · exact hne h1.symm
  · omega
 ·rcases k.place i hi with h1 | h1
  · exact h.place i h1
  · exact .inr (Nat.le_trans h.size h1)
theorem Cq.C7 {w w':World} (h:Below w.heap.size w w') (v:Value):Cq v v w w':=⟨h.os,h.tape,h.output,h.size,λk hk _=>h.block k hk,λ_ h=>.inl h⟩
theorem Cq.below {v v':Value} {w w':World} (h:Cq v v' w w') {base:Nat} (hb:base<=w.heap.size) (hv:∀ k,v.ownBlock=some k->base<=k):Below base w w' :=
 ⟨h.os,h.tape,h.output,h.size,λk hk=>h.block k (by omega) λe=>by have:=hv k e.symm;omega⟩
theorem Cq.cell {v v':Value} {w w':World} (h:Cq v v' w w') {p:Addr} (hp:p.block<w.heap.size) (hv:some p.block ≠ v.ownBlock):w'.cell? p=w.cell? p:=World.cell?_of_block (h.block p.block hp hv)
theorem Av.off {base:Nat} {v:Value} {l:List Int} {w:World} (h:Av base v l w):∀ k,v.ownBlock=some k->base<=k:=λk hk=>(World.ownsRow.lt h k hk).1
theorem Av.under {base:Nat} {v:Value} {l:List Int} {w:World} (h:Av base v l w) {n:Nat} (hn:w.heap.size<=n):some n ≠ v.ownBlock:=λe=>by have:=(World.ownsRow.lt h n e.symm).2;omega
section
variable {P:Program}
theorem Bw (W:World) (t E:TypeId) (z:Value) (bytes:Nat) (ht:P.underlying t=some (.slice E)) (hi:(P.info? E).map (λi=>(i.zero,i.size,i.bytes))=some (some z,1,bytes)) (hz1:z.cells.size=1) (hby:bytes<=8)
  (base:Nat) (v:Value) (n:Nat) (xs:List Value) (hown:W.ownsRow base E 1 v n xs) (hbase:base<=W.heap.size) (hlen:n<=1000000) (m:Nat) (hmm:m<=1000) (cells:List Value) (hm:cells.length=m) (h1:cells.all (λu=>u.oneCell')=true)
  (N:Nat) (hN:N=W.heap.size)
  {ops:Array Oper} {rest:List Oper} {o:Oper} {a:Act} {Q:Exit->Act->World->Prop} (hgd:o.guard=none) (s x:Operand)
  (ho:o.op=.call { callee:=.builtin .append,args:=#[s,x],argTypes:=#[t,t] })
  (hs:a.eval s=v) (hx:a.eval x=.slice (some ⟨N,0,none⟩) m m)
  (h:∀ v' w',w'.ownsRow base E 1 v' (n+m) (xs ++ cells)->Cq v v' W w'->wpList P ops Q rest (a.put o.dst v') w'):wpList P ops Q (o::rest) a (W.alloc (.cells cells.toArray E)):=by
 subst hN
 obtain ⟨i0,hi0,hz0,hs0,hb0⟩:=info_parts hi
 have hown':=hown.alloc (.cells cells.toArray E)
 refine wpList_append_own_at _ hgd s x t ho base E i0 z 1 bytes ht hi0 hz0 hs0 hb0 hz1 (by decide) v n xs hs hown' ⟨W.heap.size,0,none⟩ m m cells hx (by omega) ?_ (λu hu=>List.all_eq_true.1 h1 u hu) (by simp only [maxLen];omega) ?_ (by simp;omega) ?_
 ·intro j u hj
  have e:(⟨W.heap.size,0,none⟩:Addr).add j=⟨W.heap.size,j,none⟩:=by unfold Addr.add;split<;>simp_all
  have hj':j<cells.length:=(List.getElem?_eq_some_iff.1 hj).1
  rw [e,World.cell?_alloc_at _ _ _ _ (by simp)]
  rw [<- hj];simp [List.getElem?_eq_getElem hj']
 ·have:(n+m)*bytes<=(n+m)*8:=Nat.mul_le_mul_left _ hby
  omega
 ·intro v' w' ho' hg _ hat
  have hsz:(W.alloc (.cells cells.toArray E)).heap.size=W.heap.size+1:=by simp
  refine h v' w' ho' ⟨hg.os,hg.tape,hg.output,by have:=hg.size;omega,λk hk hne=>(hg.block k (by omega) hne).trans (heap_alloc_old W _ hk),λk hk=>?_⟩
  rcases hat with e | e
  ·exact .inl (by rw [<- e];exact hk)
  ·rw [e] at hk
   injection hk with hk
   exact .inr (by omega)
end
theorem Cq.put (g n c k:Nat) (x:Value) (w:World):Cq (.slice (some ⟨g,0,none⟩) n c) (.slice (some ⟨g,0,none⟩) n c) w (w.setCell ⟨g,k,none⟩ x):=by
 have hb:Below g w (w.setCell ⟨g,k,none⟩ x):=(Below.refl g w).setCell (p:=⟨g,k,none⟩) (Nat.le_refl _) x
 refine ⟨hb.os,hb.tape,hb.output,hb.size,λj hj hne=>?_,λ_ h=>.inl h⟩
 exact Below.heap_setCell _ _ _ _ (λe=>hne (by rw [e];rfl))
theorem Bu.off {base:Nat} {v:Value} {l:List UInt8} {w:World} (h:Bu base v l w):∀ k,v.ownBlock=some k->base<=k:=λk hk=>(World.ownsRow.lt h k hk).1
theorem Bu.under {base:Nat} {v:Value} {l:List UInt8} {w:World} (h:Bu base v l w) {n:Nat} (hn:w.heap.size<=n):some n ≠ v.ownBlock:=λe=>by have:=(World.ownsRow.lt h n e.symm).2;omega
end
end Go.Proofs.YtipkfalbepiphaaGreatDoor
