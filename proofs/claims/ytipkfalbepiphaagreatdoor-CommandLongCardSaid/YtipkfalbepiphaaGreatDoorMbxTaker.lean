import Derived.Test.YtipkfalbepiphaaGreatDoorLexSeq
import Derived.Test.YtipkfalbepiphaaGreatDoorPunyD
import Derived.Test.YtipkfalbepiphaaGreatDoorMbxPl
import Derived.Laws.Runes
set_option maxRecDepth 100000
set_option maxHeartbeats 2000000
namespace Go.Proofs.YtipkfalbepiphaaGreatDoor
open Tryz
open Go.RowKit Utf Go.Shelf
def SAt (g o:Nat) (k:Mbx.S) (w:World):Prop:=w.cell? ⟨g,o,none⟩=some (.int .i64 k.1)/\w.cell? ⟨g,o+1,none⟩=some (.string ⟨k.2.toArray⟩)/\∃ p:Int,w.cell? ⟨g,o+2,none⟩=some (.int .i64 p)
def Ft (N:Nat) (v:Value) (l:List Mbx.S) (w:World):Prop :=
 ∃ (A:Option Addr) (c:Nat),v=.slice A l.length c/\l.length<=c/\∀ i (h:i<l.length),∃ g o,A=some ⟨g,o,none⟩/\g<N/\SAt g (o+i*3) l[i] w
theorem Ft.Ac {N:Nat} {v:Value} {l:List Mbx.S} {w w':World} (H:Ft N v l w) (hb:∀ k,k<N->w'.heap[k]? = w.heap[k]?):Ft N v l w':=by
 obtain ⟨A,c,h1,h2,h3⟩:=H;refine ⟨A,c,h1,h2,λi hi=>?_⟩;obtain ⟨g,o,h4,h5,h6,h7,p,h8⟩:=h3 i hi;have e:∀ j,w'.cell? ⟨g,j,none⟩=w.cell? ⟨g,j,none⟩:=λj=>World.cell?_of_block (w:=w) (hb g h5);exact ⟨g,o,h4,h5,(e _).trans h6,(e _).trans h7,p,(e _).trans h8⟩
theorem Ft.of {v:Value} {ts:List Lex.Tok} {w:World} (h:Abc v ts w):Ft w.heap.size v (ts.map Lex.Fi) w:=by
 obtain ⟨A,c,rfl,hc,h⟩:=h;refine ⟨A,c,by rw [jai],by rw [jai];exact hc,λi hi=>?_⟩;rw [jai] at hi;obtain ⟨g,o,rfl,hg,h⟩:=h jO;obtain ⟨h1,h2,h3⟩:=h i hi;have e:(ts.map Lex.Fi)[i]'(by rw [jai];exact hi)=Lex.Fi (Lex.nth ts i):=by
  rw [List.getElem_map];unfold Lex.nth;rw [List.getD_eq_getElem?_getD,List.getElem?_eq_getElem hi];rfl
 rw [e];exact ⟨g,o,rfl,hg,h1,h2,_,h3⟩
theorem Ft.flat {N:Nat} {v:Value} {l:List Mbx.S} {w:World} (H:Ft N v l w):∃ (A:Option Addr) (c:Nat),v=.slice A l.length c/\l.length<=c /\
  (0<l.length->∃ g o,A=some ⟨g,o,none⟩/\g<N/\∀ i (h:i<l.length),SAt g (o+i*3) l[i] w):=by
 obtain ⟨A,c,h1,h2,h3⟩:=H;refine ⟨A,c,h1,h2,λh0=>?_⟩;obtain ⟨g,o,h4,h5,-⟩:=h3 0 h0;refine ⟨g,o,h4,h5,λi hi=>?_⟩;obtain ⟨g',o',h6,-,h7⟩:=h3 i hi;rw [h4] at h6;injection h6 with h6
 injection h6 with e1 e2
 subst e1 e2;exact h7
structure Bd (N:Nat) (v:Value) (l:List Mbx.S) (n:Nat) (x y:ByteArray) (w:World):Prop where
 blk:w.heap[N]? = some (.cells #[v,.int .i64 n,.string x,.string y] 231 (0,0))
 Aha:Ft N v l w
section
variable {N n:Nat} {v:Value} {l:List Mbx.S} {x y:ByteArray} {w:World}
theorem Bd.lt (H:Bd N v l n x y w):N<w.heap.size:=(Array.getElem?_eq_some_iff.1 H.blk).1
theorem Bd.c0 (H:Bd N v l n x y w):w.cell? ⟨N,0,none⟩=some v:=by have:=H.blk;simp [World.cell?,this]
theorem Bd.c1 (H:Bd N v l n x y w):w.cell? ⟨N,1,none⟩=some (.int .i64 n):=by have:=H.blk;simp [World.cell?,this]
theorem Bd.c2 (H:Bd N v l n x y w):w.cell? ⟨N,2,none⟩=some (.string x):=by have:=H.blk;simp [World.cell?,this]
theorem Bd.c3 (H:Bd N v l n x y w):w.cell? ⟨N,3,none⟩=some (.string y):=by have:=H.blk;simp [World.cell?,this]
theorem Bd.fr (H:Bd N v l n x y w) (k:Nat):w.frozen? ⟨N,k,none⟩=false:=by have:=H.blk;simp [World.frozen?,this]
theorem Bd.kept {w':World} (H:Bd N v l n x y w) (hb:∀ k,k<=N->w'.heap[k]? = w.heap[k]?):Bd N v l n x y w' :=
 ⟨(hb N (jaa _)).trans H.blk,H.Aha.Ac λk hk=>hb k (Nat.le_of_lt hk)⟩
theorem Bd.Ac {w':World} (H:Bd N v l n x y w) (hb:Below w.heap.size w w'):Bd N v l n x y w':=H.kept λk hk=>hb.block k (Nat.lt_of_le_of_lt hk H.lt)
theorem Bd.Awc (H:Bd N v l n x y w) (m:Nat):Bd N v l m x y (w.setCell ⟨N,1,none⟩ (.int .i64 m)) :=
 ⟨by have:=H.blk;simp [World.setCell,Array.getElem?_modify,this],H.Aha.Ac λk hk=>Below.heap_setCell _ _ _ _ (by show k ≠ N;omega)⟩
theorem Bd.A4n (H:Bd N v l n x y w) (z:ByteArray):Bd N v l n z y (w.setCell ⟨N,2,none⟩ (.string z)) :=
 ⟨by have:=H.blk;simp [World.setCell,Array.getElem?_modify,this],H.Aha.Ac λk hk=>Below.heap_setCell _ _ _ _ (by show k ≠ N;omega)⟩
theorem Bd.Aae (H:Bd N v l n x y w) (z:ByteArray):Bd N v l n x z (w.setCell ⟨N,3,none⟩ (.string z)) :=
 ⟨by have:=H.blk;simp [World.setCell,Array.getElem?_modify,this],H.Aha.Ac λk hk=>Below.heap_setCell _ _ _ _ (by show k ≠ N;omega)⟩
theorem Az.set {g:Nat} {a b:World} (h:Az g a b) (k:Nat) (u:Value):Az g a (b.setCell ⟨g,k,none⟩ u) :=
 h.trans ⟨rfl,rfl,rfl,by simp [World.setCell],λi _ hne=>Below.heap_setCell _ _ _ _ hne⟩
theorem Az.then {g:Nat} {a b c:World} (h:Az g a b) (hb:Below a.heap.size b c):Az g a c :=
 ⟨hb.os.trans h.os,hb.tape.trans h.tape,hb.output.trans h.output,Nat.le_trans h.size hb.size,λi hi hne=>(hb.block i hi).trans (h.block i hi hne)⟩
theorem Az.of {g:Nat} {a b:World} (h:Below a.heap.size a b):Az g a b:=(Az.refl g a).then h
end
namespace Mbx
def isK (l:List S) (i:Nat) (q:Int):Bool:=match l[i]? with | some k=>k.1 == q | none=>false
def isS (l:List S) (i:Nat) (t:List UInt8):Bool:=decide (l[i]? = some (2,t))
end Mbx
theorem Mj (N:Nat) (v:Value) (l:List Mbx.S) (n:Nat) (x y:ByteArray) (w:World) (H:Bd N v l n x y w) (b:Nat) (q:Int) (hn:n+b<=1000000) (hl:l.length<=1000000) :
  Calls prog 195 #[.pointer (some ⟨N,0,none⟩),.int .i64 b,.int .i64 q] w λe w'=>e=.returned (.bool (Mbx.isK l (n+b) q))/\Below w.heap.size w w':=by
 have c1:=H.c1;have c0:=H.c0;obtain ⟨A,c,rfl,hc,h⟩:=H.Aha;unfold Mbx.isK;by_cases hi:n+b<l.length
 ·obtain ⟨g,o,rfl,-,h1,-⟩:=h (n+b) hi;rw [List.getElem?_eq_getElem hi];simp only;have hiz:(n:Int)+(b:Int)<(l.length:Int):=jO
  generalize l[n+b].1=k at h1 ⊢;clear h H hi;generalize l.length=len at *;cases hq:(k == q)
  all_goals
   go_enter func195,ntmps195;go_wp2;go_ret;exact ⟨rfl,jan _ _⟩
 ·rw [List.getElem?_eq_none jO];simp only;have hiz:¬ (n:Int)+(b:Int)<(l.length:Int):=jO
  clear h H hi;generalize l.length=len at *;go_enter func195,ntmps195;go_wp2;go_ret;exact ⟨rfl,jan _ _⟩
theorem A3s (N:Nat) (v:Value) (l:List Mbx.S) (n:Nat) (x y:ByteArray) (w:World) (H:Bd N v l n x y w) (q:Int) (hn:n<=1000000) (hl:l.length<=1000000) :
 Calls prog 195 #[.pointer (some ⟨N,0,none⟩),.int .i64 0,.int .i64 q] w λe w'=>e=.returned (.bool (Mbx.isK l n q))/\Below w.heap.size w w':=Mj N v l n x y w H 0 q hn hl
theorem Af9 {α:Type} (h1:Bool->α) (h2:Option Value->α):Go.yielded.match_1 (λ_=>α) (some undef) h1 h2=h2 (some undef):=rfl
attribute [local go_sem] Af9
section
variable {P:Program} {ops:Array Oper} {Q:Exit->Act->World->Prop} {md:Region.Mode} {S:World->Prop}
theorem Ay (i:Nat) (d:Tmp) {oi:Oper} {v:Value} {fuel:Nat} {listed:Array Bool} {a:Act} {w:World} (hi:ops[i]? = some oi) (hd:oi.dst=some d)
  (hs:Region.noSelect ops=true) (hf:Region.free md ops listed i=true) (hr:(Region.ready md ops listed).contains i=true)
  (hQ:∀ c a w,Q (.panic c) (a.put oi.dst v) w->Q (.panic c) a w) (hy:YieldsIf P ops S oi v a) (hS:S w)
  (h:wpAnyH P md ops Q S fuel (listed.setIfInBounds i true) (a.put (some d) v) w):wpAnyH P md ops Q S (fuel+1) listed a w :=
 wpAnyH_take hi hs hf hr hQ hy hS (by rw [hd];exact h)
end
theorem Y0 (N:Nat) (v:Value) (l:List Mbx.S) (n:Nat) (x y:ByteArray) (w:World) (H:Bd N v l n x y w) (t:List UInt8) (T:ByteArray) (hT:T=⟨t.toArray⟩) (hn:n<=1000000) (hl:l.length<=1000000) :
  Calls prog 198 #[.pointer (some ⟨N,0,none⟩),.string T] w λe w'=>e=.returned (.bool (Mbx.isS l n t))/\Below w.heap.size w w':=by
 have K:=λW (hW:Below w.heap.size w W)=>A3s N v l n x y W (H.Ac hW) 2 hn hl;have c1:=H.c1;have c0:=H.c0;obtain ⟨A,c,rfl,hc,h⟩:=H.Aha;unfold Mbx.isS;simp only [Mbx.isK] at K;have hNl:=H.lt;by_cases hi:n<l.length
 ·obtain ⟨g,o,rfl,hg,h1,h2,-⟩:=h n hi;have hgl:g<w.heap.size:=Nat.lt_trans hg hNl;rw [List.getElem?_eq_getElem hi];simp only [List.getElem?_eq_getElem hi] at K;have hiz:(n:Int)<(l.length:Int):=jO
  obtain ⟨⟨k,u⟩,hk⟩:∃ p,p=l[n]:=⟨_,rfl⟩
  simp only [<- hk] at K h2 ⊢;cases hq:(k == 2)
  ·simp only [hq] at K;have E:decide (some (k,u)=some ((2:Int),t))=false:=by
    rw [decide_eq_false_iff_not];intro e;injection e with e
    injection e with e1 e2
    rw [e1] at hq;cases hq
   rw [E];have K:=jH K;clear h H hi E hq h1 h2 hk;generalize l.length=len at *;go_enter func198,ntmps198;go_wp2;refine wp_region_held_drew (S:=λw':World=>Below w.heap.size w w') jK ?_ (λhHeld=>?_)
   ·exact (jan _ _).drew
   refine Ay 0 5 (v:=?_) rfl rfl jK jK jK (λ_ _ _ h=>h) (Or.inl ⟨by rfl,?_⟩) jA ?_;rotate_left
   ·intro w hSw;go_simp
    first | done | with_reducible rfl
   simp only [Act.put,jad,jae,jaf];refine wpAnyH_ready (rs:=[1]) jK jS ?_;refine AllReadyH.cons (o:={ dst:=some 6,op:=.call { callee:=.value (.func 195),args:=#[.tmp 5,.const (.int .i64 0),.const (.int .i64 2)],argTypes:=#[254,3,3] },type:=4,pos := "mailbox.go:192", after:=_,guard:=none }) rfl (λK2 hK=>?_) AllReadyH.nil
   (try go_simp)
   go_at_call 195;with_reducible refine (K.out _ (jan _ w).drew).mono ?_
   rintro e w2 ⟨rfl,hb⟩;have B:=jH (Ag hb);clear hb;go_wp2_with fail;clear hHeld;refine hK.out _ _ ?_ (λhHeld=>?_)
   ·exact B.out
   clear hK K2;refine Ay 2 7 (v:=?_) rfl rfl jK jK jK (λ_ _ _ h=>h) (Or.inl ⟨by rfl,?_⟩) jA ?_;rotate_left
   ·intro w hSw;go_simp
    first | done | with_reducible rfl
   simp only [Act.put,jad,jae,jaf];refine Ay 3 8 (v:=undef) rfl rfl jK jK jK (λ_ _ _ h=>h) (Or.inr ⟨by rfl,rfl⟩) jA ?_;simp only [Act.put,jad,jae,jaf];refine Ay 4 9 (v:=undef) rfl rfl jK jK jK (λ_ _ _ h=>h) (Or.inr ⟨by rfl,rfl⟩) jA ?_;simp only [Act.put,jad,jae,jaf];refine Ay 5 10 (v:=undef) rfl rfl jK jK jK (λ_ _ _ h=>h) (Or.inr ⟨by rfl,rfl⟩) jA ?_;simp only [Act.put,jad,jae,jaf];refine Ay 6 11 (v:=undef) rfl rfl jK jK jK (λ_ _ _ h=>h) (Or.inr ⟨by rfl,rfl⟩) jA ?_;simp only [Act.put,jad,jae,jaf];refine Ay 7 12 (v:=undef) rfl rfl jK jK jK (λ_ _ _ h=>h) (Or.inr ⟨by rfl,rfl⟩) jA ?_;simp only [Act.put,jad,jae,jaf];refine Ay 8 13 (v:=undef) rfl rfl jK jK jK (λ_ _ _ h=>h) (Or.inr ⟨by rfl,rfl⟩) jA ?_;simp only [Act.put,jad,jae,jaf];refine Ay 9 14 (v:=undef) rfl rfl jK jK jK (λ_ _ _ h=>h) (Or.inr ⟨by rfl,rfl⟩) jA ?_
   simp only [Act.put,jad,jae,jaf];refine Ay 10 15 (v:=undef) rfl rfl jK jK jK (λ_ _ _ h=>h) (Or.inr ⟨by rfl,rfl⟩) jA ?_;simp only [Act.put,jad,jae,jaf];refine Ay 11 16 (v:=undef) rfl rfl jK jK jK (λ_ _ _ h=>h) (Or.inr ⟨by rfl,rfl⟩) jA ?_;simp only [Act.put,jad,jae,jaf];refine Ay 12 17 (v:=undef) rfl rfl jK jK jK (λ_ _ _ h=>h) (Or.inr ⟨by rfl,rfl⟩) jA ?_;simp only [Act.put,jad,jae,jaf];refine Ay 13 18 (v:=undef) rfl rfl jK jK jK (λ_ _ _ h=>h) (Or.inr ⟨by rfl,rfl⟩) jA ?_;simp only [Act.put,jad,jae,jaf];refine Ay 14 19 (v:=undef) rfl rfl jK jK jK (λ_ _ _ h=>h) (Or.inr ⟨by rfl,rfl⟩) jA ?_;simp only [Act.put,jad,jae,jaf];refine Ay 15 20 (v:=undef) rfl rfl jK jK jK (λ_ _ _ h=>h) (Or.inr ⟨by rfl,rfl⟩) jA ?_;simp only [Act.put,jad,jae,jaf];refine Ay 16 21 (v:=?_) rfl rfl jK jK jK (λ_ _ _ h=>h) (Or.inl ⟨by rfl,?_⟩) jA ?_
   rotate_left
   ·intro w hSw;go_simp
    first | done | with_reducible rfl
   simp only [Act.put,jad,jae,jaf];refine Ay 17 4 (v:=?_) rfl rfl jK jK jK (λ_ _ _ h=>h) (Or.inl ⟨by rfl,?_⟩) jA ?_;rotate_left
   ·intro w hSw;go_simp
    first | done | with_reducible rfl
   simp only [Act.put,jad,jae,jaf];refine wpAnyH_done jK ?_ _
   all_goals
    go_wp2;go_ret;exact ⟨rfl,B.out⟩
  ·simp only [hq] at K;have hk2:k=2:=by simpa using hq
   have hx:((⟨u.toArray⟩:ByteArray).toList == T.toList)=decide (some (k,u)=some ((2:Int),t)):=by
    rw [hT,ByteArray.toList_eq,ByteArray.toList_eq,hk2,Bool.eq_iff_iff,beq_iff_eq,decide_eq_true_eq];simp
   rw [<- hx];have K:=jH K;generalize (⟨u.toArray⟩:ByteArray)=U at h2 ⊢;clear h H hi hq h1 hx hT hk2 hk;generalize l.length=len at *;cases hq:(U.toList == T.toList)
   all_goals
    go_enter func198,ntmps198;go_wp2;go_region_held3 (λw'=>w'.cell? ⟨N,0,none⟩=some (.slice (some ⟨g,o,none⟩) len c)/\w'.cell? ⟨N,1,none⟩=some (.int .i64 n)/\w'.cell? ⟨g,o+n*3+1,none⟩=some (.string U)) (go_keep) (first | (go_at_call 195;(with_reducible refine (K.out _ (jan _ w).drew).mono ?_);rintro e w2 ⟨rfl,hb⟩;have B:=jH (Ag hb);have d0:=(B.out.cell (p:=⟨N,0,none⟩) hNl).trans c0;have d1:=(B.out.cell (p:=⟨N,1,none⟩) hNl).trans c1;have d2:=(B.out.cell (p:=⟨g,o+n*3+1,none⟩) hgl).trans h2;clear hb))
    all_goals
     go_wp2;go_ret;exact ⟨rfl,B.out⟩
 ·rw [List.getElem?_eq_none jO];simp only [List.getElem?_eq_none (show l.length<=n by omega)] at K;have E:decide ((none:Option Mbx.S)=some ((2:Int),t))=false:=by simp
  rw [E];have K:=jH K;clear h H hi E;generalize l.length=len at *;go_enter func198,ntmps198;go_wp2;refine wp_region_held_drew (S:=λw':World=>Below w.heap.size w w') jK ?_ (λhHeld=>?_)
  ·exact (jan _ _).drew
  refine Ay 0 5 (v:=?_) rfl rfl jK jK jK (λ_ _ _ h=>h) (Or.inl ⟨by rfl,?_⟩) jA ?_;rotate_left
  ·intro w hSw;go_simp
   first | done | with_reducible rfl
  simp only [Act.put,jad,jae,jaf];refine wpAnyH_ready (rs:=[1]) jK jS ?_;refine AllReadyH.cons (o:={ dst:=some 6,op:=.call { callee:=.value (.func 195),args:=#[.tmp 5,.const (.int .i64 0),.const (.int .i64 2)],argTypes:=#[254,3,3] },type:=4,pos := "mailbox.go:192", after:=_,guard:=none }) rfl (λK2 hK=>?_) AllReadyH.nil
  (try go_simp)
  go_at_call 195;with_reducible refine (K.out _ (jan _ w).drew).mono ?_
  rintro e w2 ⟨rfl,hb⟩;have B:=jH (Ag hb);clear hb;go_wp2_with fail;clear hHeld;refine hK.out _ _ ?_ (λhHeld=>?_)
  ·exact B.out
  clear hK K2;refine Ay 2 7 (v:=?_) rfl rfl jK jK jK (λ_ _ _ h=>h) (Or.inl ⟨by rfl,?_⟩) jA ?_;rotate_left
  ·intro w hSw;go_simp
   first | done | with_reducible rfl
  simp only [Act.put,jad,jae,jaf];refine Ay 3 8 (v:=undef) rfl rfl jK jK jK (λ_ _ _ h=>h) (Or.inr ⟨by rfl,rfl⟩) jA ?_;simp only [Act.put,jad,jae,jaf];refine Ay 4 9 (v:=undef) rfl rfl jK jK jK (λ_ _ _ h=>h) (Or.inr ⟨by rfl,rfl⟩) jA ?_;simp only [Act.put,jad,jae,jaf];refine Ay 5 10 (v:=undef) rfl rfl jK jK jK (λ_ _ _ h=>h) (Or.inr ⟨by rfl,rfl⟩) jA ?_;simp only [Act.put,jad,jae,jaf];refine Ay 6 11 (v:=undef) rfl rfl jK jK jK (λ_ _ _ h=>h) (Or.inr ⟨by rfl,rfl⟩) jA ?_;simp only [Act.put,jad,jae,jaf];refine Ay 7 12 (v:=undef) rfl rfl jK jK jK (λ_ _ _ h=>h) (Or.inr ⟨by rfl,rfl⟩) jA ?_;simp only [Act.put,jad,jae,jaf];refine Ay 8 13 (v:=undef) rfl rfl jK jK jK (λ_ _ _ h=>h) (Or.inr ⟨by rfl,rfl⟩) jA ?_;simp only [Act.put,jad,jae,jaf];refine Ay 9 14 (v:=undef) rfl rfl jK jK jK (λ_ _ _ h=>h) (Or.inr ⟨by rfl,rfl⟩) jA ?_
  simp only [Act.put,jad,jae,jaf];refine Ay 10 15 (v:=undef) rfl rfl jK jK jK (λ_ _ _ h=>h) (Or.inr ⟨by rfl,rfl⟩) jA ?_;simp only [Act.put,jad,jae,jaf];refine Ay 11 16 (v:=undef) rfl rfl jK jK jK (λ_ _ _ h=>h) (Or.inr ⟨by rfl,rfl⟩) jA ?_;simp only [Act.put,jad,jae,jaf];refine Ay 12 17 (v:=undef) rfl rfl jK jK jK (λ_ _ _ h=>h) (Or.inr ⟨by rfl,rfl⟩) jA ?_;simp only [Act.put,jad,jae,jaf];refine Ay 13 18 (v:=undef) rfl rfl jK jK jK (λ_ _ _ h=>h) (Or.inr ⟨by rfl,rfl⟩) jA ?_;simp only [Act.put,jad,jae,jaf];refine Ay 14 19 (v:=undef) rfl rfl jK jK jK (λ_ _ _ h=>h) (Or.inr ⟨by rfl,rfl⟩) jA ?_;simp only [Act.put,jad,jae,jaf];refine Ay 15 20 (v:=undef) rfl rfl jK jK jK (λ_ _ _ h=>h) (Or.inr ⟨by rfl,rfl⟩) jA ?_;simp only [Act.put,jad,jae,jaf];refine Ay 16 21 (v:=?_) rfl rfl jK jK jK (λ_ _ _ h=>h) (Or.inl ⟨by rfl,?_⟩) jA ?_
  rotate_left
  ·intro w hSw;go_simp
   first | done | with_reducible rfl
  simp only [Act.put,jad,jae,jaf];refine Ay 17 4 (v:=?_) rfl rfl jK jK jK (λ_ _ _ h=>h) (Or.inl ⟨by rfl,?_⟩) jA ?_;rotate_left
  ·intro w hSw;go_simp
   first | done | with_reducible rfl
  simp only [Act.put,jad,jae,jaf];refine wpAnyH_done jK ?_ _
  all_goals
   go_wp2;go_ret;exact ⟨rfl,B.out⟩
theorem Gj (N:Nat) (v:Value) (l:List Mbx.S) (n:Nat) (x y:ByteArray) (w:World) (H:Bd N v l n x y w) (hi:n<l.length) (hl:l.length<=1000000) :
  Calls prog 196 #[.pointer (some ⟨N,0,none⟩)] w λe w'=>(∃ p:Int,e=.returned (.agg #[.int .i64 l[n].1,.string ⟨l[n].2.toArray⟩,.int .i64 p]))/\Bd N v l (n+1) x y w'/\Az N w w':=by
 obtain ⟨W1,hW1⟩:∃ W1,W1=(w.setCell ⟨N,1,none⟩ (.int .i64 ((n:Int)+1))).alloc (.cells #[.int .i64 0,.string ⟨#[]⟩,.int .i64 0] 83):=⟨_,rfl⟩
 have hb0:Below w.heap.size w (w.alloc (.cells #[.int .i64 0,.string ⟨#[]⟩,.int .i64 0] 83)):=Ab _ _;have H0:=H.Ac hb0;have p1:=H0.c1;have pf:=H0.fr 1;have hNl:=H.lt;have H1:Bd N v l (n+1) x y W1:=by
  rw [hW1];exact (H.Awc (n+1)).Ac (Ab _ _)
 have hs0:(w.setCell ⟨N,1,none⟩ (.int .i64 ((n:Int)+1))).heap.size=w.heap.size:=by simp [World.setCell]
 have O1:Az N w W1:=by
  rw [hW1];exact ((Az.refl N w).set 1 _).then ((Ab _ _).mono (by rw [hs0];exact jaa _))
 have hz:W1.heap.size=w.heap.size+1:=by rw [hW1];simp [World.setCell]
 have bx:∀ k,W1.cell? ⟨w.heap.size,k,none⟩=#[.int .i64 0,.string ⟨#[]⟩,.int .i64 0][k]?:=λk=>by
  rw [hW1,World.cell?_alloc_at _ _ _ _ hs0.symm]
 have bf:∀ k,W1.frozen? ⟨w.heap.size,k,none⟩=false:=λk=>by
  rw [hW1];have:=heap_alloc_new (w.setCell ⟨N,1,none⟩ (.int .i64 ((n:Int)+1))) (.cells #[.int .i64 0,.string ⟨#[]⟩,.int .i64 0] 83);rw [hs0] at this;unfold World.frozen?;rw [this];simp
 have b0:W1.drew.cell? ⟨w.heap.size,0,none⟩=some (.int .i64 0):=bx 0;have b1:W1.drew.cell? ⟨w.heap.size,1,none⟩=some (.string ⟨#[]⟩):=bx 1;have b2:W1.drew.cell? ⟨w.heap.size,2,none⟩=some (.int .i64 0):=bx 2;have f0:W1.drew.frozen? ⟨w.heap.size,0,none⟩=false:=bf 0;have f1:W1.drew.frozen? ⟨w.heap.size,1,none⟩=false:=bf 1;have f2:W1.drew.frozen? ⟨w.heap.size,2,none⟩=false:=bf 2;have e0:W1.cell? ⟨w.heap.size,0,none⟩=some (.int .i64 0):=bx 0;have e1:W1.cell? ⟨w.heap.size,1,none⟩=some (.string ⟨#[]⟩):=bx 1;have e2:W1.cell? ⟨w.heap.size,2,none⟩=some (.int .i64 0):=bx 2;have e3:W1.frozen? ⟨w.heap.size,1,none⟩=false:=bf 1;have e4:W1.frozen? ⟨w.heap.size,2,none⟩=false:=bf 2;have hwn:IntKind.i64.wrap (n:Int)=(n:Int):=by have:=wrap_small (n:Int) jO jO;exact this
 have H1':=jH H1;have c0:W1.drew.cell? ⟨N,0,none⟩=some v:=H1.c0;have c1:W1.drew.cell? ⟨N,1,none⟩=some (.int .i64 ((n:Int)+1)):=H1.c1;obtain ⟨A,c,rfl,hc,h⟩:=H1.Aha;obtain ⟨g,o,rfl,hg,h1,h2,p,h3⟩:=h n hi;have t0:W1.drew.cell? ⟨g,o+n*3,none⟩=_:=h1;have t1:W1.drew.cell? ⟨g,o+n*3+1,none⟩=_:=h2;have t2:W1.drew.cell? ⟨g,o+n*3+2,none⟩=_:=h3;have hiz:(n:Int)<(l.length:Int):=jO
 have O1:=jH O1;obtain ⟨⟨k,u⟩,hk⟩:∃ p,p=l[n]:=⟨_,rfl⟩
 rw [<- hk] at t0 t1 ⊢;simp only at t0 t1 ⊢;have hlt:w.heap.size<W1.heap.size:=jO
 have BX:Hid (∀ a b c,Below w.heap.size W1 (((W1.drew.setCell ⟨w.heap.size,0,none⟩ a).setCell ⟨w.heap.size,1,none⟩ b).setCell ⟨w.heap.size,2,none⟩ c)):=jH λa b c =>
  (((jan _ _).drew.setCell (p:=⟨w.heap.size,0,none⟩) (jaa _) a).setCell (p:=⟨w.heap.size,1,none⟩) (jaa _) b).setCell (p:=⟨w.heap.size,2,none⟩) (jaa _) c
 clear h h1 h2 h3 H1 hk H H0 hb0 bx bf hz hs0;go_enter func196,ntmps196;go_wp2;rw [<- hW1];clear hW1 p1 pf;go_region
 all_goals
  go_wp2;refine bodyPost_ret (v:=.agg #[.int .i64 k,.string ⟨u.toArray⟩,.int .i64 p]) (by simp [results,results196,go_sem,e0,e1,e2]) rfl ⟨⟨p,rfl⟩,?_,?_⟩
  · exact H1'.out.kept λk hk=>(BX.out _ _ _).block k jO
  · exact O1.out.then (BX.out _ _ _)
