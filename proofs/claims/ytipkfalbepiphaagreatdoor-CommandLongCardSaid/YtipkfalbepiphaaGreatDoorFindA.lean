import Derived.Test.YtipkfalbepiphaaGreatDoorGround
set_option maxRecDepth 100000
set_option maxHeartbeats 4000000
namespace Go.Proofs.YtipkfalbepiphaaGreatDoor
open Tryz
section
open Go.RowKit
def Ld (x:Rg):List Value:=[.int .i32 x.lo,.int .i32 x.hi,.int .i64 x.cat,.int .i64 x.bidi,.int .i64 x.join,.int .i64 x.script]
theorem Ayy (v0 v1 v2 v3 v4 v5:Int) (w:World) :
  Calls prog 313 #[.agg #[.int .i32 v0,.int .i32 v1,.int .i64 v2,.int .i64 v3,.int .i64 v4,.int .i64 v5]] w λe w'=>e=.returned (.tuple #[.int .i32 v0,.int .i32 v1])/\Below w.heap.size w w':=by
 go_enter func313,ntmps313;go_wp2;go_quiet (fail);go_wp2;go_ret2;exact ⟨rfl,below_drewN ((jan _ _).alloc (jaa _) _) _⟩
theorem As0 (be br bx b n:Nat) (y:Rg) (x:Int) (i:Nat) (W:World) (hi:i<n)
  (he:W.cell? ⟨be,0,none⟩=some (.func (.func 313) #[] #[])) (ha:W.cell? ⟨br,0,none⟩=some (.slice (some ⟨b,0,none⟩) n n)) (hx:W.cell? ⟨bx,0,none⟩=some (.int .i32 x))
  (hbx:bx<W.heap.size) (h0:W.cell? ⟨b,i*6,none⟩=some (.int .i32 y.lo)) (h1:W.cell? ⟨b,i*6+1,none⟩=some (.int .i32 y.hi)) (h2:W.cell? ⟨b,i*6+2,none⟩=some (.int .i64 y.cat)) (h3:W.cell? ⟨b,i*6+3,none⟩=some (.int .i64 y.bidi)) (h4:W.cell? ⟨b,i*6+4,none⟩=some (.int .i64 y.join)) (h5:W.cell? ⟨b,i*6+5,none⟩=some (.int .i64 y.script)) :
  Calls prog 328 (#[.int .i64 i] ++ #[.pointer (some ⟨be,0,none⟩),.pointer (some ⟨br,0,none⟩),.pointer (some ⟨bx,0,none⟩)]) W λe w'=>e=.returned (.bool (decide (x<=y.hi)))/\Below W.heap.size W w':=by
 obtain ⟨v0,v1,v2,v3,v4,v5⟩:=y;have hiz:(i:Int)<(n:Int):=jO
 have H:=jH (λW=>Ayy v0 v1 v2 v3 v4 v5 W);go_enter func328,ntmps328;go_wp2_with fail;go_region_with ((go_at_call 313;refine (H.out _).mono ?_;rintro e w' ⟨rfl,hb⟩;have hx':w'.cell? ⟨bx,0,none⟩=some (.int .i32 x):=(hb.cell (p:=⟨bx,0,none⟩) hbx).trans hx;have HB:=jH hb;clear hb))
 all_goals go_wp2
 all_goals go_ret
 all_goals exact ⟨rfl,Ag HB.out⟩
def Xm (rows:List Rg) (x:Int) (w:World) (e:Ending) (w':World):Prop :=
 e=.returned (.tuple #[.agg (Ld ((Hn Rg.lo Rg.hi rows x).getD default)).toArray,.bool (Hn Rg.lo Rg.hi rows x).isSome])/\Below w.heap.size w w'
theorem Aq1 (b n:Nat) (x:Int) (w W0:World)
  (hW0:W0=(((w.alloc (.cells #[.slice (some ⟨b,0,none⟩) n n] 30)).alloc (.cells #[.int .i32 x] 21)).alloc (.cells #[.func (.func 313) #[] #[]] 347)).alloc (.cells #[.int .i32 0,.int .i32 0,.int .i64 0,.int .i64 0,.int .i64 0,.int .i64 0] 66)) :
  W0.heap.size=w.heap.size+1+1+1+1/\Below w.heap.size w W0/\W0.cell? ⟨w.heap.size,0,none⟩=some (.slice (some ⟨b,0,none⟩) n n)/\W0.cell? ⟨w.heap.size+1,0,none⟩=some (.int .i32 x)/\W0.cell? ⟨w.heap.size+1+1,0,none⟩=some (.func (.func 313) #[] #[]) /\
  (∀ o,W0.frozen? ⟨w.heap.size+1+1+1,o,none⟩=false)/\W0.cell? ⟨w.heap.size+1+1+1,0,none⟩=some (.int .i32 0)/\W0.cell? ⟨w.heap.size+1+1+1,1,none⟩=some (.int .i32 0)/\W0.cell? ⟨w.heap.size+1+1+1,2,none⟩=some (.int .i64 0)/\W0.cell? ⟨w.heap.size+1+1+1,3,none⟩=some (.int .i64 0)/\W0.cell? ⟨w.heap.size+1+1+1,4,none⟩=some (.int .i64 0)/\W0.cell? ⟨w.heap.size+1+1+1,5,none⟩=some (.int .i64 0):=by
 subst hW0;refine ⟨by simp,((((jan _ w).alloc (jaa _) _).alloc jS _).alloc (by simp;omega) _).alloc (by simp;omega) _,?_,?_,?_,?_,?_,?_,?_,?_,?_,?_⟩<;>first | (go_simp;done) | (intro o;go_simp;done)
theorem Wx {B S:Nat} {a w:World} (h:Below B a w) (hS:B<=S) (u0 u1 u2 u3 u4 u5:Value) :
  Below B a ((((((w.setCell ⟨S,0,none⟩ u0).setCell ⟨S,1,none⟩ u1).setCell ⟨S,2,none⟩ u2).setCell ⟨S,3,none⟩ u3).setCell ⟨S,4,none⟩ u4).setCell ⟨S,5,none⟩ u5) :=
 ((((((h.setCell (p:=⟨S,0,none⟩) hS u0).setCell (p:=⟨S,1,none⟩) hS u1).setCell (p:=⟨S,2,none⟩) hS u2).setCell (p:=⟨S,3,none⟩) hS u3).setCell (p:=⟨S,4,none⟩) hS u4).setCell (p:=⟨S,5,none⟩) hS u5)
theorem Tx (b n:Nat) (x:Int) (w W0 W:World)
  (hW0:W0=(((w.alloc (.cells #[.slice (some ⟨b,0,none⟩) n n] 30)).alloc (.cells #[.int .i32 x] 21)).alloc (.cells #[.func (.func 313) #[] #[]] 347)).alloc (.cells #[.int .i32 0,.int .i32 0,.int .i64 0,.int .i64 0,.int .i64 0,.int .i64 0] 66))
  (hb:Below W0.heap.size W0 W) :
  W.cell? ⟨w.heap.size,0,none⟩=some (.slice (some ⟨b,0,none⟩) n n)/\W.cell? ⟨w.heap.size+1,0,none⟩=some (.int .i32 x)/\W.cell? ⟨w.heap.size+1+1,0,none⟩=some (.func (.func 313) #[] #[]) /\
  (∀ o,W.frozen? ⟨w.heap.size+1+1+1,o,none⟩=false)/\W.cell? ⟨w.heap.size+1+1+1,0,none⟩=some (.int .i32 0)/\W.cell? ⟨w.heap.size+1+1+1,1,none⟩=some (.int .i32 0)/\W.cell? ⟨w.heap.size+1+1+1,2,none⟩=some (.int .i64 0)/\W.cell? ⟨w.heap.size+1+1+1,3,none⟩=some (.int .i64 0)/\W.cell? ⟨w.heap.size+1+1+1,4,none⟩=some (.int .i64 0)/\W.cell? ⟨w.heap.size+1+1+1,5,none⟩=some (.int .i64 0):=by
 obtain ⟨hS,-,c0,c1,c2,fz,d0,d1,d2,d3,d4,d5⟩:=Aq1 b n x w W0 hW0;have h0:w.heap.size<W0.heap.size:=jO
 have h1:w.heap.size+1<W0.heap.size:=jO
 have h2:w.heap.size+1+1<W0.heap.size:=jO
 have h3:w.heap.size+1+1+1<W0.heap.size:=jO
 exact ⟨(hb.cell (p:=⟨w.heap.size,0,none⟩) h0).trans c0,(hb.cell (p:=⟨w.heap.size+1,0,none⟩) h1).trans c1,(hb.cell (p:=⟨w.heap.size+1+1,0,none⟩) h2).trans c2,
  λo=>(hb.frozen (p:=⟨w.heap.size+1+1+1,o,none⟩) h3).trans (fz o),(hb.cell (p:=⟨w.heap.size+1+1+1,0,none⟩) h3).trans d0,(hb.cell (p:=⟨w.heap.size+1+1+1,1,none⟩) h3).trans d1,(hb.cell (p:=⟨w.heap.size+1+1+1,2,none⟩) h3).trans d2,(hb.cell (p:=⟨w.heap.size+1+1+1,3,none⟩) h3).trans d3,(hb.cell (p:=⟨w.heap.size+1+1+1,4,none⟩) h3).trans d4,(hb.cell (p:=⟨w.heap.size+1+1+1,5,none⟩) h3).trans d5⟩
theorem A1c {rows:List Rg} {b:Nat} {w:World} (h:Ko Ld 6 rows b w) (k:Nat) (hk:k<rows.length) (y:Rg) (hy:rows[k]! = y) :
  w.cell? ⟨b,k*6,none⟩=some (.int .i32 y.lo)/\w.cell? ⟨b,k*6+1,none⟩=some (.int .i32 y.hi)/\w.cell? ⟨b,k*6+2,none⟩=some (.int .i64 y.cat)/\w.cell? ⟨b,k*6+3,none⟩=some (.int .i64 y.bidi)/\w.cell? ⟨b,k*6+4,none⟩=some (.int .i64 y.join)/\w.cell? ⟨b,k*6+5,none⟩=some (.int .i64 y.script):=by
 have:=h.2 k hk;rw [hy] at this;exact ⟨this 0 _ rfl,this 1 _ rfl,this 2 _ rfl,this 3 _ rfl,this 4 _ rfl,this 5 _ rfl⟩
theorem A52 (b n:Nat) (rows:List Rg) (x:Int) (w:World) (hn:n=rows.length) (hl:Ko Ld 6 rows b w) (hrise:rising Rg.lo Rg.hi rows=true) (hsz:n<4611686018427387904) :
  Calls prog 312 #[.slice (some ⟨b,0,none⟩) n n,.int .i32 x,.func (.func 313) #[] #[]] w (Xm rows x w):=by
 obtain ⟨W0,hW0⟩:∃ W0,W0=(((w.alloc (.cells #[.slice (some ⟨b,0,none⟩) n n] 30)).alloc (.cells #[.int .i32 x] 21)).alloc (.cells #[.func (.func 313) #[] #[]] 347)).alloc (.cells #[.int .i32 0,.int .i32 0,.int .i64 0,.int .i64 0,.int .i64 0,.int .i64 0] 66):=⟨_,rfl⟩
 obtain ⟨hS,hB0,-⟩:=Aq1 b n x w W0 hW0;have hl0:=hl.below hB0;have eg:∀ args w,(callFunc 328 args).run prog w=.ok (.enter 328 args) w:=enters_of func328 jK rfl;have hSch:=M6 328 #[.pointer (some ⟨w.heap.size+1+1,0,none⟩),.pointer (some ⟨w.heap.size,0,none⟩),.pointer (some ⟨w.heap.size+1,0,none⟩)] n (λi=>decide (x<=rows[i]!.hi)) W0 W0 (jan _ _) eg hsz
  (λW i hb hi=>by
   obtain ⟨e0,e1,e2,e3,e4,e5⟩:=A1c (hl0.below hb) i jO rows[i]! rfl;obtain ⟨a0,a1,a2,-⟩:=Tx b n x w W0 W hW0 hb;refine (As0 (w.heap.size+1+1) w.heap.size (w.heap.size+1) b n rows[i]! x i W hi a2 a0 a1 (by have:=hb.size;omega) e0 e1 e2 e3 e4 e5).mono λe w' h=>⟨h.1,hb.trans (h.2.mono hb.size)⟩)
  (λa c hac hc h=>by have:=Ik hrise a c hac jO;simp only [decide_eq_true_eq] at h ⊢;omega)
 have HN:=jH hn;have HS:=jH hS;have HW:=jH hW0;have HB0:=jH hB0;have HL:=jH hl0;clear hn hS hB0 hl0 hl eg hrise;go_enter func312,ntmps312;go_wp2_with fail;rw [<- hW0];refine hSch.mono ?_;rintro e w1 ⟨k,hk,k1,k2,rfl,hb1⟩;have HK:=jH (Td (lo:=Rg.lo) (hi:=Rg.hi) x rows k (by have:=HN.out;omega) k1 (by rw [<- HN.out];exact k2));clear hSch k1 k2 hW0;obtain ⟨a0,a1,a2,fz,d0,d1,d2,d3,d4,d5⟩:=Tx b n x w W0 w1 HW.out hb1;by_cases hlt:k<n
 ·have hkz:(k:Int)<(n:Int):=jO
  obtain ⟨e0,e1,e2,e3,e4,e5⟩:=A1c (HL.out.below hb1) k (by have:=HN.out;omega) rows[k]! rfl;generalize hy:rows[k]! = y at e0 e1 e2 e3 e4 e5;obtain ⟨v0,v1,v2,v3,v4,v5⟩:=y;have HY:=jH hy;have HB1:=jH hb1;have H:=jH (λW=>Ayy v0 v1 v2 v3 v4 v5 W);clear hy hb1 fz d0 d1 d2 d3 d4 d5;go_wp2_with fail;go_region_with ((go_at_call 313;refine (H.out _).mono ?_;rintro e w2 ⟨rfl,hb2⟩;have hb3:=HB1.out.trans ((Ag hb2).mono HB1.out.size);obtain ⟨b0,b1,b2,fz,d0,d1,d2,d3,d4,d5⟩:=Tx b n x w W0 w2 HW.out hb3;obtain ⟨f0,f1,f2,f3,f4,f5⟩:=A1c (HL.out.below hb3) k (by have:=HN.out;omega) _ HY.out;have HB2:=jH hb3;have hz:w.heap.size+1+1+1<w2.heap.size:=(by have:=hb3.size;have:=HS.out;omega);clear hb2 hb3 e0 e1 e2 e3 e4 e5 a0 a1 a2))
  all_goals
   by_cases hlo:v0<=x
   ·go_wp2;refine bodyPost_ret (v:=.tuple #[.agg #[.int .i32 v0,.int .i32 v1,.int .i64 v2,.int .i64 v3,.int .i64 v4,.int .i64 v5],.bool true]) (by simp [results,results312,go_sem,d0,d1,d2,d3,d4,d5]) rfl ⟨?_,?_⟩
    ·rw [HK.out,if_pos (by have:=HN.out;omega),HY.out,if_pos (show (Rg.mk v0 v1 v2 v3 v4 v5).lo<=x from hlo)];rfl
    ·exact Wx (HB0.out.trans (HB2.out.mono HB0.out.size)) jO _ _ _ _ _ _
   ·go_wp2;refine bodyPost_ret (v:=.tuple #[.agg #[.int .i32 0,.int .i32 0,.int .i64 0,.int .i64 0,.int .i64 0,.int .i64 0],.bool false]) (by simp [results,results312,go_sem,d0,d1,d2,d3,d4,d5,hz]) rfl ⟨?_,?_⟩
    ·rw [HK.out,if_pos (by have:=HN.out;omega),HY.out,if_neg (show ¬ (Rg.mk v0 v1 v2 v3 v4 v5).lo<=x from Int.not_le.2 hlo)];rfl
    ·exact Ap (Wx (HB0.out.trans (HB2.out.mono HB0.out.size)) jO _ _ _ _ _ _) (jaa _) _
 ·have hkz:¬ (k:Int)<(n:Int):=jO
  have HB1:=jH hb1;have hz:w.heap.size+1+1+1<w1.heap.size:=(by have:=hb1.size;have:=HS.out;omega)
  clear hb1;go_wp2;refine bodyPost_ret (v:=.tuple #[.agg #[.int .i32 0,.int .i32 0,.int .i64 0,.int .i64 0,.int .i64 0,.int .i64 0],.bool false]) (by simp [results,results312,go_sem,d0,d1,d2,d3,d4,d5,hz]) rfl ⟨?_,?_⟩
  ·rw [HK.out,if_neg (by have:=HN.out;omega)];rfl
  ·exact Ap (Wx (HB0.out.trans (HB1.out.mono HB0.out.size)) jO _ _ _ _ _ _) (jaa _) _
end
section
open Go.RowKit
def R6 (x:Cl):List Value:=[.int .i32 x.lo,.int .i32 x.hi,.int .i64 x.cls,.int .i64 x.step]
theorem Ayw (v0 v1 v2 v3:Int) (w:World) :
  Calls prog 309 #[.agg #[.int .i32 v0,.int .i32 v1,.int .i64 v2,.int .i64 v3]] w λe w'=>e=.returned (.tuple #[.int .i32 v0,.int .i32 v1])/\Below w.heap.size w w':=by
 go_enter func309,ntmps309;go_wp2;go_quiet (fail);go_wp2;go_ret2;exact ⟨rfl,below_drewN ((jan _ _).alloc (jaa _) _) _⟩
theorem Asy (be br bx b n:Nat) (y:Cl) (x:Int) (i:Nat) (W:World) (hi:i<n)
  (he:W.cell? ⟨be,0,none⟩=some (.func (.func 309) #[] #[])) (ha:W.cell? ⟨br,0,none⟩=some (.slice (some ⟨b,0,none⟩) n n)) (hx:W.cell? ⟨bx,0,none⟩=some (.int .i32 x))
  (hbx:bx<W.heap.size) (h0:W.cell? ⟨b,i*4,none⟩=some (.int .i32 y.lo)) (h1:W.cell? ⟨b,i*4+1,none⟩=some (.int .i32 y.hi)) (h2:W.cell? ⟨b,i*4+2,none⟩=some (.int .i64 y.cls)) (h3:W.cell? ⟨b,i*4+3,none⟩=some (.int .i64 y.step)) :
  Calls prog 325 (#[.int .i64 i] ++ #[.pointer (some ⟨be,0,none⟩),.pointer (some ⟨br,0,none⟩),.pointer (some ⟨bx,0,none⟩)]) W λe w'=>e=.returned (.bool (decide (x<=y.hi)))/\Below W.heap.size W w':=by
 obtain ⟨v0,v1,v2,v3⟩:=y;have hiz:(i:Int)<(n:Int):=jO
 have H:=jH (λW=>Ayw v0 v1 v2 v3 W);go_enter func325,ntmps325;go_wp2_with fail;go_region_with ((go_at_call 309;refine (H.out _).mono ?_;rintro e w' ⟨rfl,hb⟩;have hx':w'.cell? ⟨bx,0,none⟩=some (.int .i32 x):=(hb.cell (p:=⟨bx,0,none⟩) hbx).trans hx;have HB:=jH hb;clear hb))
 all_goals go_wp2
 all_goals go_ret
 all_goals exact ⟨rfl,Ag HB.out⟩
def Xk (rows:List Cl) (x:Int) (w:World) (e:Ending) (w':World):Prop :=
 e=.returned (.tuple #[.agg (R6 ((Hn Cl.lo Cl.hi rows x).getD default)).toArray,.bool (Hn Cl.lo Cl.hi rows x).isSome])/\Below w.heap.size w w'
theorem Aqz (b n:Nat) (x:Int) (w W0:World)
  (hW0:W0=(((w.alloc (.cells #[.slice (some ⟨b,0,none⟩) n n] 31)).alloc (.cells #[.int .i32 x] 21)).alloc (.cells #[.func (.func 309) #[] #[]] 343)).alloc (.cells #[.int .i32 0,.int .i32 0,.int .i64 0,.int .i64 0] 68)) :
  W0.heap.size=w.heap.size+1+1+1+1/\Below w.heap.size w W0/\W0.cell? ⟨w.heap.size,0,none⟩=some (.slice (some ⟨b,0,none⟩) n n)/\W0.cell? ⟨w.heap.size+1,0,none⟩=some (.int .i32 x)/\W0.cell? ⟨w.heap.size+1+1,0,none⟩=some (.func (.func 309) #[] #[]) /\
  (∀ o,W0.frozen? ⟨w.heap.size+1+1+1,o,none⟩=false)/\W0.cell? ⟨w.heap.size+1+1+1,0,none⟩=some (.int .i32 0)/\W0.cell? ⟨w.heap.size+1+1+1,1,none⟩=some (.int .i32 0)/\W0.cell? ⟨w.heap.size+1+1+1,2,none⟩=some (.int .i64 0)/\W0.cell? ⟨w.heap.size+1+1+1,3,none⟩=some (.int .i64 0):=by
 subst hW0;refine ⟨by simp,((((jan _ w).alloc (jaa _) _).alloc jS _).alloc (by simp;omega) _).alloc (by simp;omega) _,?_,?_,?_,?_,?_,?_,?_,?_⟩<;>first | (go_simp;done) | (intro o;go_simp;done)
theorem Ae9 {B S:Nat} {a w:World} (h:Below B a w) (hS:B<=S) (u0 u1 u2 u3:Value) :
  Below B a ((((w.setCell ⟨S,0,none⟩ u0).setCell ⟨S,1,none⟩ u1).setCell ⟨S,2,none⟩ u2).setCell ⟨S,3,none⟩ u3) :=
 ((((h.setCell (p:=⟨S,0,none⟩) hS u0).setCell (p:=⟨S,1,none⟩) hS u1).setCell (p:=⟨S,2,none⟩) hS u2).setCell (p:=⟨S,3,none⟩) hS u3)
theorem Tv (b n:Nat) (x:Int) (w W0 W:World)
  (hW0:W0=(((w.alloc (.cells #[.slice (some ⟨b,0,none⟩) n n] 31)).alloc (.cells #[.int .i32 x] 21)).alloc (.cells #[.func (.func 309) #[] #[]] 343)).alloc (.cells #[.int .i32 0,.int .i32 0,.int .i64 0,.int .i64 0] 68))
  (hb:Below W0.heap.size W0 W) :
  W.cell? ⟨w.heap.size,0,none⟩=some (.slice (some ⟨b,0,none⟩) n n)/\W.cell? ⟨w.heap.size+1,0,none⟩=some (.int .i32 x)/\W.cell? ⟨w.heap.size+1+1,0,none⟩=some (.func (.func 309) #[] #[]) /\
  (∀ o,W.frozen? ⟨w.heap.size+1+1+1,o,none⟩=false)/\W.cell? ⟨w.heap.size+1+1+1,0,none⟩=some (.int .i32 0)/\W.cell? ⟨w.heap.size+1+1+1,1,none⟩=some (.int .i32 0)/\W.cell? ⟨w.heap.size+1+1+1,2,none⟩=some (.int .i64 0)/\W.cell? ⟨w.heap.size+1+1+1,3,none⟩=some (.int .i64 0):=by
 obtain ⟨hS,-,c0,c1,c2,fz,d0,d1,d2,d3⟩:=Aqz b n x w W0 hW0;have h0:w.heap.size<W0.heap.size:=jO
 have h1:w.heap.size+1<W0.heap.size:=jO
 have h2:w.heap.size+1+1<W0.heap.size:=jO
 have h3:w.heap.size+1+1+1<W0.heap.size:=jO
 exact ⟨(hb.cell (p:=⟨w.heap.size,0,none⟩) h0).trans c0,(hb.cell (p:=⟨w.heap.size+1,0,none⟩) h1).trans c1,(hb.cell (p:=⟨w.heap.size+1+1,0,none⟩) h2).trans c2,
  λo=>(hb.frozen (p:=⟨w.heap.size+1+1+1,o,none⟩) h3).trans (fz o),(hb.cell (p:=⟨w.heap.size+1+1+1,0,none⟩) h3).trans d0,(hb.cell (p:=⟨w.heap.size+1+1+1,1,none⟩) h3).trans d1,(hb.cell (p:=⟨w.heap.size+1+1+1,2,none⟩) h3).trans d2,(hb.cell (p:=⟨w.heap.size+1+1+1,3,none⟩) h3).trans d3⟩
theorem A1a {rows:List Cl} {b:Nat} {w:World} (h:Ko R6 4 rows b w) (k:Nat) (hk:k<rows.length) (y:Cl) (hy:rows[k]! = y) :
  w.cell? ⟨b,k*4,none⟩=some (.int .i32 y.lo)/\w.cell? ⟨b,k*4+1,none⟩=some (.int .i32 y.hi)/\w.cell? ⟨b,k*4+2,none⟩=some (.int .i64 y.cls)/\w.cell? ⟨b,k*4+3,none⟩=some (.int .i64 y.step):=by
 have:=h.2 k hk;rw [hy] at this;exact ⟨this 0 _ rfl,this 1 _ rfl,this 2 _ rfl,this 3 _ rfl⟩
theorem A50 (b n:Nat) (rows:List Cl) (x:Int) (w:World) (hn:n=rows.length) (hl:Ko R6 4 rows b w) (hrise:rising Cl.lo Cl.hi rows=true) (hsz:n<4611686018427387904) :
  Calls prog 308 #[.slice (some ⟨b,0,none⟩) n n,.int .i32 x,.func (.func 309) #[] #[]] w (Xk rows x w):=by
 obtain ⟨W0,hW0⟩:∃ W0,W0=(((w.alloc (.cells #[.slice (some ⟨b,0,none⟩) n n] 31)).alloc (.cells #[.int .i32 x] 21)).alloc (.cells #[.func (.func 309) #[] #[]] 343)).alloc (.cells #[.int .i32 0,.int .i32 0,.int .i64 0,.int .i64 0] 68):=⟨_,rfl⟩
 obtain ⟨hS,hB0,-⟩:=Aqz b n x w W0 hW0;have hl0:=hl.below hB0;have eg:∀ args w,(callFunc 325 args).run prog w=.ok (.enter 325 args) w:=enters_of func325 jK rfl;have hSch:=M6 325 #[.pointer (some ⟨w.heap.size+1+1,0,none⟩),.pointer (some ⟨w.heap.size,0,none⟩),.pointer (some ⟨w.heap.size+1,0,none⟩)] n (λi=>decide (x<=rows[i]!.hi)) W0 W0 (jan _ _) eg hsz
  (λW i hb hi=>by
   obtain ⟨e0,e1,e2,e3⟩:=A1a (hl0.below hb) i jO rows[i]! rfl;obtain ⟨a0,a1,a2,-⟩:=Tv b n x w W0 W hW0 hb;refine (Asy (w.heap.size+1+1) w.heap.size (w.heap.size+1) b n rows[i]! x i W hi a2 a0 a1 (by have:=hb.size;omega) e0 e1 e2 e3).mono λe w' h=>⟨h.1,hb.trans (h.2.mono hb.size)⟩)
  (λa c hac hc h=>by have:=Ik hrise a c hac jO;simp only [decide_eq_true_eq] at h ⊢;omega)
 have HN:=jH hn;have HS:=jH hS;have HW:=jH hW0;have HB0:=jH hB0;have HL:=jH hl0;clear hn hS hB0 hl0 hl eg hrise;go_enter func308,ntmps308;go_wp2_with fail;rw [<- hW0];refine hSch.mono ?_;rintro e w1 ⟨k,hk,k1,k2,rfl,hb1⟩;have HK:=jH (Td (lo:=Cl.lo) (hi:=Cl.hi) x rows k (by have:=HN.out;omega) k1 (by rw [<- HN.out];exact k2));clear hSch k1 k2 hW0;obtain ⟨a0,a1,a2,fz,d0,d1,d2,d3⟩:=Tv b n x w W0 w1 HW.out hb1;by_cases hlt:k<n
 ·have hkz:(k:Int)<(n:Int):=jO
  obtain ⟨e0,e1,e2,e3⟩:=A1a (HL.out.below hb1) k (by have:=HN.out;omega) rows[k]! rfl;generalize hy:rows[k]! = y at e0 e1 e2 e3;obtain ⟨v0,v1,v2,v3⟩:=y;have HY:=jH hy;have HB1:=jH hb1;have H:=jH (λW=>Ayw v0 v1 v2 v3 W);clear hy hb1 fz d0 d1 d2 d3;go_wp2_with fail;go_region_with ((go_at_call 309;refine (H.out _).mono ?_;rintro e w2 ⟨rfl,hb2⟩;have hb3:=HB1.out.trans ((Ag hb2).mono HB1.out.size);obtain ⟨b0,b1,b2,fz,d0,d1,d2,d3⟩:=Tv b n x w W0 w2 HW.out hb3;obtain ⟨f0,f1,f2,f3⟩:=A1a (HL.out.below hb3) k (by have:=HN.out;omega) _ HY.out;have HB2:=jH hb3;have hz:w.heap.size+1+1+1<w2.heap.size:=(by have:=hb3.size;have:=HS.out;omega);clear hb2 hb3 e0 e1 e2 e3 a0 a1 a2))
  all_goals
   by_cases hlo:v0<=x
   ·go_wp2;refine bodyPost_ret (v:=.tuple #[.agg #[.int .i32 v0,.int .i32 v1,.int .i64 v2,.int .i64 v3],.bool true]) (by simp [results,results308,go_sem,d0,d1,d2,d3]) rfl ⟨?_,?_⟩
    ·rw [HK.out,if_pos (by have:=HN.out;omega),HY.out,if_pos (show (Cl.mk v0 v1 v2 v3).lo<=x from hlo)];rfl
    ·exact Ae9 (HB0.out.trans (HB2.out.mono HB0.out.size)) jO _ _ _ _
   ·go_wp2;refine bodyPost_ret (v:=.tuple #[.agg #[.int .i32 0,.int .i32 0,.int .i64 0,.int .i64 0],.bool false]) (by simp [results,results308,go_sem,d0,d1,d2,d3,hz]) rfl ⟨?_,?_⟩
    ·rw [HK.out,if_pos (by have:=HN.out;omega),HY.out,if_neg (show ¬ (Cl.mk v0 v1 v2 v3).lo<=x from Int.not_le.2 hlo)];rfl
    ·exact Ap (Ae9 (HB0.out.trans (HB2.out.mono HB0.out.size)) jO _ _ _ _) (jaa _) _
 ·have hkz:¬ (k:Int)<(n:Int):=jO
  have HB1:=jH hb1;have hz:w.heap.size+1+1+1<w1.heap.size:=(by have:=hb1.size;have:=HS.out;omega)
  clear hb1;go_wp2;refine bodyPost_ret (v:=.tuple #[.agg #[.int .i32 0,.int .i32 0,.int .i64 0,.int .i64 0],.bool false]) (by simp [results,results308,go_sem,d0,d1,d2,d3,hz]) rfl ⟨?_,?_⟩
  ·rw [HK.out,if_neg (by have:=HN.out;omega)];rfl
  ·exact Ap (Ae9 (HB0.out.trans (HB1.out.mono HB0.out.size)) jO _ _ _ _) (jaa _) _
end
section
open Go.RowKit
def R7 (x:Lw):List Value:=[.int .i32 x.lo,.int .i32 x.hi,.int .i32 x.far]
theorem Ayx (v0 v1 v2:Int) (w:World) :
  Calls prog 245 #[.agg #[.int .i32 v0,.int .i32 v1,.int .i32 v2]] w λe w'=>e=.returned (.tuple #[.int .i32 v0,.int .i32 v1])/\Below w.heap.size w w':=by
 go_enter func245,ntmps245;go_wp2;go_quiet (fail);go_wp2;go_ret2;exact ⟨rfl,below_drewN ((jan _ _).alloc (jaa _) _) _⟩
theorem Asz (be br bx b n:Nat) (y:Lw) (x:Int) (i:Nat) (W:World) (hi:i<n)
  (he:W.cell? ⟨be,0,none⟩=some (.func (.func 245) #[] #[])) (ha:W.cell? ⟨br,0,none⟩=some (.slice (some ⟨b,0,none⟩) n n)) (hx:W.cell? ⟨bx,0,none⟩=some (.int .i32 x))
  (hbx:bx<W.heap.size) (h0:W.cell? ⟨b,i*3,none⟩=some (.int .i32 y.lo)) (h1:W.cell? ⟨b,i*3+1,none⟩=some (.int .i32 y.hi)) (h2:W.cell? ⟨b,i*3+2,none⟩=some (.int .i32 y.far)) :
  Calls prog 273 (#[.int .i64 i] ++ #[.pointer (some ⟨be,0,none⟩),.pointer (some ⟨br,0,none⟩),.pointer (some ⟨bx,0,none⟩)]) W λe w'=>e=.returned (.bool (decide (x<=y.hi)))/\Below W.heap.size W w':=by
 obtain ⟨v0,v1,v2⟩:=y;have hiz:(i:Int)<(n:Int):=jO
 have H:=jH (λW=>Ayx v0 v1 v2 W);go_enter func273,ntmps273;go_wp2_with fail;go_region_with ((go_at_call 245;refine (H.out _).mono ?_;rintro e w' ⟨rfl,hb⟩;have hx':w'.cell? ⟨bx,0,none⟩=some (.int .i32 x):=(hb.cell (p:=⟨bx,0,none⟩) hbx).trans hx;have HB:=jH hb;clear hb))
 all_goals go_wp2
 all_goals go_ret
 all_goals exact ⟨rfl,Ag HB.out⟩
def Xl (rows:List Lw) (x:Int) (w:World) (e:Ending) (w':World):Prop :=
 e=.returned (.tuple #[.agg (R7 ((Hn Lw.lo Lw.hi rows x).getD default)).toArray,.bool (Hn Lw.lo Lw.hi rows x).isSome])/\Below w.heap.size w w'
theorem Aq0 (b n:Nat) (x:Int) (w W0:World)
  (hW0:W0=(((w.alloc (.cells #[.slice (some ⟨b,0,none⟩) n n] 32)).alloc (.cells #[.int .i32 x] 21)).alloc (.cells #[.func (.func 245) #[] #[]] 297)).alloc (.cells #[.int .i32 0,.int .i32 0,.int .i32 0] 70)) :
  W0.heap.size=w.heap.size+1+1+1+1/\Below w.heap.size w W0/\W0.cell? ⟨w.heap.size,0,none⟩=some (.slice (some ⟨b,0,none⟩) n n)/\W0.cell? ⟨w.heap.size+1,0,none⟩=some (.int .i32 x)/\W0.cell? ⟨w.heap.size+1+1,0,none⟩=some (.func (.func 245) #[] #[]) /\
  (∀ o,W0.frozen? ⟨w.heap.size+1+1+1,o,none⟩=false)/\W0.cell? ⟨w.heap.size+1+1+1,0,none⟩=some (.int .i32 0)/\W0.cell? ⟨w.heap.size+1+1+1,1,none⟩=some (.int .i32 0)/\W0.cell? ⟨w.heap.size+1+1+1,2,none⟩=some (.int .i32 0):=by
 subst hW0;refine ⟨by simp,((((jan _ w).alloc (jaa _) _).alloc jS _).alloc (by simp;omega) _).alloc (by simp;omega) _,?_,?_,?_,?_,?_,?_,?_⟩<;>first | (go_simp;done) | (intro o;go_simp;done)
theorem Afa {B S:Nat} {a w:World} (h:Below B a w) (hS:B<=S) (u0 u1 u2:Value) :
  Below B a (((w.setCell ⟨S,0,none⟩ u0).setCell ⟨S,1,none⟩ u1).setCell ⟨S,2,none⟩ u2) :=
 (((h.setCell (p:=⟨S,0,none⟩) hS u0).setCell (p:=⟨S,1,none⟩) hS u1).setCell (p:=⟨S,2,none⟩) hS u2)
theorem Tw (b n:Nat) (x:Int) (w W0 W:World)
  (hW0:W0=(((w.alloc (.cells #[.slice (some ⟨b,0,none⟩) n n] 32)).alloc (.cells #[.int .i32 x] 21)).alloc (.cells #[.func (.func 245) #[] #[]] 297)).alloc (.cells #[.int .i32 0,.int .i32 0,.int .i32 0] 70))
  (hb:Below W0.heap.size W0 W) :
  W.cell? ⟨w.heap.size,0,none⟩=some (.slice (some ⟨b,0,none⟩) n n)/\W.cell? ⟨w.heap.size+1,0,none⟩=some (.int .i32 x)/\W.cell? ⟨w.heap.size+1+1,0,none⟩=some (.func (.func 245) #[] #[]) /\
  (∀ o,W.frozen? ⟨w.heap.size+1+1+1,o,none⟩=false)/\W.cell? ⟨w.heap.size+1+1+1,0,none⟩=some (.int .i32 0)/\W.cell? ⟨w.heap.size+1+1+1,1,none⟩=some (.int .i32 0)/\W.cell? ⟨w.heap.size+1+1+1,2,none⟩=some (.int .i32 0):=by
 obtain ⟨hS,-,c0,c1,c2,fz,d0,d1,d2⟩:=Aq0 b n x w W0 hW0;have h0:w.heap.size<W0.heap.size:=jO
 have h1:w.heap.size+1<W0.heap.size:=jO
 have h2:w.heap.size+1+1<W0.heap.size:=jO
 have h3:w.heap.size+1+1+1<W0.heap.size:=jO
 exact ⟨(hb.cell (p:=⟨w.heap.size,0,none⟩) h0).trans c0,(hb.cell (p:=⟨w.heap.size+1,0,none⟩) h1).trans c1,(hb.cell (p:=⟨w.heap.size+1+1,0,none⟩) h2).trans c2,
  λo=>(hb.frozen (p:=⟨w.heap.size+1+1+1,o,none⟩) h3).trans (fz o),(hb.cell (p:=⟨w.heap.size+1+1+1,0,none⟩) h3).trans d0,(hb.cell (p:=⟨w.heap.size+1+1+1,1,none⟩) h3).trans d1,(hb.cell (p:=⟨w.heap.size+1+1+1,2,none⟩) h3).trans d2⟩
theorem A1b {rows:List Lw} {b:Nat} {w:World} (h:Ko R7 3 rows b w) (k:Nat) (hk:k<rows.length) (y:Lw) (hy:rows[k]! = y) :
  w.cell? ⟨b,k*3,none⟩=some (.int .i32 y.lo)/\w.cell? ⟨b,k*3+1,none⟩=some (.int .i32 y.hi)/\w.cell? ⟨b,k*3+2,none⟩=some (.int .i32 y.far):=by
 have:=h.2 k hk;rw [hy] at this;exact ⟨this 0 _ rfl,this 1 _ rfl,this 2 _ rfl⟩
theorem A51 (b n:Nat) (rows:List Lw) (x:Int) (w:World) (hn:n=rows.length) (hl:Ko R7 3 rows b w) (hrise:rising Lw.lo Lw.hi rows=true) (hsz:n<4611686018427387904) :
  Calls prog 244 #[.slice (some ⟨b,0,none⟩) n n,.int .i32 x,.func (.func 245) #[] #[]] w (Xl rows x w):=by
 obtain ⟨W0,hW0⟩:∃ W0,W0=(((w.alloc (.cells #[.slice (some ⟨b,0,none⟩) n n] 32)).alloc (.cells #[.int .i32 x] 21)).alloc (.cells #[.func (.func 245) #[] #[]] 297)).alloc (.cells #[.int .i32 0,.int .i32 0,.int .i32 0] 70):=⟨_,rfl⟩
 obtain ⟨hS,hB0,-⟩:=Aq0 b n x w W0 hW0;have hl0:=hl.below hB0;have eg:∀ args w,(callFunc 273 args).run prog w=.ok (.enter 273 args) w:=enters_of func273 jK rfl;have hSch:=M6 273 #[.pointer (some ⟨w.heap.size+1+1,0,none⟩),.pointer (some ⟨w.heap.size,0,none⟩),.pointer (some ⟨w.heap.size+1,0,none⟩)] n (λi=>decide (x<=rows[i]!.hi)) W0 W0 (jan _ _) eg hsz
  (λW i hb hi=>by
   obtain ⟨e0,e1,e2⟩:=A1b (hl0.below hb) i jO rows[i]! rfl;obtain ⟨a0,a1,a2,-⟩:=Tw b n x w W0 W hW0 hb;refine (Asz (w.heap.size+1+1) w.heap.size (w.heap.size+1) b n rows[i]! x i W hi a2 a0 a1 (by have:=hb.size;omega) e0 e1 e2).mono λe w' h=>⟨h.1,hb.trans (h.2.mono hb.size)⟩)
  (λa c hac hc h=>by have:=Ik hrise a c hac jO;simp only [decide_eq_true_eq] at h ⊢;omega)
 have HN:=jH hn;have HS:=jH hS;have HW:=jH hW0;have HB0:=jH hB0;have HL:=jH hl0;clear hn hS hB0 hl0 hl eg hrise;go_enter func244,ntmps244;go_wp2_with fail;rw [<- hW0];refine hSch.mono ?_;rintro e w1 ⟨k,hk,k1,k2,rfl,hb1⟩;have HK:=jH (Td (lo:=Lw.lo) (hi:=Lw.hi) x rows k (by have:=HN.out;omega) k1 (by rw [<- HN.out];exact k2));clear hSch k1 k2 hW0;obtain ⟨a0,a1,a2,fz,d0,d1,d2⟩:=Tw b n x w W0 w1 HW.out hb1;by_cases hlt:k<n
 ·have hkz:(k:Int)<(n:Int):=jO
  obtain ⟨e0,e1,e2⟩:=A1b (HL.out.below hb1) k (by have:=HN.out;omega) rows[k]! rfl;generalize hy:rows[k]! = y at e0 e1 e2;obtain ⟨v0,v1,v2⟩:=y;have HY:=jH hy;have HB1:=jH hb1;have H:=jH (λW=>Ayx v0 v1 v2 W);clear hy hb1 fz d0 d1 d2;go_wp2_with fail;go_region_with ((go_at_call 245;refine (H.out _).mono ?_;rintro e w2 ⟨rfl,hb2⟩;have hb3:=HB1.out.trans ((Ag hb2).mono HB1.out.size);obtain ⟨b0,b1,b2,fz,d0,d1,d2⟩:=Tw b n x w W0 w2 HW.out hb3;obtain ⟨f0,f1,f2⟩:=A1b (HL.out.below hb3) k (by have:=HN.out;omega) _ HY.out;have HB2:=jH hb3;have hz:w.heap.size+1+1+1<w2.heap.size:=(by have:=hb3.size;have:=HS.out;omega);clear hb2 hb3 e0 e1 e2 a0 a1 a2))
  all_goals
   by_cases hlo:v0<=x
   ·go_wp2;refine bodyPost_ret (v:=.tuple #[.agg #[.int .i32 v0,.int .i32 v1,.int .i32 v2],.bool true]) (by simp [results,results244,go_sem,d0,d1,d2]) rfl ⟨?_,?_⟩
    ·rw [HK.out,if_pos (by have:=HN.out;omega),HY.out,if_pos (show (Lw.mk v0 v1 v2).lo<=x from hlo)];rfl
    ·exact Afa (HB0.out.trans (HB2.out.mono HB0.out.size)) jO _ _ _
   ·go_wp2;refine bodyPost_ret (v:=.tuple #[.agg #[.int .i32 0,.int .i32 0,.int .i32 0],.bool false]) (by simp [results,results244,go_sem,d0,d1,d2,hz]) rfl ⟨?_,?_⟩
    ·rw [HK.out,if_pos (by have:=HN.out;omega),HY.out,if_neg (show ¬ (Lw.mk v0 v1 v2).lo<=x from Int.not_le.2 hlo)];rfl
    ·exact Ap (Afa (HB0.out.trans (HB2.out.mono HB0.out.size)) jO _ _ _) (jaa _) _
 ·have hkz:¬ (k:Int)<(n:Int):=jO
  have HB1:=jH hb1;have hz:w.heap.size+1+1+1<w1.heap.size:=(by have:=hb1.size;have:=HS.out;omega)
  clear hb1;go_wp2;refine bodyPost_ret (v:=.tuple #[.agg #[.int .i32 0,.int .i32 0,.int .i32 0],.bool false]) (by simp [results,results244,go_sem,d0,d1,d2,hz]) rfl ⟨?_,?_⟩
  ·rw [HK.out,if_neg (by have:=HN.out;omega)];rfl
  ·exact Ap (Afa (HB0.out.trans (HB1.out.mono HB0.out.size)) jO _ _ _) (jaa _) _
end
section
open Go.RowKit
def Gi (x:Sp):List Value:=[.int .i32 x.rune,.int .i32 x.one,.int .i32 x.two,.bool x.soft,.bool x.out]
theorem Ayz (v0 v1 v2:Int) (v3 v4:Bool) (w:World) :
  Calls prog 275 #[.agg #[.int .i32 v0,.int .i32 v1,.int .i32 v2,.bool v3,.bool v4]] w λe w'=>e=.returned (.tuple #[.int .i32 v0,.int .i32 v0])/\Below w.heap.size w w':=by
 go_enter func275,ntmps275;go_wp2;go_quiet (fail);go_wp2;go_ret2;exact ⟨rfl,below_drewN ((jan _ _).alloc (jaa _) _) _⟩
theorem As1 (be br bx b n:Nat) (y:Sp) (x:Int) (i:Nat) (W:World) (hi:i<n)
  (he:W.cell? ⟨be,0,none⟩=some (.func (.func 275) #[] #[])) (ha:W.cell? ⟨br,0,none⟩=some (.slice (some ⟨b,0,none⟩) n n)) (hx:W.cell? ⟨bx,0,none⟩=some (.int .i32 x))
  (hbx:bx<W.heap.size) (h0:W.cell? ⟨b,i*5,none⟩=some (.int .i32 y.rune)) (h1:W.cell? ⟨b,i*5+1,none⟩=some (.int .i32 y.one)) (h2:W.cell? ⟨b,i*5+2,none⟩=some (.int .i32 y.two)) (h3:W.cell? ⟨b,i*5+3,none⟩=some (.bool y.soft)) (h4:W.cell? ⟨b,i*5+4,none⟩=some (.bool y.out)) :
  Calls prog 302 (#[.int .i64 i] ++ #[.pointer (some ⟨be,0,none⟩),.pointer (some ⟨br,0,none⟩),.pointer (some ⟨bx,0,none⟩)]) W λe w'=>e=.returned (.bool (decide (x<=y.rune)))/\Below W.heap.size W w':=by
 obtain ⟨v0,v1,v2,v3,v4⟩:=y;have hiz:(i:Int)<(n:Int):=jO
 have H:=jH (λW=>Ayz v0 v1 v2 v3 v4 W);go_enter func302,ntmps302;go_wp2_with fail;go_region_with ((go_at_call 275;refine (H.out _).mono ?_;rintro e w' ⟨rfl,hb⟩;have hx':w'.cell? ⟨bx,0,none⟩=some (.int .i32 x):=(hb.cell (p:=⟨bx,0,none⟩) hbx).trans hx;have HB:=jH hb;clear hb))
 all_goals go_wp2
 all_goals go_ret
 all_goals exact ⟨rfl,Ag HB.out⟩
def Xn (rows:List Sp) (x:Int) (w:World) (e:Ending) (w':World):Prop :=
 e=.returned (.tuple #[.agg (Gi ((Hn Sp.rune Sp.rune rows x).getD default)).toArray,.bool (Hn Sp.rune Sp.rune rows x).isSome])/\Below w.heap.size w w'
theorem Aq2 (b n:Nat) (x:Int) (w W0:World)
  (hW0:W0=(((w.alloc (.cells #[.slice (some ⟨b,0,none⟩) n n] 33)).alloc (.cells #[.int .i32 x] 21)).alloc (.cells #[.func (.func 275) #[] #[]] 316)).alloc (.cells #[.int .i32 0,.int .i32 0,.int .i32 0,.bool false,.bool false] 72)) :
  W0.heap.size=w.heap.size+1+1+1+1/\Below w.heap.size w W0/\W0.cell? ⟨w.heap.size,0,none⟩=some (.slice (some ⟨b,0,none⟩) n n)/\W0.cell? ⟨w.heap.size+1,0,none⟩=some (.int .i32 x)/\W0.cell? ⟨w.heap.size+1+1,0,none⟩=some (.func (.func 275) #[] #[]) /\
  (∀ o,W0.frozen? ⟨w.heap.size+1+1+1,o,none⟩=false)/\W0.cell? ⟨w.heap.size+1+1+1,0,none⟩=some (.int .i32 0)/\W0.cell? ⟨w.heap.size+1+1+1,1,none⟩=some (.int .i32 0)/\W0.cell? ⟨w.heap.size+1+1+1,2,none⟩=some (.int .i32 0)/\W0.cell? ⟨w.heap.size+1+1+1,3,none⟩=some (.bool false)/\W0.cell? ⟨w.heap.size+1+1+1,4,none⟩=some (.bool false):=by
 subst hW0;refine ⟨by simp,((((jan _ w).alloc (jaa _) _).alloc jS _).alloc (by simp;omega) _).alloc (by simp;omega) _,?_,?_,?_,?_,?_,?_,?_,?_,?_⟩<;>first | (go_simp;done) | (intro o;go_simp;done)
theorem Ls {B S:Nat} {a w:World} (h:Below B a w) (hS:B<=S) (u0 u1 u2 u3 u4:Value) :
  Below B a (((((w.setCell ⟨S,0,none⟩ u0).setCell ⟨S,1,none⟩ u1).setCell ⟨S,2,none⟩ u2).setCell ⟨S,3,none⟩ u3).setCell ⟨S,4,none⟩ u4) :=
 (((((h.setCell (p:=⟨S,0,none⟩) hS u0).setCell (p:=⟨S,1,none⟩) hS u1).setCell (p:=⟨S,2,none⟩) hS u2).setCell (p:=⟨S,3,none⟩) hS u3).setCell (p:=⟨S,4,none⟩) hS u4)
theorem Ty (b n:Nat) (x:Int) (w W0 W:World)
  (hW0:W0=(((w.alloc (.cells #[.slice (some ⟨b,0,none⟩) n n] 33)).alloc (.cells #[.int .i32 x] 21)).alloc (.cells #[.func (.func 275) #[] #[]] 316)).alloc (.cells #[.int .i32 0,.int .i32 0,.int .i32 0,.bool false,.bool false] 72))
  (hb:Below W0.heap.size W0 W) :
  W.cell? ⟨w.heap.size,0,none⟩=some (.slice (some ⟨b,0,none⟩) n n)/\W.cell? ⟨w.heap.size+1,0,none⟩=some (.int .i32 x)/\W.cell? ⟨w.heap.size+1+1,0,none⟩=some (.func (.func 275) #[] #[]) /\
  (∀ o,W.frozen? ⟨w.heap.size+1+1+1,o,none⟩=false)/\W.cell? ⟨w.heap.size+1+1+1,0,none⟩=some (.int .i32 0)/\W.cell? ⟨w.heap.size+1+1+1,1,none⟩=some (.int .i32 0)/\W.cell? ⟨w.heap.size+1+1+1,2,none⟩=some (.int .i32 0)/\W.cell? ⟨w.heap.size+1+1+1,3,none⟩=some (.bool false)/\W.cell? ⟨w.heap.size+1+1+1,4,none⟩=some (.bool false):=by
 obtain ⟨hS,-,c0,c1,c2,fz,d0,d1,d2,d3,d4⟩:=Aq2 b n x w W0 hW0;have h0:w.heap.size<W0.heap.size:=jO
 have h1:w.heap.size+1<W0.heap.size:=jO
 have h2:w.heap.size+1+1<W0.heap.size:=jO
 have h3:w.heap.size+1+1+1<W0.heap.size:=jO
 exact ⟨(hb.cell (p:=⟨w.heap.size,0,none⟩) h0).trans c0,(hb.cell (p:=⟨w.heap.size+1,0,none⟩) h1).trans c1,(hb.cell (p:=⟨w.heap.size+1+1,0,none⟩) h2).trans c2,
  λo=>(hb.frozen (p:=⟨w.heap.size+1+1+1,o,none⟩) h3).trans (fz o),(hb.cell (p:=⟨w.heap.size+1+1+1,0,none⟩) h3).trans d0,(hb.cell (p:=⟨w.heap.size+1+1+1,1,none⟩) h3).trans d1,(hb.cell (p:=⟨w.heap.size+1+1+1,2,none⟩) h3).trans d2,(hb.cell (p:=⟨w.heap.size+1+1+1,3,none⟩) h3).trans d3,(hb.cell (p:=⟨w.heap.size+1+1+1,4,none⟩) h3).trans d4⟩
theorem Ald {rows:List Sp} {b:Nat} {w:World} (h:Ko Gi 5 rows b w) (k:Nat) (hk:k<rows.length) (y:Sp) (hy:rows[k]! = y) :
  w.cell? ⟨b,k*5,none⟩=some (.int .i32 y.rune)/\w.cell? ⟨b,k*5+1,none⟩=some (.int .i32 y.one)/\w.cell? ⟨b,k*5+2,none⟩=some (.int .i32 y.two)/\w.cell? ⟨b,k*5+3,none⟩=some (.bool y.soft)/\w.cell? ⟨b,k*5+4,none⟩=some (.bool y.out):=by
 have:=h.2 k hk;rw [hy] at this;exact ⟨this 0 _ rfl,this 1 _ rfl,this 2 _ rfl,this 3 _ rfl,this 4 _ rfl⟩
theorem A53 (b n:Nat) (rows:List Sp) (x:Int) (w:World) (hn:n=rows.length) (hl:Ko Gi 5 rows b w) (hrise:rising Sp.rune Sp.rune rows=true) (hsz:n<4611686018427387904) :
  Calls prog 274 #[.slice (some ⟨b,0,none⟩) n n,.int .i32 x,.func (.func 275) #[] #[]] w (Xn rows x w):=by
 obtain ⟨W0,hW0⟩:∃ W0,W0=(((w.alloc (.cells #[.slice (some ⟨b,0,none⟩) n n] 33)).alloc (.cells #[.int .i32 x] 21)).alloc (.cells #[.func (.func 275) #[] #[]] 316)).alloc (.cells #[.int .i32 0,.int .i32 0,.int .i32 0,.bool false,.bool false] 72):=⟨_,rfl⟩
 obtain ⟨hS,hB0,-⟩:=Aq2 b n x w W0 hW0;have hl0:=hl.below hB0;have eg:∀ args w,(callFunc 302 args).run prog w=.ok (.enter 302 args) w:=enters_of func302 jK rfl;have hSch:=M6 302 #[.pointer (some ⟨w.heap.size+1+1,0,none⟩),.pointer (some ⟨w.heap.size,0,none⟩),.pointer (some ⟨w.heap.size+1,0,none⟩)] n (λi=>decide (x<=rows[i]!.rune)) W0 W0 (jan _ _) eg hsz
  (λW i hb hi=>by
   obtain ⟨e0,e1,e2,e3,e4⟩:=Ald (hl0.below hb) i jO rows[i]! rfl;obtain ⟨a0,a1,a2,-⟩:=Ty b n x w W0 W hW0 hb;refine (As1 (w.heap.size+1+1) w.heap.size (w.heap.size+1) b n rows[i]! x i W hi a2 a0 a1 (by have:=hb.size;omega) e0 e1 e2 e3 e4).mono λe w' h=>⟨h.1,hb.trans (h.2.mono hb.size)⟩)
  (λa c hac hc h=>by have:=Ik hrise a c hac jO;simp only [decide_eq_true_eq] at h ⊢;omega)
 have HN:=jH hn;have HS:=jH hS;have HW:=jH hW0;have HB0:=jH hB0;have HL:=jH hl0;clear hn hS hB0 hl0 hl eg hrise;go_enter func274,ntmps274;go_wp2_with fail;rw [<- hW0];refine hSch.mono ?_;rintro e w1 ⟨k,hk,k1,k2,rfl,hb1⟩;have HK:=jH (Td (lo:=Sp.rune) (hi:=Sp.rune) x rows k (by have:=HN.out;omega) k1 (by rw [<- HN.out];exact k2));clear hSch k1 k2 hW0;obtain ⟨a0,a1,a2,fz,d0,d1,d2,d3,d4⟩:=Ty b n x w W0 w1 HW.out hb1;by_cases hlt:k<n
 ·have hkz:(k:Int)<(n:Int):=jO
  obtain ⟨e0,e1,e2,e3,e4⟩:=Ald (HL.out.below hb1) k (by have:=HN.out;omega) rows[k]! rfl;generalize hy:rows[k]! = y at e0 e1 e2 e3 e4;obtain ⟨v0,v1,v2,v3,v4⟩:=y;have HY:=jH hy;have HB1:=jH hb1;have H:=jH (λW=>Ayz v0 v1 v2 v3 v4 W);clear hy hb1 fz d0 d1 d2 d3 d4;go_wp2_with fail;go_region_with ((go_at_call 275;refine (H.out _).mono ?_;rintro e w2 ⟨rfl,hb2⟩;have hb3:=HB1.out.trans ((Ag hb2).mono HB1.out.size);obtain ⟨b0,b1,b2,fz,d0,d1,d2,d3,d4⟩:=Ty b n x w W0 w2 HW.out hb3;obtain ⟨f0,f1,f2,f3,f4⟩:=Ald (HL.out.below hb3) k (by have:=HN.out;omega) _ HY.out;have HB2:=jH hb3;have hz:w.heap.size+1+1+1<w2.heap.size:=(by have:=hb3.size;have:=HS.out;omega);clear hb2 hb3 e0 e1 e2 e3 e4 a0 a1 a2))
  all_goals
   by_cases hlo:v0<=x
   ·go_wp2;refine bodyPost_ret (v:=.tuple #[.agg #[.int .i32 v0,.int .i32 v1,.int .i32 v2,.bool v3,.bool v4],.bool true]) (by simp [results,results274,go_sem,d0,d1,d2,d3,d4]) rfl ⟨?_,?_⟩
    ·rw [HK.out,if_pos (by have:=HN.out;omega),HY.out,if_pos (show (Sp.mk v0 v1 v2 v3 v4).rune<=x from hlo)];rfl
    ·exact Ls (HB0.out.trans (HB2.out.mono HB0.out.size)) jO _ _ _ _ _
   ·go_wp2;refine bodyPost_ret (v:=.tuple #[.agg #[.int .i32 0,.int .i32 0,.int .i32 0,.bool false,.bool false],.bool false]) (by simp [results,results274,go_sem,d0,d1,d2,d3,d4,hz]) rfl ⟨?_,?_⟩
    ·rw [HK.out,if_pos (by have:=HN.out;omega),HY.out,if_neg (show ¬ (Sp.mk v0 v1 v2 v3 v4).rune<=x from Int.not_le.2 hlo)];rfl
    ·exact Ap (Ls (HB0.out.trans (HB2.out.mono HB0.out.size)) jO _ _ _ _ _) (jaa _) _
 ·have hkz:¬ (k:Int)<(n:Int):=jO
  have HB1:=jH hb1;have hz:w.heap.size+1+1+1<w1.heap.size:=(by have:=hb1.size;have:=HS.out;omega)
  clear hb1;go_wp2;refine bodyPost_ret (v:=.tuple #[.agg #[.int .i32 0,.int .i32 0,.int .i32 0,.bool false,.bool false],.bool false]) (by simp [results,results274,go_sem,d0,d1,d2,d3,d4,hz]) rfl ⟨?_,?_⟩
  ·rw [HK.out,if_neg (by have:=HN.out;omega)];rfl
  ·exact Ap (Ls (HB0.out.trans (HB1.out.mono HB0.out.size)) jO _ _ _ _ _) (jaa _) _
end
