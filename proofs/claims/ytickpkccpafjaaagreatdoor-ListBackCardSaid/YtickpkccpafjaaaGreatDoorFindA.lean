import Derived.Test.YtickpkccpafjaaaGreatDoorGround
set_option maxRecDepth 100000
set_option maxHeartbeats 4000000
namespace Go.Proofs.YtickpkccpafjaaaGreatDoor
open Tryz
section
open Go.RowKit
def Kn (x:Rg):List Value:=[.int .i32 x.lo,.int .i32 x.hi,.int .i64 x.cat,.int .i64 x.bidi,.int .i64 x.join,.int .i64 x.script]
theorem Avx (v0 v1 v2 v3 v4 v5:Int) (w:World) :
  Calls prog 340 #[.agg #[.int .i32 v0,.int .i32 v1,.int .i64 v2,.int .i64 v3,.int .i64 v4,.int .i64 v5]] w λe w'=>e=.returned (.tuple #[.int .i32 v0,.int .i32 v1])/\Below w.heap.size w w':=by
 go_enter func340,ntmps340;go_wp2;go_quiet (fail);go_wp2;go_ret2;exact ⟨rfl,below_drewN ((jan _ _).alloc (jaa _) _) _⟩
theorem Aqr (be br bx b n:Nat) (y:Rg) (x:Int) (i:Nat) (W:World) (hi:i<n)
  (he:W.cell? ⟨be,0,none⟩=some (.func (.func 340) #[] #[])) (ha:W.cell? ⟨br,0,none⟩=some (.slice (some ⟨b,0,none⟩) n n)) (hx:W.cell? ⟨bx,0,none⟩=some (.int .i32 x))
  (hbx:bx<W.heap.size) (h0:W.cell? ⟨b,i*6,none⟩=some (.int .i32 y.lo)) (h1:W.cell? ⟨b,i*6+1,none⟩=some (.int .i32 y.hi)) (h2:W.cell? ⟨b,i*6+2,none⟩=some (.int .i64 y.cat)) (h3:W.cell? ⟨b,i*6+3,none⟩=some (.int .i64 y.bidi)) (h4:W.cell? ⟨b,i*6+4,none⟩=some (.int .i64 y.join)) (h5:W.cell? ⟨b,i*6+5,none⟩=some (.int .i64 y.script)) :
  Calls prog 355 (#[.int .i64 i] ++ #[.pointer (some ⟨be,0,none⟩),.pointer (some ⟨br,0,none⟩),.pointer (some ⟨bx,0,none⟩)]) W λe w'=>e=.returned (.bool (decide (x<=y.hi)))/\Below W.heap.size W w':=by
 obtain ⟨v0,v1,v2,v3,v4,v5⟩:=y;have hiz:(i:Int)<(n:Int):=jO
 have H:=jH (λW=>Avx v0 v1 v2 v3 v4 v5 W);go_enter func355,ntmps355;go_wp2_with fail;go_region_with ((go_at_call 340;refine (H.out _).mono ?_;rintro e w' ⟨rfl,hb⟩;have hx':w'.cell? ⟨bx,0,none⟩=some (.int .i32 x):=(hb.cell (p:=⟨bx,0,none⟩) hbx).trans hx;have HB:=jH hb;clear hb))
 all_goals go_wp2
 all_goals go_ret
 all_goals exact ⟨rfl,Ag HB.out⟩
def Wj (rows:List Rg) (x:Int) (w:World) (e:Ending) (w':World):Prop :=
 e=.returned (.tuple #[.agg (Kn ((Ha Rg.lo Rg.hi rows x).getD default)).toArray,.bool (Ha Rg.lo Rg.hi rows x).isSome])/\Below w.heap.size w w'
theorem Aos (b n:Nat) (x:Int) (w W0:World)
  (hW0:W0=(((w.alloc (.cells #[.slice (some ⟨b,0,none⟩) n n] 31)).alloc (.cells #[.int .i32 x] 21)).alloc (.cells #[.func (.func 340) #[] #[]] 319)).alloc (.cells #[.int .i32 0,.int .i32 0,.int .i64 0,.int .i64 0,.int .i64 0,.int .i64 0] 84)) :
  W0.heap.size=w.heap.size+1+1+1+1/\Below w.heap.size w W0/\W0.cell? ⟨w.heap.size,0,none⟩=some (.slice (some ⟨b,0,none⟩) n n)/\W0.cell? ⟨w.heap.size+1,0,none⟩=some (.int .i32 x)/\W0.cell? ⟨w.heap.size+1+1,0,none⟩=some (.func (.func 340) #[] #[]) /\
  (∀ o,W0.frozen? ⟨w.heap.size+1+1+1,o,none⟩=false)/\W0.cell? ⟨w.heap.size+1+1+1,0,none⟩=some (.int .i32 0)/\W0.cell? ⟨w.heap.size+1+1+1,1,none⟩=some (.int .i32 0)/\W0.cell? ⟨w.heap.size+1+1+1,2,none⟩=some (.int .i64 0)/\W0.cell? ⟨w.heap.size+1+1+1,3,none⟩=some (.int .i64 0)/\W0.cell? ⟨w.heap.size+1+1+1,4,none⟩=some (.int .i64 0)/\W0.cell? ⟨w.heap.size+1+1+1,5,none⟩=some (.int .i64 0):=by
 subst hW0;refine ⟨by simp,((((jan _ w).alloc (jaa _) _).alloc jS _).alloc (by simp;omega) _).alloc (by simp;omega) _,?_,?_,?_,?_,?_,?_,?_,?_,?_,?_⟩<;>first | (go_simp;done) | (intro o;go_simp;done)
theorem Vu {B S:Nat} {a w:World} (h:Below B a w) (hS:B<=S) (u0 u1 u2 u3 u4 u5:Value) :
  Below B a ((((((w.setCell ⟨S,0,none⟩ u0).setCell ⟨S,1,none⟩ u1).setCell ⟨S,2,none⟩ u2).setCell ⟨S,3,none⟩ u3).setCell ⟨S,4,none⟩ u4).setCell ⟨S,5,none⟩ u5) :=
 ((((((h.setCell (p:=⟨S,0,none⟩) hS u0).setCell (p:=⟨S,1,none⟩) hS u1).setCell (p:=⟨S,2,none⟩) hS u2).setCell (p:=⟨S,3,none⟩) hS u3).setCell (p:=⟨S,4,none⟩) hS u4).setCell (p:=⟨S,5,none⟩) hS u5)
theorem Sx (b n:Nat) (x:Int) (w W0 W:World)
  (hW0:W0=(((w.alloc (.cells #[.slice (some ⟨b,0,none⟩) n n] 31)).alloc (.cells #[.int .i32 x] 21)).alloc (.cells #[.func (.func 340) #[] #[]] 319)).alloc (.cells #[.int .i32 0,.int .i32 0,.int .i64 0,.int .i64 0,.int .i64 0,.int .i64 0] 84))
  (hb:Below W0.heap.size W0 W) :
  W.cell? ⟨w.heap.size,0,none⟩=some (.slice (some ⟨b,0,none⟩) n n)/\W.cell? ⟨w.heap.size+1,0,none⟩=some (.int .i32 x)/\W.cell? ⟨w.heap.size+1+1,0,none⟩=some (.func (.func 340) #[] #[]) /\
  (∀ o,W.frozen? ⟨w.heap.size+1+1+1,o,none⟩=false)/\W.cell? ⟨w.heap.size+1+1+1,0,none⟩=some (.int .i32 0)/\W.cell? ⟨w.heap.size+1+1+1,1,none⟩=some (.int .i32 0)/\W.cell? ⟨w.heap.size+1+1+1,2,none⟩=some (.int .i64 0)/\W.cell? ⟨w.heap.size+1+1+1,3,none⟩=some (.int .i64 0)/\W.cell? ⟨w.heap.size+1+1+1,4,none⟩=some (.int .i64 0)/\W.cell? ⟨w.heap.size+1+1+1,5,none⟩=some (.int .i64 0):=by
 obtain ⟨hS,-,c0,c1,c2,fz,d0,d1,d2,d3,d4,d5⟩:=Aos b n x w W0 hW0;have h0:w.heap.size<W0.heap.size:=jO
 have h1:w.heap.size+1<W0.heap.size:=jO
 have h2:w.heap.size+1+1<W0.heap.size:=jO
 have h3:w.heap.size+1+1+1<W0.heap.size:=jO
 exact ⟨(hb.cell (p:=⟨w.heap.size,0,none⟩) h0).trans c0,(hb.cell (p:=⟨w.heap.size+1,0,none⟩) h1).trans c1,(hb.cell (p:=⟨w.heap.size+1+1,0,none⟩) h2).trans c2,
  λo=>(hb.frozen (p:=⟨w.heap.size+1+1+1,o,none⟩) h3).trans (fz o),(hb.cell (p:=⟨w.heap.size+1+1+1,0,none⟩) h3).trans d0,(hb.cell (p:=⟨w.heap.size+1+1+1,1,none⟩) h3).trans d1,(hb.cell (p:=⟨w.heap.size+1+1+1,2,none⟩) h3).trans d2,(hb.cell (p:=⟨w.heap.size+1+1+1,3,none⟩) h3).trans d3,(hb.cell (p:=⟨w.heap.size+1+1+1,4,none⟩) h3).trans d4,(hb.cell (p:=⟨w.heap.size+1+1+1,5,none⟩) h3).trans d5⟩
theorem Ax5 {rows:List Rg} {b:Nat} {w:World} (h:J4 Kn 6 rows b w) (k:Nat) (hk:k<rows.length) (y:Rg) (hy:rows[k]! = y) :
  w.cell? ⟨b,k*6,none⟩=some (.int .i32 y.lo)/\w.cell? ⟨b,k*6+1,none⟩=some (.int .i32 y.hi)/\w.cell? ⟨b,k*6+2,none⟩=some (.int .i64 y.cat)/\w.cell? ⟨b,k*6+3,none⟩=some (.int .i64 y.bidi)/\w.cell? ⟨b,k*6+4,none⟩=some (.int .i64 y.join)/\w.cell? ⟨b,k*6+5,none⟩=some (.int .i64 y.script):=by
 have:=h.2 k hk;rw [hy] at this;exact ⟨this 0 _ rfl,this 1 _ rfl,this 2 _ rfl,this 3 _ rfl,this 4 _ rfl,this 5 _ rfl⟩
theorem A1x (b n:Nat) (rows:List Rg) (x:Int) (w:World) (hn:n=rows.length) (hl:J4 Kn 6 rows b w) (hrise:rising Rg.lo Rg.hi rows=true) (hsz:n<4611686018427387904) :
  Calls prog 339 #[.slice (some ⟨b,0,none⟩) n n,.int .i32 x,.func (.func 340) #[] #[]] w (Wj rows x w):=by
 obtain ⟨W0,hW0⟩:∃ W0,W0=(((w.alloc (.cells #[.slice (some ⟨b,0,none⟩) n n] 31)).alloc (.cells #[.int .i32 x] 21)).alloc (.cells #[.func (.func 340) #[] #[]] 319)).alloc (.cells #[.int .i32 0,.int .i32 0,.int .i64 0,.int .i64 0,.int .i64 0,.int .i64 0] 84):=⟨_,rfl⟩
 obtain ⟨hS,hB0,-⟩:=Aos b n x w W0 hW0;have hl0:=hl.below hB0;have eg:∀ args w,(callFunc 355 args).run prog w=.ok (.enter 355 args) w:=enters_of func355 jK rfl;have hSch:=Mh 355 #[.pointer (some ⟨w.heap.size+1+1,0,none⟩),.pointer (some ⟨w.heap.size,0,none⟩),.pointer (some ⟨w.heap.size+1,0,none⟩)] n (λi=>decide (x<=rows[i]!.hi)) W0 W0 (jan _ _) eg hsz
  (λW i hb hi=>by
   obtain ⟨e0,e1,e2,e3,e4,e5⟩:=Ax5 (hl0.below hb) i jO rows[i]! rfl;obtain ⟨a0,a1,a2,-⟩:=Sx b n x w W0 W hW0 hb;refine (Aqr (w.heap.size+1+1) w.heap.size (w.heap.size+1) b n rows[i]! x i W hi a2 a0 a1 (by have:=hb.size;omega) e0 e1 e2 e3 e4 e5).mono λe w' h=>⟨h.1,hb.trans (h.2.mono hb.size)⟩)
  (λa c hac hc h=>by have:=Hw hrise a c hac jO;simp only [decide_eq_true_eq] at h ⊢;omega)
 have HN:=jH hn;have HS:=jH hS;have HW:=jH hW0;have HB0:=jH hB0;have HL:=jH hl0;clear hn hS hB0 hl0 hl eg hrise;go_enter func339,ntmps339;go_wp2_with fail;rw [<- hW0];refine hSch.mono ?_;rintro e w1 ⟨k,hk,k1,k2,rfl,hb1⟩;have HK:=jH (R8 (lo:=Rg.lo) (hi:=Rg.hi) x rows k (by have:=HN.out;omega) k1 (by rw [<- HN.out];exact k2));clear hSch k1 k2 hW0;obtain ⟨a0,a1,a2,fz,d0,d1,d2,d3,d4,d5⟩:=Sx b n x w W0 w1 HW.out hb1;by_cases hlt:k<n
 ·have hkz:(k:Int)<(n:Int):=jO
  obtain ⟨e0,e1,e2,e3,e4,e5⟩:=Ax5 (HL.out.below hb1) k (by have:=HN.out;omega) rows[k]! rfl;generalize hy:rows[k]! = y at e0 e1 e2 e3 e4 e5;obtain ⟨v0,v1,v2,v3,v4,v5⟩:=y;have HY:=jH hy;have HB1:=jH hb1;have H:=jH (λW=>Avx v0 v1 v2 v3 v4 v5 W);clear hy hb1 fz d0 d1 d2 d3 d4 d5;go_wp2_with fail;go_region_with ((go_at_call 340;refine (H.out _).mono ?_;rintro e w2 ⟨rfl,hb2⟩;have hb3:=HB1.out.trans ((Ag hb2).mono HB1.out.size);obtain ⟨b0,b1,b2,fz,d0,d1,d2,d3,d4,d5⟩:=Sx b n x w W0 w2 HW.out hb3;obtain ⟨f0,f1,f2,f3,f4,f5⟩:=Ax5 (HL.out.below hb3) k (by have:=HN.out;omega) _ HY.out;have HB2:=jH hb3;have hz:w.heap.size+1+1+1<w2.heap.size:=(by have:=hb3.size;have:=HS.out;omega);clear hb2 hb3 e0 e1 e2 e3 e4 e5 a0 a1 a2))
  all_goals
   by_cases hlo:v0<=x
   ·go_wp2;refine bodyPost_ret (v:=.tuple #[.agg #[.int .i32 v0,.int .i32 v1,.int .i64 v2,.int .i64 v3,.int .i64 v4,.int .i64 v5],.bool true]) (by simp [results,results339,go_sem,d0,d1,d2,d3,d4,d5]) rfl ⟨?_,?_⟩
    ·rw [HK.out,if_pos (by have:=HN.out;omega),HY.out,if_pos (show (Rg.mk v0 v1 v2 v3 v4 v5).lo<=x from hlo)];rfl
    ·exact Vu (HB0.out.trans (HB2.out.mono HB0.out.size)) jO _ _ _ _ _ _
   ·go_wp2;refine bodyPost_ret (v:=.tuple #[.agg #[.int .i32 0,.int .i32 0,.int .i64 0,.int .i64 0,.int .i64 0,.int .i64 0],.bool false]) (by simp [results,results339,go_sem,d0,d1,d2,d3,d4,d5,hz]) rfl ⟨?_,?_⟩
    ·rw [HK.out,if_pos (by have:=HN.out;omega),HY.out,if_neg (show ¬ (Rg.mk v0 v1 v2 v3 v4 v5).lo<=x from Int.not_le.2 hlo)];rfl
    ·exact Am (Vu (HB0.out.trans (HB2.out.mono HB0.out.size)) jO _ _ _ _ _ _) (jaa _) _
 ·have hkz:¬ (k:Int)<(n:Int):=jO
  have HB1:=jH hb1;have hz:w.heap.size+1+1+1<w1.heap.size:=(by have:=hb1.size;have:=HS.out;omega)
  clear hb1;go_wp2;refine bodyPost_ret (v:=.tuple #[.agg #[.int .i32 0,.int .i32 0,.int .i64 0,.int .i64 0,.int .i64 0,.int .i64 0],.bool false]) (by simp [results,results339,go_sem,d0,d1,d2,d3,d4,d5,hz]) rfl ⟨?_,?_⟩
  ·rw [HK.out,if_neg (by have:=HN.out;omega)];rfl
  ·exact Am (Vu (HB0.out.trans (HB1.out.mono HB0.out.size)) jO _ _ _ _ _ _) (jaa _) _
end
section
open Go.RowKit
def Q8 (x:Cl):List Value:=[.int .i32 x.lo,.int .i32 x.hi,.int .i64 x.cls,.int .i64 x.step]
theorem Avv (v0 v1 v2 v3:Int) (w:World) :
  Calls prog 336 #[.agg #[.int .i32 v0,.int .i32 v1,.int .i64 v2,.int .i64 v3]] w λe w'=>e=.returned (.tuple #[.int .i32 v0,.int .i32 v1])/\Below w.heap.size w w':=by
 go_enter func336,ntmps336;go_wp2;go_quiet (fail);go_wp2;go_ret2;exact ⟨rfl,below_drewN ((jan _ _).alloc (jaa _) _) _⟩
theorem Aqp (be br bx b n:Nat) (y:Cl) (x:Int) (i:Nat) (W:World) (hi:i<n)
  (he:W.cell? ⟨be,0,none⟩=some (.func (.func 336) #[] #[])) (ha:W.cell? ⟨br,0,none⟩=some (.slice (some ⟨b,0,none⟩) n n)) (hx:W.cell? ⟨bx,0,none⟩=some (.int .i32 x))
  (hbx:bx<W.heap.size) (h0:W.cell? ⟨b,i*4,none⟩=some (.int .i32 y.lo)) (h1:W.cell? ⟨b,i*4+1,none⟩=some (.int .i32 y.hi)) (h2:W.cell? ⟨b,i*4+2,none⟩=some (.int .i64 y.cls)) (h3:W.cell? ⟨b,i*4+3,none⟩=some (.int .i64 y.step)) :
  Calls prog 352 (#[.int .i64 i] ++ #[.pointer (some ⟨be,0,none⟩),.pointer (some ⟨br,0,none⟩),.pointer (some ⟨bx,0,none⟩)]) W λe w'=>e=.returned (.bool (decide (x<=y.hi)))/\Below W.heap.size W w':=by
 obtain ⟨v0,v1,v2,v3⟩:=y;have hiz:(i:Int)<(n:Int):=jO
 have H:=jH (λW=>Avv v0 v1 v2 v3 W);go_enter func352,ntmps352;go_wp2_with fail;go_region_with ((go_at_call 336;refine (H.out _).mono ?_;rintro e w' ⟨rfl,hb⟩;have hx':w'.cell? ⟨bx,0,none⟩=some (.int .i32 x):=(hb.cell (p:=⟨bx,0,none⟩) hbx).trans hx;have HB:=jH hb;clear hb))
 all_goals go_wp2
 all_goals go_ret
 all_goals exact ⟨rfl,Ag HB.out⟩
def Wh (rows:List Cl) (x:Int) (w:World) (e:Ending) (w':World):Prop :=
 e=.returned (.tuple #[.agg (Q8 ((Ha Cl.lo Cl.hi rows x).getD default)).toArray,.bool (Ha Cl.lo Cl.hi rows x).isSome])/\Below w.heap.size w w'
theorem Aoq (b n:Nat) (x:Int) (w W0:World)
  (hW0:W0=(((w.alloc (.cells #[.slice (some ⟨b,0,none⟩) n n] 32)).alloc (.cells #[.int .i32 x] 21)).alloc (.cells #[.func (.func 336) #[] #[]] 317)).alloc (.cells #[.int .i32 0,.int .i32 0,.int .i64 0,.int .i64 0] 86)) :
  W0.heap.size=w.heap.size+1+1+1+1/\Below w.heap.size w W0/\W0.cell? ⟨w.heap.size,0,none⟩=some (.slice (some ⟨b,0,none⟩) n n)/\W0.cell? ⟨w.heap.size+1,0,none⟩=some (.int .i32 x)/\W0.cell? ⟨w.heap.size+1+1,0,none⟩=some (.func (.func 336) #[] #[]) /\
  (∀ o,W0.frozen? ⟨w.heap.size+1+1+1,o,none⟩=false)/\W0.cell? ⟨w.heap.size+1+1+1,0,none⟩=some (.int .i32 0)/\W0.cell? ⟨w.heap.size+1+1+1,1,none⟩=some (.int .i32 0)/\W0.cell? ⟨w.heap.size+1+1+1,2,none⟩=some (.int .i64 0)/\W0.cell? ⟨w.heap.size+1+1+1,3,none⟩=some (.int .i64 0):=by
 subst hW0;refine ⟨by simp,((((jan _ w).alloc (jaa _) _).alloc jS _).alloc (by simp;omega) _).alloc (by simp;omega) _,?_,?_,?_,?_,?_,?_,?_,?_⟩<;>first | (go_simp;done) | (intro o;go_simp;done)
theorem Ad4 {B S:Nat} {a w:World} (h:Below B a w) (hS:B<=S) (u0 u1 u2 u3:Value) :
  Below B a ((((w.setCell ⟨S,0,none⟩ u0).setCell ⟨S,1,none⟩ u1).setCell ⟨S,2,none⟩ u2).setCell ⟨S,3,none⟩ u3) :=
 ((((h.setCell (p:=⟨S,0,none⟩) hS u0).setCell (p:=⟨S,1,none⟩) hS u1).setCell (p:=⟨S,2,none⟩) hS u2).setCell (p:=⟨S,3,none⟩) hS u3)
theorem Sv (b n:Nat) (x:Int) (w W0 W:World)
  (hW0:W0=(((w.alloc (.cells #[.slice (some ⟨b,0,none⟩) n n] 32)).alloc (.cells #[.int .i32 x] 21)).alloc (.cells #[.func (.func 336) #[] #[]] 317)).alloc (.cells #[.int .i32 0,.int .i32 0,.int .i64 0,.int .i64 0] 86))
  (hb:Below W0.heap.size W0 W) :
  W.cell? ⟨w.heap.size,0,none⟩=some (.slice (some ⟨b,0,none⟩) n n)/\W.cell? ⟨w.heap.size+1,0,none⟩=some (.int .i32 x)/\W.cell? ⟨w.heap.size+1+1,0,none⟩=some (.func (.func 336) #[] #[]) /\
  (∀ o,W.frozen? ⟨w.heap.size+1+1+1,o,none⟩=false)/\W.cell? ⟨w.heap.size+1+1+1,0,none⟩=some (.int .i32 0)/\W.cell? ⟨w.heap.size+1+1+1,1,none⟩=some (.int .i32 0)/\W.cell? ⟨w.heap.size+1+1+1,2,none⟩=some (.int .i64 0)/\W.cell? ⟨w.heap.size+1+1+1,3,none⟩=some (.int .i64 0):=by
 obtain ⟨hS,-,c0,c1,c2,fz,d0,d1,d2,d3⟩:=Aoq b n x w W0 hW0;have h0:w.heap.size<W0.heap.size:=jO
 have h1:w.heap.size+1<W0.heap.size:=jO
 have h2:w.heap.size+1+1<W0.heap.size:=jO
 have h3:w.heap.size+1+1+1<W0.heap.size:=jO
 exact ⟨(hb.cell (p:=⟨w.heap.size,0,none⟩) h0).trans c0,(hb.cell (p:=⟨w.heap.size+1,0,none⟩) h1).trans c1,(hb.cell (p:=⟨w.heap.size+1+1,0,none⟩) h2).trans c2,
  λo=>(hb.frozen (p:=⟨w.heap.size+1+1+1,o,none⟩) h3).trans (fz o),(hb.cell (p:=⟨w.heap.size+1+1+1,0,none⟩) h3).trans d0,(hb.cell (p:=⟨w.heap.size+1+1+1,1,none⟩) h3).trans d1,(hb.cell (p:=⟨w.heap.size+1+1+1,2,none⟩) h3).trans d2,(hb.cell (p:=⟨w.heap.size+1+1+1,3,none⟩) h3).trans d3⟩
theorem Ax1 {rows:List Cl} {b:Nat} {w:World} (h:J4 Q8 4 rows b w) (k:Nat) (hk:k<rows.length) (y:Cl) (hy:rows[k]! = y) :
  w.cell? ⟨b,k*4,none⟩=some (.int .i32 y.lo)/\w.cell? ⟨b,k*4+1,none⟩=some (.int .i32 y.hi)/\w.cell? ⟨b,k*4+2,none⟩=some (.int .i64 y.cls)/\w.cell? ⟨b,k*4+3,none⟩=some (.int .i64 y.step):=by
 have:=h.2 k hk;rw [hy] at this;exact ⟨this 0 _ rfl,this 1 _ rfl,this 2 _ rfl,this 3 _ rfl⟩
theorem A1v (b n:Nat) (rows:List Cl) (x:Int) (w:World) (hn:n=rows.length) (hl:J4 Q8 4 rows b w) (hrise:rising Cl.lo Cl.hi rows=true) (hsz:n<4611686018427387904) :
  Calls prog 335 #[.slice (some ⟨b,0,none⟩) n n,.int .i32 x,.func (.func 336) #[] #[]] w (Wh rows x w):=by
 obtain ⟨W0,hW0⟩:∃ W0,W0=(((w.alloc (.cells #[.slice (some ⟨b,0,none⟩) n n] 32)).alloc (.cells #[.int .i32 x] 21)).alloc (.cells #[.func (.func 336) #[] #[]] 317)).alloc (.cells #[.int .i32 0,.int .i32 0,.int .i64 0,.int .i64 0] 86):=⟨_,rfl⟩
 obtain ⟨hS,hB0,-⟩:=Aoq b n x w W0 hW0;have hl0:=hl.below hB0;have eg:∀ args w,(callFunc 352 args).run prog w=.ok (.enter 352 args) w:=enters_of func352 jK rfl;have hSch:=Mh 352 #[.pointer (some ⟨w.heap.size+1+1,0,none⟩),.pointer (some ⟨w.heap.size,0,none⟩),.pointer (some ⟨w.heap.size+1,0,none⟩)] n (λi=>decide (x<=rows[i]!.hi)) W0 W0 (jan _ _) eg hsz
  (λW i hb hi=>by
   obtain ⟨e0,e1,e2,e3⟩:=Ax1 (hl0.below hb) i jO rows[i]! rfl;obtain ⟨a0,a1,a2,-⟩:=Sv b n x w W0 W hW0 hb;refine (Aqp (w.heap.size+1+1) w.heap.size (w.heap.size+1) b n rows[i]! x i W hi a2 a0 a1 (by have:=hb.size;omega) e0 e1 e2 e3).mono λe w' h=>⟨h.1,hb.trans (h.2.mono hb.size)⟩)
  (λa c hac hc h=>by have:=Hw hrise a c hac jO;simp only [decide_eq_true_eq] at h ⊢;omega)
 have HN:=jH hn;have HS:=jH hS;have HW:=jH hW0;have HB0:=jH hB0;have HL:=jH hl0;clear hn hS hB0 hl0 hl eg hrise;go_enter func335,ntmps335;go_wp2_with fail;rw [<- hW0];refine hSch.mono ?_;rintro e w1 ⟨k,hk,k1,k2,rfl,hb1⟩;have HK:=jH (R8 (lo:=Cl.lo) (hi:=Cl.hi) x rows k (by have:=HN.out;omega) k1 (by rw [<- HN.out];exact k2));clear hSch k1 k2 hW0;obtain ⟨a0,a1,a2,fz,d0,d1,d2,d3⟩:=Sv b n x w W0 w1 HW.out hb1;by_cases hlt:k<n
 ·have hkz:(k:Int)<(n:Int):=jO
  obtain ⟨e0,e1,e2,e3⟩:=Ax1 (HL.out.below hb1) k (by have:=HN.out;omega) rows[k]! rfl;generalize hy:rows[k]! = y at e0 e1 e2 e3;obtain ⟨v0,v1,v2,v3⟩:=y;have HY:=jH hy;have HB1:=jH hb1;have H:=jH (λW=>Avv v0 v1 v2 v3 W);clear hy hb1 fz d0 d1 d2 d3;go_wp2_with fail;go_region_with ((go_at_call 336;refine (H.out _).mono ?_;rintro e w2 ⟨rfl,hb2⟩;have hb3:=HB1.out.trans ((Ag hb2).mono HB1.out.size);obtain ⟨b0,b1,b2,fz,d0,d1,d2,d3⟩:=Sv b n x w W0 w2 HW.out hb3;obtain ⟨f0,f1,f2,f3⟩:=Ax1 (HL.out.below hb3) k (by have:=HN.out;omega) _ HY.out;have HB2:=jH hb3;have hz:w.heap.size+1+1+1<w2.heap.size:=(by have:=hb3.size;have:=HS.out;omega);clear hb2 hb3 e0 e1 e2 e3 a0 a1 a2))
  all_goals
   by_cases hlo:v0<=x
   ·go_wp2;refine bodyPost_ret (v:=.tuple #[.agg #[.int .i32 v0,.int .i32 v1,.int .i64 v2,.int .i64 v3],.bool true]) (by simp [results,results335,go_sem,d0,d1,d2,d3]) rfl ⟨?_,?_⟩
    ·rw [HK.out,if_pos (by have:=HN.out;omega),HY.out,if_pos (show (Cl.mk v0 v1 v2 v3).lo<=x from hlo)];rfl
    ·exact Ad4 (HB0.out.trans (HB2.out.mono HB0.out.size)) jO _ _ _ _
   ·go_wp2;refine bodyPost_ret (v:=.tuple #[.agg #[.int .i32 0,.int .i32 0,.int .i64 0,.int .i64 0],.bool false]) (by simp [results,results335,go_sem,d0,d1,d2,d3,hz]) rfl ⟨?_,?_⟩
    ·rw [HK.out,if_pos (by have:=HN.out;omega),HY.out,if_neg (show ¬ (Cl.mk v0 v1 v2 v3).lo<=x from Int.not_le.2 hlo)];rfl
    ·exact Am (Ad4 (HB0.out.trans (HB2.out.mono HB0.out.size)) jO _ _ _ _) (jaa _) _
 ·have hkz:¬ (k:Int)<(n:Int):=jO
  have HB1:=jH hb1;have hz:w.heap.size+1+1+1<w1.heap.size:=(by have:=hb1.size;have:=HS.out;omega)
  clear hb1;go_wp2;refine bodyPost_ret (v:=.tuple #[.agg #[.int .i32 0,.int .i32 0,.int .i64 0,.int .i64 0],.bool false]) (by simp [results,results335,go_sem,d0,d1,d2,d3,hz]) rfl ⟨?_,?_⟩
  ·rw [HK.out,if_neg (by have:=HN.out;omega)];rfl
  ·exact Am (Ad4 (HB0.out.trans (HB1.out.mono HB0.out.size)) jO _ _ _ _) (jaa _) _
end
section
open Go.RowKit
def Q9 (x:Lw):List Value:=[.int .i32 x.lo,.int .i32 x.hi,.int .i32 x.far]
theorem Avw (v0 v1 v2:Int) (w:World) :
  Calls prog 243 #[.agg #[.int .i32 v0,.int .i32 v1,.int .i32 v2]] w λe w'=>e=.returned (.tuple #[.int .i32 v0,.int .i32 v1])/\Below w.heap.size w w':=by
 go_enter func243,ntmps243;go_wp2;go_quiet (fail);go_wp2;go_ret2;exact ⟨rfl,below_drewN ((jan _ _).alloc (jaa _) _) _⟩
theorem Aqq (be br bx b n:Nat) (y:Lw) (x:Int) (i:Nat) (W:World) (hi:i<n)
  (he:W.cell? ⟨be,0,none⟩=some (.func (.func 243) #[] #[])) (ha:W.cell? ⟨br,0,none⟩=some (.slice (some ⟨b,0,none⟩) n n)) (hx:W.cell? ⟨bx,0,none⟩=some (.int .i32 x))
  (hbx:bx<W.heap.size) (h0:W.cell? ⟨b,i*3,none⟩=some (.int .i32 y.lo)) (h1:W.cell? ⟨b,i*3+1,none⟩=some (.int .i32 y.hi)) (h2:W.cell? ⟨b,i*3+2,none⟩=some (.int .i32 y.far)) :
  Calls prog 289 (#[.int .i64 i] ++ #[.pointer (some ⟨be,0,none⟩),.pointer (some ⟨br,0,none⟩),.pointer (some ⟨bx,0,none⟩)]) W λe w'=>e=.returned (.bool (decide (x<=y.hi)))/\Below W.heap.size W w':=by
 obtain ⟨v0,v1,v2⟩:=y;have hiz:(i:Int)<(n:Int):=jO
 have H:=jH (λW=>Avw v0 v1 v2 W);go_enter func289,ntmps289;go_wp2_with fail;go_region_with ((go_at_call 243;refine (H.out _).mono ?_;rintro e w' ⟨rfl,hb⟩;have hx':w'.cell? ⟨bx,0,none⟩=some (.int .i32 x):=(hb.cell (p:=⟨bx,0,none⟩) hbx).trans hx;have HB:=jH hb;clear hb))
 all_goals go_wp2
 all_goals go_ret
 all_goals exact ⟨rfl,Ag HB.out⟩
def Wi (rows:List Lw) (x:Int) (w:World) (e:Ending) (w':World):Prop :=
 e=.returned (.tuple #[.agg (Q9 ((Ha Lw.lo Lw.hi rows x).getD default)).toArray,.bool (Ha Lw.lo Lw.hi rows x).isSome])/\Below w.heap.size w w'
theorem Aor (b n:Nat) (x:Int) (w W0:World)
  (hW0:W0=(((w.alloc (.cells #[.slice (some ⟨b,0,none⟩) n n] 33)).alloc (.cells #[.int .i32 x] 21)).alloc (.cells #[.func (.func 243) #[] #[]] 256)).alloc (.cells #[.int .i32 0,.int .i32 0,.int .i32 0] 88)) :
  W0.heap.size=w.heap.size+1+1+1+1/\Below w.heap.size w W0/\W0.cell? ⟨w.heap.size,0,none⟩=some (.slice (some ⟨b,0,none⟩) n n)/\W0.cell? ⟨w.heap.size+1,0,none⟩=some (.int .i32 x)/\W0.cell? ⟨w.heap.size+1+1,0,none⟩=some (.func (.func 243) #[] #[]) /\
  (∀ o,W0.frozen? ⟨w.heap.size+1+1+1,o,none⟩=false)/\W0.cell? ⟨w.heap.size+1+1+1,0,none⟩=some (.int .i32 0)/\W0.cell? ⟨w.heap.size+1+1+1,1,none⟩=some (.int .i32 0)/\W0.cell? ⟨w.heap.size+1+1+1,2,none⟩=some (.int .i32 0):=by
 subst hW0;refine ⟨by simp,((((jan _ w).alloc (jaa _) _).alloc jS _).alloc (by simp;omega) _).alloc (by simp;omega) _,?_,?_,?_,?_,?_,?_,?_⟩<;>first | (go_simp;done) | (intro o;go_simp;done)
theorem Ad5 {B S:Nat} {a w:World} (h:Below B a w) (hS:B<=S) (u0 u1 u2:Value) :
  Below B a (((w.setCell ⟨S,0,none⟩ u0).setCell ⟨S,1,none⟩ u1).setCell ⟨S,2,none⟩ u2) :=
 (((h.setCell (p:=⟨S,0,none⟩) hS u0).setCell (p:=⟨S,1,none⟩) hS u1).setCell (p:=⟨S,2,none⟩) hS u2)
theorem Sw (b n:Nat) (x:Int) (w W0 W:World)
  (hW0:W0=(((w.alloc (.cells #[.slice (some ⟨b,0,none⟩) n n] 33)).alloc (.cells #[.int .i32 x] 21)).alloc (.cells #[.func (.func 243) #[] #[]] 256)).alloc (.cells #[.int .i32 0,.int .i32 0,.int .i32 0] 88))
  (hb:Below W0.heap.size W0 W) :
  W.cell? ⟨w.heap.size,0,none⟩=some (.slice (some ⟨b,0,none⟩) n n)/\W.cell? ⟨w.heap.size+1,0,none⟩=some (.int .i32 x)/\W.cell? ⟨w.heap.size+1+1,0,none⟩=some (.func (.func 243) #[] #[]) /\
  (∀ o,W.frozen? ⟨w.heap.size+1+1+1,o,none⟩=false)/\W.cell? ⟨w.heap.size+1+1+1,0,none⟩=some (.int .i32 0)/\W.cell? ⟨w.heap.size+1+1+1,1,none⟩=some (.int .i32 0)/\W.cell? ⟨w.heap.size+1+1+1,2,none⟩=some (.int .i32 0):=by
 obtain ⟨hS,-,c0,c1,c2,fz,d0,d1,d2⟩:=Aor b n x w W0 hW0;have h0:w.heap.size<W0.heap.size:=jO
 have h1:w.heap.size+1<W0.heap.size:=jO
 have h2:w.heap.size+1+1<W0.heap.size:=jO
 have h3:w.heap.size+1+1+1<W0.heap.size:=jO
 exact ⟨(hb.cell (p:=⟨w.heap.size,0,none⟩) h0).trans c0,(hb.cell (p:=⟨w.heap.size+1,0,none⟩) h1).trans c1,(hb.cell (p:=⟨w.heap.size+1+1,0,none⟩) h2).trans c2,
  λo=>(hb.frozen (p:=⟨w.heap.size+1+1+1,o,none⟩) h3).trans (fz o),(hb.cell (p:=⟨w.heap.size+1+1+1,0,none⟩) h3).trans d0,(hb.cell (p:=⟨w.heap.size+1+1+1,1,none⟩) h3).trans d1,(hb.cell (p:=⟨w.heap.size+1+1+1,2,none⟩) h3).trans d2⟩
theorem Ax3 {rows:List Lw} {b:Nat} {w:World} (h:J4 Q9 3 rows b w) (k:Nat) (hk:k<rows.length) (y:Lw) (hy:rows[k]! = y) :
  w.cell? ⟨b,k*3,none⟩=some (.int .i32 y.lo)/\w.cell? ⟨b,k*3+1,none⟩=some (.int .i32 y.hi)/\w.cell? ⟨b,k*3+2,none⟩=some (.int .i32 y.far):=by
 have:=h.2 k hk;rw [hy] at this;exact ⟨this 0 _ rfl,this 1 _ rfl,this 2 _ rfl⟩
theorem A1w (b n:Nat) (rows:List Lw) (x:Int) (w:World) (hn:n=rows.length) (hl:J4 Q9 3 rows b w) (hrise:rising Lw.lo Lw.hi rows=true) (hsz:n<4611686018427387904) :
  Calls prog 242 #[.slice (some ⟨b,0,none⟩) n n,.int .i32 x,.func (.func 243) #[] #[]] w (Wi rows x w):=by
 obtain ⟨W0,hW0⟩:∃ W0,W0=(((w.alloc (.cells #[.slice (some ⟨b,0,none⟩) n n] 33)).alloc (.cells #[.int .i32 x] 21)).alloc (.cells #[.func (.func 243) #[] #[]] 256)).alloc (.cells #[.int .i32 0,.int .i32 0,.int .i32 0] 88):=⟨_,rfl⟩
 obtain ⟨hS,hB0,-⟩:=Aor b n x w W0 hW0;have hl0:=hl.below hB0;have eg:∀ args w,(callFunc 289 args).run prog w=.ok (.enter 289 args) w:=enters_of func289 jK rfl;have hSch:=Mh 289 #[.pointer (some ⟨w.heap.size+1+1,0,none⟩),.pointer (some ⟨w.heap.size,0,none⟩),.pointer (some ⟨w.heap.size+1,0,none⟩)] n (λi=>decide (x<=rows[i]!.hi)) W0 W0 (jan _ _) eg hsz
  (λW i hb hi=>by
   obtain ⟨e0,e1,e2⟩:=Ax3 (hl0.below hb) i jO rows[i]! rfl;obtain ⟨a0,a1,a2,-⟩:=Sw b n x w W0 W hW0 hb;refine (Aqq (w.heap.size+1+1) w.heap.size (w.heap.size+1) b n rows[i]! x i W hi a2 a0 a1 (by have:=hb.size;omega) e0 e1 e2).mono λe w' h=>⟨h.1,hb.trans (h.2.mono hb.size)⟩)
  (λa c hac hc h=>by have:=Hw hrise a c hac jO;simp only [decide_eq_true_eq] at h ⊢;omega)
 have HN:=jH hn;have HS:=jH hS;have HW:=jH hW0;have HB0:=jH hB0;have HL:=jH hl0;clear hn hS hB0 hl0 hl eg hrise;go_enter func242,ntmps242;go_wp2_with fail;rw [<- hW0];refine hSch.mono ?_;rintro e w1 ⟨k,hk,k1,k2,rfl,hb1⟩;have HK:=jH (R8 (lo:=Lw.lo) (hi:=Lw.hi) x rows k (by have:=HN.out;omega) k1 (by rw [<- HN.out];exact k2));clear hSch k1 k2 hW0;obtain ⟨a0,a1,a2,fz,d0,d1,d2⟩:=Sw b n x w W0 w1 HW.out hb1;by_cases hlt:k<n
 ·have hkz:(k:Int)<(n:Int):=jO
  obtain ⟨e0,e1,e2⟩:=Ax3 (HL.out.below hb1) k (by have:=HN.out;omega) rows[k]! rfl;generalize hy:rows[k]! = y at e0 e1 e2;obtain ⟨v0,v1,v2⟩:=y;have HY:=jH hy;have HB1:=jH hb1;have H:=jH (λW=>Avw v0 v1 v2 W);clear hy hb1 fz d0 d1 d2;go_wp2_with fail;go_region_with ((go_at_call 243;refine (H.out _).mono ?_;rintro e w2 ⟨rfl,hb2⟩;have hb3:=HB1.out.trans ((Ag hb2).mono HB1.out.size);obtain ⟨b0,b1,b2,fz,d0,d1,d2⟩:=Sw b n x w W0 w2 HW.out hb3;obtain ⟨f0,f1,f2⟩:=Ax3 (HL.out.below hb3) k (by have:=HN.out;omega) _ HY.out;have HB2:=jH hb3;have hz:w.heap.size+1+1+1<w2.heap.size:=(by have:=hb3.size;have:=HS.out;omega);clear hb2 hb3 e0 e1 e2 a0 a1 a2))
  all_goals
   by_cases hlo:v0<=x
   ·go_wp2;refine bodyPost_ret (v:=.tuple #[.agg #[.int .i32 v0,.int .i32 v1,.int .i32 v2],.bool true]) (by simp [results,results242,go_sem,d0,d1,d2]) rfl ⟨?_,?_⟩
    ·rw [HK.out,if_pos (by have:=HN.out;omega),HY.out,if_pos (show (Lw.mk v0 v1 v2).lo<=x from hlo)];rfl
    ·exact Ad5 (HB0.out.trans (HB2.out.mono HB0.out.size)) jO _ _ _
   ·go_wp2;refine bodyPost_ret (v:=.tuple #[.agg #[.int .i32 0,.int .i32 0,.int .i32 0],.bool false]) (by simp [results,results242,go_sem,d0,d1,d2,hz]) rfl ⟨?_,?_⟩
    ·rw [HK.out,if_pos (by have:=HN.out;omega),HY.out,if_neg (show ¬ (Lw.mk v0 v1 v2).lo<=x from Int.not_le.2 hlo)];rfl
    ·exact Am (Ad5 (HB0.out.trans (HB2.out.mono HB0.out.size)) jO _ _ _) (jaa _) _
 ·have hkz:¬ (k:Int)<(n:Int):=jO
  have HB1:=jH hb1;have hz:w.heap.size+1+1+1<w1.heap.size:=(by have:=hb1.size;have:=HS.out;omega)
  clear hb1;go_wp2;refine bodyPost_ret (v:=.tuple #[.agg #[.int .i32 0,.int .i32 0,.int .i32 0],.bool false]) (by simp [results,results242,go_sem,d0,d1,d2,hz]) rfl ⟨?_,?_⟩
  ·rw [HK.out,if_neg (by have:=HN.out;omega)];rfl
  ·exact Am (Ad5 (HB0.out.trans (HB1.out.mono HB0.out.size)) jO _ _ _) (jaa _) _
end
section
open Go.RowKit
def F7 (x:Sp):List Value:=[.int .i32 x.rune,.int .i32 x.one,.int .i32 x.two,.bool x.soft,.bool x.out]
theorem Avy (v0 v1 v2:Int) (v3 v4:Bool) (w:World) :
  Calls prog 291 #[.agg #[.int .i32 v0,.int .i32 v1,.int .i32 v2,.bool v3,.bool v4]] w λe w'=>e=.returned (.tuple #[.int .i32 v0,.int .i32 v0])/\Below w.heap.size w w':=by
 go_enter func291,ntmps291;go_wp2;go_quiet (fail);go_wp2;go_ret2;exact ⟨rfl,below_drewN ((jan _ _).alloc (jaa _) _) _⟩
theorem Aqs (be br bx b n:Nat) (y:Sp) (x:Int) (i:Nat) (W:World) (hi:i<n)
  (he:W.cell? ⟨be,0,none⟩=some (.func (.func 291) #[] #[])) (ha:W.cell? ⟨br,0,none⟩=some (.slice (some ⟨b,0,none⟩) n n)) (hx:W.cell? ⟨bx,0,none⟩=some (.int .i32 x))
  (hbx:bx<W.heap.size) (h0:W.cell? ⟨b,i*5,none⟩=some (.int .i32 y.rune)) (h1:W.cell? ⟨b,i*5+1,none⟩=some (.int .i32 y.one)) (h2:W.cell? ⟨b,i*5+2,none⟩=some (.int .i32 y.two)) (h3:W.cell? ⟨b,i*5+3,none⟩=some (.bool y.soft)) (h4:W.cell? ⟨b,i*5+4,none⟩=some (.bool y.out)) :
  Calls prog 329 (#[.int .i64 i] ++ #[.pointer (some ⟨be,0,none⟩),.pointer (some ⟨br,0,none⟩),.pointer (some ⟨bx,0,none⟩)]) W λe w'=>e=.returned (.bool (decide (x<=y.rune)))/\Below W.heap.size W w':=by
 obtain ⟨v0,v1,v2,v3,v4⟩:=y;have hiz:(i:Int)<(n:Int):=jO
 have H:=jH (λW=>Avy v0 v1 v2 v3 v4 W);go_enter func329,ntmps329;go_wp2_with fail;go_region_with ((go_at_call 291;refine (H.out _).mono ?_;rintro e w' ⟨rfl,hb⟩;have hx':w'.cell? ⟨bx,0,none⟩=some (.int .i32 x):=(hb.cell (p:=⟨bx,0,none⟩) hbx).trans hx;have HB:=jH hb;clear hb))
 all_goals go_wp2
 all_goals go_ret
 all_goals exact ⟨rfl,Ag HB.out⟩
def Wk (rows:List Sp) (x:Int) (w:World) (e:Ending) (w':World):Prop :=
 e=.returned (.tuple #[.agg (F7 ((Ha Sp.rune Sp.rune rows x).getD default)).toArray,.bool (Ha Sp.rune Sp.rune rows x).isSome])/\Below w.heap.size w w'
theorem Aot (b n:Nat) (x:Int) (w W0:World)
  (hW0:W0=(((w.alloc (.cells #[.slice (some ⟨b,0,none⟩) n n] 34)).alloc (.cells #[.int .i32 x] 21)).alloc (.cells #[.func (.func 291) #[] #[]] 287)).alloc (.cells #[.int .i32 0,.int .i32 0,.int .i32 0,.bool false,.bool false] 90)) :
  W0.heap.size=w.heap.size+1+1+1+1/\Below w.heap.size w W0/\W0.cell? ⟨w.heap.size,0,none⟩=some (.slice (some ⟨b,0,none⟩) n n)/\W0.cell? ⟨w.heap.size+1,0,none⟩=some (.int .i32 x)/\W0.cell? ⟨w.heap.size+1+1,0,none⟩=some (.func (.func 291) #[] #[]) /\
  (∀ o,W0.frozen? ⟨w.heap.size+1+1+1,o,none⟩=false)/\W0.cell? ⟨w.heap.size+1+1+1,0,none⟩=some (.int .i32 0)/\W0.cell? ⟨w.heap.size+1+1+1,1,none⟩=some (.int .i32 0)/\W0.cell? ⟨w.heap.size+1+1+1,2,none⟩=some (.int .i32 0)/\W0.cell? ⟨w.heap.size+1+1+1,3,none⟩=some (.bool false)/\W0.cell? ⟨w.heap.size+1+1+1,4,none⟩=some (.bool false):=by
 subst hW0;refine ⟨by simp,((((jan _ w).alloc (jaa _) _).alloc jS _).alloc (by simp;omega) _).alloc (by simp;omega) _,?_,?_,?_,?_,?_,?_,?_,?_,?_⟩<;>first | (go_simp;done) | (intro o;go_simp;done)
theorem Le {B S:Nat} {a w:World} (h:Below B a w) (hS:B<=S) (u0 u1 u2 u3 u4:Value) :
  Below B a (((((w.setCell ⟨S,0,none⟩ u0).setCell ⟨S,1,none⟩ u1).setCell ⟨S,2,none⟩ u2).setCell ⟨S,3,none⟩ u3).setCell ⟨S,4,none⟩ u4) :=
 (((((h.setCell (p:=⟨S,0,none⟩) hS u0).setCell (p:=⟨S,1,none⟩) hS u1).setCell (p:=⟨S,2,none⟩) hS u2).setCell (p:=⟨S,3,none⟩) hS u3).setCell (p:=⟨S,4,none⟩) hS u4)
theorem Sy (b n:Nat) (x:Int) (w W0 W:World)
  (hW0:W0=(((w.alloc (.cells #[.slice (some ⟨b,0,none⟩) n n] 34)).alloc (.cells #[.int .i32 x] 21)).alloc (.cells #[.func (.func 291) #[] #[]] 287)).alloc (.cells #[.int .i32 0,.int .i32 0,.int .i32 0,.bool false,.bool false] 90))
  (hb:Below W0.heap.size W0 W) :
  W.cell? ⟨w.heap.size,0,none⟩=some (.slice (some ⟨b,0,none⟩) n n)/\W.cell? ⟨w.heap.size+1,0,none⟩=some (.int .i32 x)/\W.cell? ⟨w.heap.size+1+1,0,none⟩=some (.func (.func 291) #[] #[]) /\
  (∀ o,W.frozen? ⟨w.heap.size+1+1+1,o,none⟩=false)/\W.cell? ⟨w.heap.size+1+1+1,0,none⟩=some (.int .i32 0)/\W.cell? ⟨w.heap.size+1+1+1,1,none⟩=some (.int .i32 0)/\W.cell? ⟨w.heap.size+1+1+1,2,none⟩=some (.int .i32 0)/\W.cell? ⟨w.heap.size+1+1+1,3,none⟩=some (.bool false)/\W.cell? ⟨w.heap.size+1+1+1,4,none⟩=some (.bool false):=by
 obtain ⟨hS,-,c0,c1,c2,fz,d0,d1,d2,d3,d4⟩:=Aot b n x w W0 hW0;have h0:w.heap.size<W0.heap.size:=jO
 have h1:w.heap.size+1<W0.heap.size:=jO
 have h2:w.heap.size+1+1<W0.heap.size:=jO
 have h3:w.heap.size+1+1+1<W0.heap.size:=jO
 exact ⟨(hb.cell (p:=⟨w.heap.size,0,none⟩) h0).trans c0,(hb.cell (p:=⟨w.heap.size+1,0,none⟩) h1).trans c1,(hb.cell (p:=⟨w.heap.size+1+1,0,none⟩) h2).trans c2,
  λo=>(hb.frozen (p:=⟨w.heap.size+1+1+1,o,none⟩) h3).trans (fz o),(hb.cell (p:=⟨w.heap.size+1+1+1,0,none⟩) h3).trans d0,(hb.cell (p:=⟨w.heap.size+1+1+1,1,none⟩) h3).trans d1,(hb.cell (p:=⟨w.heap.size+1+1+1,2,none⟩) h3).trans d2,(hb.cell (p:=⟨w.heap.size+1+1+1,3,none⟩) h3).trans d3,(hb.cell (p:=⟨w.heap.size+1+1+1,4,none⟩) h3).trans d4⟩
theorem Ajj {rows:List Sp} {b:Nat} {w:World} (h:J4 F7 5 rows b w) (k:Nat) (hk:k<rows.length) (y:Sp) (hy:rows[k]! = y) :
  w.cell? ⟨b,k*5,none⟩=some (.int .i32 y.rune)/\w.cell? ⟨b,k*5+1,none⟩=some (.int .i32 y.one)/\w.cell? ⟨b,k*5+2,none⟩=some (.int .i32 y.two)/\w.cell? ⟨b,k*5+3,none⟩=some (.bool y.soft)/\w.cell? ⟨b,k*5+4,none⟩=some (.bool y.out):=by
 have:=h.2 k hk;rw [hy] at this;exact ⟨this 0 _ rfl,this 1 _ rfl,this 2 _ rfl,this 3 _ rfl,this 4 _ rfl⟩
theorem A1y (b n:Nat) (rows:List Sp) (x:Int) (w:World) (hn:n=rows.length) (hl:J4 F7 5 rows b w) (hrise:rising Sp.rune Sp.rune rows=true) (hsz:n<4611686018427387904) :
  Calls prog 290 #[.slice (some ⟨b,0,none⟩) n n,.int .i32 x,.func (.func 291) #[] #[]] w (Wk rows x w):=by
 obtain ⟨W0,hW0⟩:∃ W0,W0=(((w.alloc (.cells #[.slice (some ⟨b,0,none⟩) n n] 34)).alloc (.cells #[.int .i32 x] 21)).alloc (.cells #[.func (.func 291) #[] #[]] 287)).alloc (.cells #[.int .i32 0,.int .i32 0,.int .i32 0,.bool false,.bool false] 90):=⟨_,rfl⟩
 obtain ⟨hS,hB0,-⟩:=Aot b n x w W0 hW0;have hl0:=hl.below hB0;have eg:∀ args w,(callFunc 329 args).run prog w=.ok (.enter 329 args) w:=enters_of func329 jK rfl;have hSch:=Mh 329 #[.pointer (some ⟨w.heap.size+1+1,0,none⟩),.pointer (some ⟨w.heap.size,0,none⟩),.pointer (some ⟨w.heap.size+1,0,none⟩)] n (λi=>decide (x<=rows[i]!.rune)) W0 W0 (jan _ _) eg hsz
  (λW i hb hi=>by
   obtain ⟨e0,e1,e2,e3,e4⟩:=Ajj (hl0.below hb) i jO rows[i]! rfl;obtain ⟨a0,a1,a2,-⟩:=Sy b n x w W0 W hW0 hb;refine (Aqs (w.heap.size+1+1) w.heap.size (w.heap.size+1) b n rows[i]! x i W hi a2 a0 a1 (by have:=hb.size;omega) e0 e1 e2 e3 e4).mono λe w' h=>⟨h.1,hb.trans (h.2.mono hb.size)⟩)
  (λa c hac hc h=>by have:=Hw hrise a c hac jO;simp only [decide_eq_true_eq] at h ⊢;omega)
 have HN:=jH hn;have HS:=jH hS;have HW:=jH hW0;have HB0:=jH hB0;have HL:=jH hl0;clear hn hS hB0 hl0 hl eg hrise;go_enter func290,ntmps290;go_wp2_with fail;rw [<- hW0];refine hSch.mono ?_;rintro e w1 ⟨k,hk,k1,k2,rfl,hb1⟩;have HK:=jH (R8 (lo:=Sp.rune) (hi:=Sp.rune) x rows k (by have:=HN.out;omega) k1 (by rw [<- HN.out];exact k2));clear hSch k1 k2 hW0;obtain ⟨a0,a1,a2,fz,d0,d1,d2,d3,d4⟩:=Sy b n x w W0 w1 HW.out hb1;by_cases hlt:k<n
 ·have hkz:(k:Int)<(n:Int):=jO
  obtain ⟨e0,e1,e2,e3,e4⟩:=Ajj (HL.out.below hb1) k (by have:=HN.out;omega) rows[k]! rfl;generalize hy:rows[k]! = y at e0 e1 e2 e3 e4;obtain ⟨v0,v1,v2,v3,v4⟩:=y;have HY:=jH hy;have HB1:=jH hb1;have H:=jH (λW=>Avy v0 v1 v2 v3 v4 W);clear hy hb1 fz d0 d1 d2 d3 d4;go_wp2_with fail;go_region_with ((go_at_call 291;refine (H.out _).mono ?_;rintro e w2 ⟨rfl,hb2⟩;have hb3:=HB1.out.trans ((Ag hb2).mono HB1.out.size);obtain ⟨b0,b1,b2,fz,d0,d1,d2,d3,d4⟩:=Sy b n x w W0 w2 HW.out hb3;obtain ⟨f0,f1,f2,f3,f4⟩:=Ajj (HL.out.below hb3) k (by have:=HN.out;omega) _ HY.out;have HB2:=jH hb3;have hz:w.heap.size+1+1+1<w2.heap.size:=(by have:=hb3.size;have:=HS.out;omega);clear hb2 hb3 e0 e1 e2 e3 e4 a0 a1 a2))
  all_goals
   by_cases hlo:v0<=x
   ·go_wp2;refine bodyPost_ret (v:=.tuple #[.agg #[.int .i32 v0,.int .i32 v1,.int .i32 v2,.bool v3,.bool v4],.bool true]) (by simp [results,results290,go_sem,d0,d1,d2,d3,d4]) rfl ⟨?_,?_⟩
    ·rw [HK.out,if_pos (by have:=HN.out;omega),HY.out,if_pos (show (Sp.mk v0 v1 v2 v3 v4).rune<=x from hlo)];rfl
    ·exact Le (HB0.out.trans (HB2.out.mono HB0.out.size)) jO _ _ _ _ _
   ·go_wp2;refine bodyPost_ret (v:=.tuple #[.agg #[.int .i32 0,.int .i32 0,.int .i32 0,.bool false,.bool false],.bool false]) (by simp [results,results290,go_sem,d0,d1,d2,d3,d4,hz]) rfl ⟨?_,?_⟩
    ·rw [HK.out,if_pos (by have:=HN.out;omega),HY.out,if_neg (show ¬ (Sp.mk v0 v1 v2 v3 v4).rune<=x from Int.not_le.2 hlo)];rfl
    ·exact Am (Le (HB0.out.trans (HB2.out.mono HB0.out.size)) jO _ _ _ _ _) (jaa _) _
 ·have hkz:¬ (k:Int)<(n:Int):=jO
  have HB1:=jH hb1;have hz:w.heap.size+1+1+1<w1.heap.size:=(by have:=hb1.size;have:=HS.out;omega)
  clear hb1;go_wp2;refine bodyPost_ret (v:=.tuple #[.agg #[.int .i32 0,.int .i32 0,.int .i32 0,.bool false,.bool false],.bool false]) (by simp [results,results290,go_sem,d0,d1,d2,d3,d4,hz]) rfl ⟨?_,?_⟩
  ·rw [HK.out,if_neg (by have:=HN.out;omega)];rfl
  ·exact Am (Le (HB0.out.trans (HB1.out.mono HB0.out.size)) jO _ _ _ _ _) (jaa _) _
end
