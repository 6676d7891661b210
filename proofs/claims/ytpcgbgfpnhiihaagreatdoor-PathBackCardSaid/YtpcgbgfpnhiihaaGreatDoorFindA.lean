import Derived.Test.YtpcgbgfpnhiihaaGreatDoorGround
set_option maxRecDepth 100000
set_option maxHeartbeats 4000000
namespace Go.Proofs.YtpcgbgfpnhiihaaGreatDoor
section
open Go.RowKit
def J6 (x:Rg):List Value:=[.int .i32 x.lo,.int .i32 x.hi,.int .i64 x.cat,.int .i64 x.bidi,.int .i64 x.join,.int .i64 x.script]
theorem Asn (v0 v1 v2 v3 v4 v5:Int) (w:World) :
  Calls Tryz.prog 312 #[.agg #[.int .i32 v0,.int .i32 v1,.int .i64 v2,.int .i64 v3,.int .i64 v4,.int .i64 v5]] w λe w'=>e=.returned (.tuple #[.int .i32 v0,.int .i32 v1])/\Below w.heap.size w w':=by
 go_enter Tryz.func312,Tryz.ntmps312
 go_wp2
 go_quiet (fail)
 go_wp2
 go_ret2
 exact ⟨rfl,below_drewN ((Below.refl _ _).alloc (Nat.le_refl _) _) _⟩
theorem Anl (be br bx b n:Nat) (y:Rg) (x:Int) (i:Nat) (W:World) (hi:i<n)
  (he:W.cell? ⟨be,0,none⟩=some (.func (.func 312) #[] #[])) (ha:W.cell? ⟨br,0,none⟩=some (.slice (some ⟨b,0,none⟩) n n)) (hx:W.cell? ⟨bx,0,none⟩=some (.int .i32 x))
  (hbx:bx<W.heap.size) (h0:W.cell? ⟨b,i*6,none⟩=some (.int .i32 y.lo)) (h1:W.cell? ⟨b,i*6+1,none⟩=some (.int .i32 y.hi)) (h2:W.cell? ⟨b,i*6+2,none⟩=some (.int .i64 y.cat)) (h3:W.cell? ⟨b,i*6+3,none⟩=some (.int .i64 y.bidi)) (h4:W.cell? ⟨b,i*6+4,none⟩=some (.int .i64 y.join)) (h5:W.cell? ⟨b,i*6+5,none⟩=some (.int .i64 y.script)) :
  Calls Tryz.prog 355 (#[.int .i64 i] ++ #[.pointer (some ⟨be,0,none⟩),.pointer (some ⟨br,0,none⟩),.pointer (some ⟨bx,0,none⟩)]) W λe w'=>e=.returned (.bool (decide (x<=y.hi)))/\Below W.heap.size W w':=by
 obtain ⟨v0,v1,v2,v3,v4,v5⟩:=y
 have hiz:(i:Int)<(n:Int):=by omega
 have H:=jH (λW=>Asn v0 v1 v2 v3 v4 v5 W)
 go_enter Tryz.func355,Tryz.ntmps355
 go_wp2_with fail
 go_region_with ((go_at_call 312;refine (H.out _).mono ?_;rintro e w' ⟨rfl,hb⟩;have hx':w'.cell? ⟨bx,0,none⟩=some (.int .i32 x):=(hb.cell (p:=⟨bx,0,none⟩) hbx).trans hx;have HB:=jH hb;clear hb))
 all_goals go_wp2
 all_goals go_ret
 all_goals exact ⟨rfl,Ag HB.out⟩
def Vk (rows:List Rg) (x:Int) (w:World) (e:Ending) (w':World):Prop :=
 e=.returned (.tuple #[.agg (J6 ((Gv Rg.lo Rg.hi rows x).getD default)).toArray,.bool (Gv Rg.lo Rg.hi rows x).isSome])/\Below w.heap.size w w'
theorem Al0 (b n:Nat) (x:Int) (w W0:World)
  (hW0:W0=(((w.alloc (.cells #[.slice (some ⟨b,0,none⟩) n n] 26)).alloc (.cells #[.int .i32 x] 21)).alloc (.cells #[.func (.func 312) #[] #[]] 298)).alloc (.cells #[.int .i32 0,.int .i32 0,.int .i64 0,.int .i64 0,.int .i64 0,.int .i64 0] 101)) :
  W0.heap.size=w.heap.size+1+1+1+1/\Below w.heap.size w W0/\W0.cell? ⟨w.heap.size,0,none⟩=some (.slice (some ⟨b,0,none⟩) n n)/\W0.cell? ⟨w.heap.size+1,0,none⟩=some (.int .i32 x)/\W0.cell? ⟨w.heap.size+1+1,0,none⟩=some (.func (.func 312) #[] #[]) /\
  (∀ o,W0.frozen? ⟨w.heap.size+1+1+1,o,none⟩=false)/\W0.cell? ⟨w.heap.size+1+1+1,0,none⟩=some (.int .i32 0)/\W0.cell? ⟨w.heap.size+1+1+1,1,none⟩=some (.int .i32 0)/\W0.cell? ⟨w.heap.size+1+1+1,2,none⟩=some (.int .i64 0)/\W0.cell? ⟨w.heap.size+1+1+1,3,none⟩=some (.int .i64 0)/\W0.cell? ⟨w.heap.size+1+1+1,4,none⟩=some (.int .i64 0)/\W0.cell? ⟨w.heap.size+1+1+1,5,none⟩=some (.int .i64 0):=by
 subst hW0
 refine ⟨by simp,((((Below.refl _ w).alloc (Nat.le_refl _) _).alloc (by simp) _).alloc (by simp;omega) _).alloc (by simp;omega) _,?_,?_,?_,?_,?_,?_,?_,?_,?_,?_⟩<;>first | (go_simp;done) | (intro o;go_simp;done)
theorem U4 {B S:Nat} {a w:World} (h:Below B a w) (hS:B<=S) (u0 u1 u2 u3 u4 u5:Value) :
  Below B a ((((((w.setCell ⟨S,0,none⟩ u0).setCell ⟨S,1,none⟩ u1).setCell ⟨S,2,none⟩ u2).setCell ⟨S,3,none⟩ u3).setCell ⟨S,4,none⟩ u4).setCell ⟨S,5,none⟩ u5) :=
 ((((((h.setCell (p:=⟨S,0,none⟩) hS u0).setCell (p:=⟨S,1,none⟩) hS u1).setCell (p:=⟨S,2,none⟩) hS u2).setCell (p:=⟨S,3,none⟩) hS u3).setCell (p:=⟨S,4,none⟩) hS u4).setCell (p:=⟨S,5,none⟩) hS u5)
theorem R7 (b n:Nat) (x:Int) (w W0 W:World)
  (hW0:W0=(((w.alloc (.cells #[.slice (some ⟨b,0,none⟩) n n] 26)).alloc (.cells #[.int .i32 x] 21)).alloc (.cells #[.func (.func 312) #[] #[]] 298)).alloc (.cells #[.int .i32 0,.int .i32 0,.int .i64 0,.int .i64 0,.int .i64 0,.int .i64 0] 101))
  (hb:Below W0.heap.size W0 W) :
  W.cell? ⟨w.heap.size,0,none⟩=some (.slice (some ⟨b,0,none⟩) n n)/\W.cell? ⟨w.heap.size+1,0,none⟩=some (.int .i32 x)/\W.cell? ⟨w.heap.size+1+1,0,none⟩=some (.func (.func 312) #[] #[]) /\
  (∀ o,W.frozen? ⟨w.heap.size+1+1+1,o,none⟩=false)/\W.cell? ⟨w.heap.size+1+1+1,0,none⟩=some (.int .i32 0)/\W.cell? ⟨w.heap.size+1+1+1,1,none⟩=some (.int .i32 0)/\W.cell? ⟨w.heap.size+1+1+1,2,none⟩=some (.int .i64 0)/\W.cell? ⟨w.heap.size+1+1+1,3,none⟩=some (.int .i64 0)/\W.cell? ⟨w.heap.size+1+1+1,4,none⟩=some (.int .i64 0)/\W.cell? ⟨w.heap.size+1+1+1,5,none⟩=some (.int .i64 0):=by
 obtain ⟨hS,-,c0,c1,c2,fz,d0,d1,d2,d3,d4,d5⟩:=Al0 b n x w W0 hW0
 have h0:w.heap.size<W0.heap.size:=by omega
 have h1:w.heap.size+1<W0.heap.size:=by omega
 have h2:w.heap.size+1+1<W0.heap.size:=by omega
 have h3:w.heap.size+1+1+1<W0.heap.size:=by omega
 exact ⟨(hb.cell (p:=⟨w.heap.size,0,none⟩) h0).trans c0,(hb.cell (p:=⟨w.heap.size+1,0,none⟩) h1).trans c1,(hb.cell (p:=⟨w.heap.size+1+1,0,none⟩) h2).trans c2,
  λo=>(hb.frozen (p:=⟨w.heap.size+1+1+1,o,none⟩) h3).trans (fz o),(hb.cell (p:=⟨w.heap.size+1+1+1,0,none⟩) h3).trans d0,(hb.cell (p:=⟨w.heap.size+1+1+1,1,none⟩) h3).trans d1,(hb.cell (p:=⟨w.heap.size+1+1+1,2,none⟩) h3).trans d2,(hb.cell (p:=⟨w.heap.size+1+1+1,3,none⟩) h3).trans d3,(hb.cell (p:=⟨w.heap.size+1+1+1,4,none⟩) h3).trans d4,(hb.cell (p:=⟨w.heap.size+1+1+1,5,none⟩) h3).trans d5⟩
theorem Auh {rows:List Rg} {b:Nat} {w:World} (h:Jg J6 6 rows b w) (k:Nat) (hk:k<rows.length) (y:Rg) (hy:rows[k]! = y) :
  w.cell? ⟨b,k*6,none⟩=some (.int .i32 y.lo)/\w.cell? ⟨b,k*6+1,none⟩=some (.int .i32 y.hi)/\w.cell? ⟨b,k*6+2,none⟩=some (.int .i64 y.cat)/\w.cell? ⟨b,k*6+3,none⟩=some (.int .i64 y.bidi)/\w.cell? ⟨b,k*6+4,none⟩=some (.int .i64 y.join)/\w.cell? ⟨b,k*6+5,none⟩=some (.int .i64 y.script):=by
 have:=h.2 k hk
 rw [hy] at this
 exact ⟨this 0 _ rfl,this 1 _ rfl,this 2 _ rfl,this 3 _ rfl,this 4 _ rfl,this 5 _ rfl⟩
theorem Ax7 (b n:Nat) (rows:List Rg) (x:Int) (w:World) (hn:n=rows.length) (hl:Jg J6 6 rows b w) (hrise:rising Rg.lo Rg.hi rows=true) (hsz:n<4611686018427387904) :
  Calls Tryz.prog 311 #[.slice (some ⟨b,0,none⟩) n n,.int .i32 x,.func (.func 312) #[] #[]] w (Vk rows x w):=by
 obtain ⟨W0,hW0⟩:∃ W0,W0=(((w.alloc (.cells #[.slice (some ⟨b,0,none⟩) n n] 26)).alloc (.cells #[.int .i32 x] 21)).alloc (.cells #[.func (.func 312) #[] #[]] 298)).alloc (.cells #[.int .i32 0,.int .i32 0,.int .i64 0,.int .i64 0,.int .i64 0,.int .i64 0] 101):=⟨_,rfl⟩
 obtain ⟨hS,hB0,-⟩:=Al0 b n x w W0 hW0
 have hl0:=hl.below hB0
 have eg:∀ args w,(callFunc 355 args).run Tryz.prog w=.ok (.enter 355 args) w:=enters_of Tryz.func355 (by kernel_rfl) rfl
 have hSch:=Lj 355 #[.pointer (some ⟨w.heap.size+1+1,0,none⟩),.pointer (some ⟨w.heap.size,0,none⟩),.pointer (some ⟨w.heap.size+1,0,none⟩)] n (λi=>decide (x<=rows[i]!.hi)) W0 W0 (Below.refl _ _) eg hsz
  (λW i hb hi=>by
   obtain ⟨e0,e1,e2,e3,e4,e5⟩:=Auh (hl0.below hb) i (by omega) rows[i]! rfl
   obtain ⟨a0,a1,a2,-⟩:=R7 b n x w W0 W hW0 hb
   refine (Anl (w.heap.size+1+1) w.heap.size (w.heap.size+1) b n rows[i]! x i W hi a2 a0 a1 (by have:=hb.size;omega) e0 e1 e2 e3 e4 e5).mono λe w' h=>⟨h.1,hb.trans (h.2.mono hb.size)⟩)
  (λa c hac hc h=>by have:=Hm hrise a c hac (by omega);simp only [decide_eq_true_eq] at h ⊢;omega)
 have HN:=jH hn
 have HS:=jH hS
 have HW:=jH hW0
 have HB0:=jH hB0
 have HL:=jH hl0
 clear hn hS hB0 hl0 hl eg hrise
 go_enter Tryz.func311,Tryz.ntmps311
 go_wp2_with fail
 rw [<- hW0]
 refine hSch.mono ?_
 rintro e w1 ⟨k,hk,k1,k2,rfl,hb1⟩
 have HK:=jH (Rl (lo:=Rg.lo) (hi:=Rg.hi) x rows k (by have:=HN.out;omega) k1 (by rw [<- HN.out];exact k2))
 clear hSch k1 k2 hW0
 obtain ⟨a0,a1,a2,fz,d0,d1,d2,d3,d4,d5⟩:=R7 b n x w W0 w1 HW.out hb1
 by_cases hlt:k<n
 ·have hkz:(k:Int)<(n:Int):=by omega
  obtain ⟨e0,e1,e2,e3,e4,e5⟩:=Auh (HL.out.below hb1) k (by have:=HN.out;omega) rows[k]! rfl
  generalize hy:rows[k]! = y at e0 e1 e2 e3 e4 e5
  obtain ⟨v0,v1,v2,v3,v4,v5⟩:=y
  have HY:=jH hy
  have HB1:=jH hb1
  have H:=jH (λW=>Asn v0 v1 v2 v3 v4 v5 W)
  clear hy hb1 fz d0 d1 d2 d3 d4 d5
  go_wp2_with fail
  go_region_with ((go_at_call 312;refine (H.out _).mono ?_;rintro e w2 ⟨rfl,hb2⟩;have hb3:=HB1.out.trans ((Ag hb2).mono HB1.out.size);obtain ⟨b0,b1,b2,fz,d0,d1,d2,d3,d4,d5⟩:=R7 b n x w W0 w2 HW.out hb3;obtain ⟨f0,f1,f2,f3,f4,f5⟩:=Auh (HL.out.below hb3) k (by have:=HN.out;omega) _ HY.out;have HB2:=jH hb3;have hz:w.heap.size+1+1+1<w2.heap.size:=(by have:=hb3.size;have:=HS.out;omega);clear hb2 hb3 e0 e1 e2 e3 e4 e5 a0 a1 a2))
  all_goals
   by_cases hlo:v0<=x
   ·go_wp2
    refine bodyPost_ret (v:=.tuple #[.agg #[.int .i32 v0,.int .i32 v1,.int .i64 v2,.int .i64 v3,.int .i64 v4,.int .i64 v5],.bool true]) (by simp [results,Tryz.results311,go_sem,d0,d1,d2,d3,d4,d5]) rfl ⟨?_,?_⟩
    ·rw [HK.out,if_pos (by have:=HN.out;omega),HY.out,if_pos (show (Rg.mk v0 v1 v2 v3 v4 v5).lo<=x from hlo)]
     rfl
    ·exact U4 (HB0.out.trans (HB2.out.mono HB0.out.size)) (by omega) _ _ _ _ _ _
   ·go_wp2
    refine bodyPost_ret (v:=.tuple #[.agg #[.int .i32 0,.int .i32 0,.int .i64 0,.int .i64 0,.int .i64 0,.int .i64 0],.bool false]) (by simp [results,Tryz.results311,go_sem,d0,d1,d2,d3,d4,d5,hz]) rfl ⟨?_,?_⟩
    ·rw [HK.out,if_pos (by have:=HN.out;omega),HY.out,if_neg (show ¬ (Rg.mk v0 v1 v2 v3 v4 v5).lo<=x from Int.not_le.2 hlo)]
     rfl
    ·exact Am (U4 (HB0.out.trans (HB2.out.mono HB0.out.size)) (by omega) _ _ _ _ _ _) (Nat.le_refl _) _
 ·have hkz:¬ (k:Int)<(n:Int):=by omega
  have HB1:=jH hb1
  have hz:w.heap.size+1+1+1<w1.heap.size:=(by have:=hb1.size;have:=HS.out;omega)
  clear hb1
  go_wp2
  refine bodyPost_ret (v:=.tuple #[.agg #[.int .i32 0,.int .i32 0,.int .i64 0,.int .i64 0,.int .i64 0,.int .i64 0],.bool false]) (by simp [results,Tryz.results311,go_sem,d0,d1,d2,d3,d4,d5,hz]) rfl ⟨?_,?_⟩
  ·rw [HK.out,if_neg (by have:=HN.out;omega)]
   rfl
  ·exact Am (U4 (HB0.out.trans (HB1.out.mono HB0.out.size)) (by omega) _ _ _ _ _ _) (Nat.le_refl _) _
end
section
open Go.RowKit
def Qo (x:Cl):List Value:=[.int .i32 x.lo,.int .i32 x.hi,.int .i64 x.cls,.int .i64 x.step]
theorem Asl (v0 v1 v2 v3:Int) (w:World) :
  Calls Tryz.prog 350 #[.agg #[.int .i32 v0,.int .i32 v1,.int .i64 v2,.int .i64 v3]] w λe w'=>e=.returned (.tuple #[.int .i32 v0,.int .i32 v1])/\Below w.heap.size w w':=by
 go_enter Tryz.func350,Tryz.ntmps350
 go_wp2
 go_quiet (fail)
 go_wp2
 go_ret2
 exact ⟨rfl,below_drewN ((Below.refl _ _).alloc (Nat.le_refl _) _) _⟩
theorem Anj (be br bx b n:Nat) (y:Cl) (x:Int) (i:Nat) (W:World) (hi:i<n)
  (he:W.cell? ⟨be,0,none⟩=some (.func (.func 350) #[] #[])) (ha:W.cell? ⟨br,0,none⟩=some (.slice (some ⟨b,0,none⟩) n n)) (hx:W.cell? ⟨bx,0,none⟩=some (.int .i32 x))
  (hbx:bx<W.heap.size) (h0:W.cell? ⟨b,i*4,none⟩=some (.int .i32 y.lo)) (h1:W.cell? ⟨b,i*4+1,none⟩=some (.int .i32 y.hi)) (h2:W.cell? ⟨b,i*4+2,none⟩=some (.int .i64 y.cls)) (h3:W.cell? ⟨b,i*4+3,none⟩=some (.int .i64 y.step)) :
  Calls Tryz.prog 377 (#[.int .i64 i] ++ #[.pointer (some ⟨be,0,none⟩),.pointer (some ⟨br,0,none⟩),.pointer (some ⟨bx,0,none⟩)]) W λe w'=>e=.returned (.bool (decide (x<=y.hi)))/\Below W.heap.size W w':=by
 obtain ⟨v0,v1,v2,v3⟩:=y
 have hiz:(i:Int)<(n:Int):=by omega
 have H:=jH (λW=>Asl v0 v1 v2 v3 W)
 go_enter Tryz.func377,Tryz.ntmps377
 go_wp2_with fail
 go_region_with ((go_at_call 350;refine (H.out _).mono ?_;rintro e w' ⟨rfl,hb⟩;have hx':w'.cell? ⟨bx,0,none⟩=some (.int .i32 x):=(hb.cell (p:=⟨bx,0,none⟩) hbx).trans hx;have HB:=jH hb;clear hb))
 all_goals go_wp2
 all_goals go_ret
 all_goals exact ⟨rfl,Ag HB.out⟩
def Vi (rows:List Cl) (x:Int) (w:World) (e:Ending) (w':World):Prop :=
 e=.returned (.tuple #[.agg (Qo ((Gv Cl.lo Cl.hi rows x).getD default)).toArray,.bool (Gv Cl.lo Cl.hi rows x).isSome])/\Below w.heap.size w w'
theorem Aly (b n:Nat) (x:Int) (w W0:World)
  (hW0:W0=(((w.alloc (.cells #[.slice (some ⟨b,0,none⟩) n n] 27)).alloc (.cells #[.int .i32 x] 21)).alloc (.cells #[.func (.func 350) #[] #[]] 322)).alloc (.cells #[.int .i32 0,.int .i32 0,.int .i64 0,.int .i64 0] 103)) :
  W0.heap.size=w.heap.size+1+1+1+1/\Below w.heap.size w W0/\W0.cell? ⟨w.heap.size,0,none⟩=some (.slice (some ⟨b,0,none⟩) n n)/\W0.cell? ⟨w.heap.size+1,0,none⟩=some (.int .i32 x)/\W0.cell? ⟨w.heap.size+1+1,0,none⟩=some (.func (.func 350) #[] #[]) /\
  (∀ o,W0.frozen? ⟨w.heap.size+1+1+1,o,none⟩=false)/\W0.cell? ⟨w.heap.size+1+1+1,0,none⟩=some (.int .i32 0)/\W0.cell? ⟨w.heap.size+1+1+1,1,none⟩=some (.int .i32 0)/\W0.cell? ⟨w.heap.size+1+1+1,2,none⟩=some (.int .i64 0)/\W0.cell? ⟨w.heap.size+1+1+1,3,none⟩=some (.int .i64 0):=by
 subst hW0
 refine ⟨by simp,((((Below.refl _ w).alloc (Nat.le_refl _) _).alloc (by simp) _).alloc (by simp;omega) _).alloc (by simp;omega) _,?_,?_,?_,?_,?_,?_,?_,?_⟩<;>first | (go_simp;done) | (intro o;go_simp;done)
theorem Acb {B S:Nat} {a w:World} (h:Below B a w) (hS:B<=S) (u0 u1 u2 u3:Value) :
  Below B a ((((w.setCell ⟨S,0,none⟩ u0).setCell ⟨S,1,none⟩ u1).setCell ⟨S,2,none⟩ u2).setCell ⟨S,3,none⟩ u3) :=
 ((((h.setCell (p:=⟨S,0,none⟩) hS u0).setCell (p:=⟨S,1,none⟩) hS u1).setCell (p:=⟨S,2,none⟩) hS u2).setCell (p:=⟨S,3,none⟩) hS u3)
theorem R5 (b n:Nat) (x:Int) (w W0 W:World)
  (hW0:W0=(((w.alloc (.cells #[.slice (some ⟨b,0,none⟩) n n] 27)).alloc (.cells #[.int .i32 x] 21)).alloc (.cells #[.func (.func 350) #[] #[]] 322)).alloc (.cells #[.int .i32 0,.int .i32 0,.int .i64 0,.int .i64 0] 103))
  (hb:Below W0.heap.size W0 W) :
  W.cell? ⟨w.heap.size,0,none⟩=some (.slice (some ⟨b,0,none⟩) n n)/\W.cell? ⟨w.heap.size+1,0,none⟩=some (.int .i32 x)/\W.cell? ⟨w.heap.size+1+1,0,none⟩=some (.func (.func 350) #[] #[]) /\
  (∀ o,W.frozen? ⟨w.heap.size+1+1+1,o,none⟩=false)/\W.cell? ⟨w.heap.size+1+1+1,0,none⟩=some (.int .i32 0)/\W.cell? ⟨w.heap.size+1+1+1,1,none⟩=some (.int .i32 0)/\W.cell? ⟨w.heap.size+1+1+1,2,none⟩=some (.int .i64 0)/\W.cell? ⟨w.heap.size+1+1+1,3,none⟩=some (.int .i64 0):=by
 obtain ⟨hS,-,c0,c1,c2,fz,d0,d1,d2,d3⟩:=Aly b n x w W0 hW0
 have h0:w.heap.size<W0.heap.size:=by omega
 have h1:w.heap.size+1<W0.heap.size:=by omega
 have h2:w.heap.size+1+1<W0.heap.size:=by omega
 have h3:w.heap.size+1+1+1<W0.heap.size:=by omega
 exact ⟨(hb.cell (p:=⟨w.heap.size,0,none⟩) h0).trans c0,(hb.cell (p:=⟨w.heap.size+1,0,none⟩) h1).trans c1,(hb.cell (p:=⟨w.heap.size+1+1,0,none⟩) h2).trans c2,
  λo=>(hb.frozen (p:=⟨w.heap.size+1+1+1,o,none⟩) h3).trans (fz o),(hb.cell (p:=⟨w.heap.size+1+1+1,0,none⟩) h3).trans d0,(hb.cell (p:=⟨w.heap.size+1+1+1,1,none⟩) h3).trans d1,(hb.cell (p:=⟨w.heap.size+1+1+1,2,none⟩) h3).trans d2,(hb.cell (p:=⟨w.heap.size+1+1+1,3,none⟩) h3).trans d3⟩
theorem Auf {rows:List Cl} {b:Nat} {w:World} (h:Jg Qo 4 rows b w) (k:Nat) (hk:k<rows.length) (y:Cl) (hy:rows[k]! = y) :
  w.cell? ⟨b,k*4,none⟩=some (.int .i32 y.lo)/\w.cell? ⟨b,k*4+1,none⟩=some (.int .i32 y.hi)/\w.cell? ⟨b,k*4+2,none⟩=some (.int .i64 y.cls)/\w.cell? ⟨b,k*4+3,none⟩=some (.int .i64 y.step):=by
 have:=h.2 k hk
 rw [hy] at this
 exact ⟨this 0 _ rfl,this 1 _ rfl,this 2 _ rfl,this 3 _ rfl⟩
theorem Ax5 (b n:Nat) (rows:List Cl) (x:Int) (w:World) (hn:n=rows.length) (hl:Jg Qo 4 rows b w) (hrise:rising Cl.lo Cl.hi rows=true) (hsz:n<4611686018427387904) :
  Calls Tryz.prog 349 #[.slice (some ⟨b,0,none⟩) n n,.int .i32 x,.func (.func 350) #[] #[]] w (Vi rows x w):=by
 obtain ⟨W0,hW0⟩:∃ W0,W0=(((w.alloc (.cells #[.slice (some ⟨b,0,none⟩) n n] 27)).alloc (.cells #[.int .i32 x] 21)).alloc (.cells #[.func (.func 350) #[] #[]] 322)).alloc (.cells #[.int .i32 0,.int .i32 0,.int .i64 0,.int .i64 0] 103):=⟨_,rfl⟩
 obtain ⟨hS,hB0,-⟩:=Aly b n x w W0 hW0
 have hl0:=hl.below hB0
 have eg:∀ args w,(callFunc 377 args).run Tryz.prog w=.ok (.enter 377 args) w:=enters_of Tryz.func377 (by kernel_rfl) rfl
 have hSch:=Lj 377 #[.pointer (some ⟨w.heap.size+1+1,0,none⟩),.pointer (some ⟨w.heap.size,0,none⟩),.pointer (some ⟨w.heap.size+1,0,none⟩)] n (λi=>decide (x<=rows[i]!.hi)) W0 W0 (Below.refl _ _) eg hsz
  (λW i hb hi=>by
   obtain ⟨e0,e1,e2,e3⟩:=Auf (hl0.below hb) i (by omega) rows[i]! rfl
   obtain ⟨a0,a1,a2,-⟩:=R5 b n x w W0 W hW0 hb
   refine (Anj (w.heap.size+1+1) w.heap.size (w.heap.size+1) b n rows[i]! x i W hi a2 a0 a1 (by have:=hb.size;omega) e0 e1 e2 e3).mono λe w' h=>⟨h.1,hb.trans (h.2.mono hb.size)⟩)
  (λa c hac hc h=>by have:=Hm hrise a c hac (by omega);simp only [decide_eq_true_eq] at h ⊢;omega)
 have HN:=jH hn
 have HS:=jH hS
 have HW:=jH hW0
 have HB0:=jH hB0
 have HL:=jH hl0
 clear hn hS hB0 hl0 hl eg hrise
 go_enter Tryz.func349,Tryz.ntmps349
 go_wp2_with fail
 rw [<- hW0]
 refine hSch.mono ?_
 rintro e w1 ⟨k,hk,k1,k2,rfl,hb1⟩
 have HK:=jH (Rl (lo:=Cl.lo) (hi:=Cl.hi) x rows k (by have:=HN.out;omega) k1 (by rw [<- HN.out];exact k2))
 clear hSch k1 k2 hW0
 obtain ⟨a0,a1,a2,fz,d0,d1,d2,d3⟩:=R5 b n x w W0 w1 HW.out hb1
 by_cases hlt:k<n
 ·have hkz:(k:Int)<(n:Int):=by omega
  obtain ⟨e0,e1,e2,e3⟩:=Auf (HL.out.below hb1) k (by have:=HN.out;omega) rows[k]! rfl
  generalize hy:rows[k]! = y at e0 e1 e2 e3
  obtain ⟨v0,v1,v2,v3⟩:=y
  have HY:=jH hy
  have HB1:=jH hb1
  have H:=jH (λW=>Asl v0 v1 v2 v3 W)
  clear hy hb1 fz d0 d1 d2 d3
  go_wp2_with fail
  go_region_with ((go_at_call 350;refine (H.out _).mono ?_;rintro e w2 ⟨rfl,hb2⟩;have hb3:=HB1.out.trans ((Ag hb2).mono HB1.out.size);obtain ⟨b0,b1,b2,fz,d0,d1,d2,d3⟩:=R5 b n x w W0 w2 HW.out hb3;obtain ⟨f0,f1,f2,f3⟩:=Auf (HL.out.below hb3) k (by have:=HN.out;omega) _ HY.out;have HB2:=jH hb3;have hz:w.heap.size+1+1+1<w2.heap.size:=(by have:=hb3.size;have:=HS.out;omega);clear hb2 hb3 e0 e1 e2 e3 a0 a1 a2))
  all_goals
   by_cases hlo:v0<=x
   ·go_wp2
    refine bodyPost_ret (v:=.tuple #[.agg #[.int .i32 v0,.int .i32 v1,.int .i64 v2,.int .i64 v3],.bool true]) (by simp [results,Tryz.results349,go_sem,d0,d1,d2,d3]) rfl ⟨?_,?_⟩
    ·rw [HK.out,if_pos (by have:=HN.out;omega),HY.out,if_pos (show (Cl.mk v0 v1 v2 v3).lo<=x from hlo)]
     rfl
    ·exact Acb (HB0.out.trans (HB2.out.mono HB0.out.size)) (by omega) _ _ _ _
   ·go_wp2
    refine bodyPost_ret (v:=.tuple #[.agg #[.int .i32 0,.int .i32 0,.int .i64 0,.int .i64 0],.bool false]) (by simp [results,Tryz.results349,go_sem,d0,d1,d2,d3,hz]) rfl ⟨?_,?_⟩
    ·rw [HK.out,if_pos (by have:=HN.out;omega),HY.out,if_neg (show ¬ (Cl.mk v0 v1 v2 v3).lo<=x from Int.not_le.2 hlo)]
     rfl
    ·exact Am (Acb (HB0.out.trans (HB2.out.mono HB0.out.size)) (by omega) _ _ _ _) (Nat.le_refl _) _
 ·have hkz:¬ (k:Int)<(n:Int):=by omega
  have HB1:=jH hb1
  have hz:w.heap.size+1+1+1<w1.heap.size:=(by have:=hb1.size;have:=HS.out;omega)
  clear hb1
  go_wp2
  refine bodyPost_ret (v:=.tuple #[.agg #[.int .i32 0,.int .i32 0,.int .i64 0,.int .i64 0],.bool false]) (by simp [results,Tryz.results349,go_sem,d0,d1,d2,d3,hz]) rfl ⟨?_,?_⟩
  ·rw [HK.out,if_neg (by have:=HN.out;omega)]
   rfl
  ·exact Am (Acb (HB0.out.trans (HB1.out.mono HB0.out.size)) (by omega) _ _ _ _) (Nat.le_refl _) _
end
section
open Go.RowKit
def Qp (x:Lw):List Value:=[.int .i32 x.lo,.int .i32 x.hi,.int .i32 x.far]
theorem Asm (v0 v1 v2:Int) (w:World) :
  Calls Tryz.prog 253 #[.agg #[.int .i32 v0,.int .i32 v1,.int .i32 v2]] w λe w'=>e=.returned (.tuple #[.int .i32 v0,.int .i32 v1])/\Below w.heap.size w w':=by
 go_enter Tryz.func253,Tryz.ntmps253
 go_wp2
 go_quiet (fail)
 go_wp2
 go_ret2
 exact ⟨rfl,below_drewN ((Below.refl _ _).alloc (Nat.le_refl _) _) _⟩
theorem Ank (be br bx b n:Nat) (y:Lw) (x:Int) (i:Nat) (W:World) (hi:i<n)
  (he:W.cell? ⟨be,0,none⟩=some (.func (.func 253) #[] #[])) (ha:W.cell? ⟨br,0,none⟩=some (.slice (some ⟨b,0,none⟩) n n)) (hx:W.cell? ⟨bx,0,none⟩=some (.int .i32 x))
  (hbx:bx<W.heap.size) (h0:W.cell? ⟨b,i*3,none⟩=some (.int .i32 y.lo)) (h1:W.cell? ⟨b,i*3+1,none⟩=some (.int .i32 y.hi)) (h2:W.cell? ⟨b,i*3+2,none⟩=some (.int .i32 y.far)) :
  Calls Tryz.prog 298 (#[.int .i64 i] ++ #[.pointer (some ⟨be,0,none⟩),.pointer (some ⟨br,0,none⟩),.pointer (some ⟨bx,0,none⟩)]) W λe w'=>e=.returned (.bool (decide (x<=y.hi)))/\Below W.heap.size W w':=by
 obtain ⟨v0,v1,v2⟩:=y
 have hiz:(i:Int)<(n:Int):=by omega
 have H:=jH (λW=>Asm v0 v1 v2 W)
 go_enter Tryz.func298,Tryz.ntmps298
 go_wp2_with fail
 go_region_with ((go_at_call 253;refine (H.out _).mono ?_;rintro e w' ⟨rfl,hb⟩;have hx':w'.cell? ⟨bx,0,none⟩=some (.int .i32 x):=(hb.cell (p:=⟨bx,0,none⟩) hbx).trans hx;have HB:=jH hb;clear hb))
 all_goals go_wp2
 all_goals go_ret
 all_goals exact ⟨rfl,Ag HB.out⟩
def Vj (rows:List Lw) (x:Int) (w:World) (e:Ending) (w':World):Prop :=
 e=.returned (.tuple #[.agg (Qp ((Gv Lw.lo Lw.hi rows x).getD default)).toArray,.bool (Gv Lw.lo Lw.hi rows x).isSome])/\Below w.heap.size w w'
theorem Alz (b n:Nat) (x:Int) (w W0:World)
  (hW0:W0=(((w.alloc (.cells #[.slice (some ⟨b,0,none⟩) n n] 28)).alloc (.cells #[.int .i32 x] 21)).alloc (.cells #[.func (.func 253) #[] #[]] 263)).alloc (.cells #[.int .i32 0,.int .i32 0,.int .i32 0] 105)) :
  W0.heap.size=w.heap.size+1+1+1+1/\Below w.heap.size w W0/\W0.cell? ⟨w.heap.size,0,none⟩=some (.slice (some ⟨b,0,none⟩) n n)/\W0.cell? ⟨w.heap.size+1,0,none⟩=some (.int .i32 x)/\W0.cell? ⟨w.heap.size+1+1,0,none⟩=some (.func (.func 253) #[] #[]) /\
  (∀ o,W0.frozen? ⟨w.heap.size+1+1+1,o,none⟩=false)/\W0.cell? ⟨w.heap.size+1+1+1,0,none⟩=some (.int .i32 0)/\W0.cell? ⟨w.heap.size+1+1+1,1,none⟩=some (.int .i32 0)/\W0.cell? ⟨w.heap.size+1+1+1,2,none⟩=some (.int .i32 0):=by
 subst hW0
 refine ⟨by simp,((((Below.refl _ w).alloc (Nat.le_refl _) _).alloc (by simp) _).alloc (by simp;omega) _).alloc (by simp;omega) _,?_,?_,?_,?_,?_,?_,?_⟩<;>first | (go_simp;done) | (intro o;go_simp;done)
theorem Acd {B S:Nat} {a w:World} (h:Below B a w) (hS:B<=S) (u0 u1 u2:Value) :
  Below B a (((w.setCell ⟨S,0,none⟩ u0).setCell ⟨S,1,none⟩ u1).setCell ⟨S,2,none⟩ u2) :=
 (((h.setCell (p:=⟨S,0,none⟩) hS u0).setCell (p:=⟨S,1,none⟩) hS u1).setCell (p:=⟨S,2,none⟩) hS u2)
theorem R6 (b n:Nat) (x:Int) (w W0 W:World)
  (hW0:W0=(((w.alloc (.cells #[.slice (some ⟨b,0,none⟩) n n] 28)).alloc (.cells #[.int .i32 x] 21)).alloc (.cells #[.func (.func 253) #[] #[]] 263)).alloc (.cells #[.int .i32 0,.int .i32 0,.int .i32 0] 105))
  (hb:Below W0.heap.size W0 W) :
  W.cell? ⟨w.heap.size,0,none⟩=some (.slice (some ⟨b,0,none⟩) n n)/\W.cell? ⟨w.heap.size+1,0,none⟩=some (.int .i32 x)/\W.cell? ⟨w.heap.size+1+1,0,none⟩=some (.func (.func 253) #[] #[]) /\
  (∀ o,W.frozen? ⟨w.heap.size+1+1+1,o,none⟩=false)/\W.cell? ⟨w.heap.size+1+1+1,0,none⟩=some (.int .i32 0)/\W.cell? ⟨w.heap.size+1+1+1,1,none⟩=some (.int .i32 0)/\W.cell? ⟨w.heap.size+1+1+1,2,none⟩=some (.int .i32 0):=by
 obtain ⟨hS,-,c0,c1,c2,fz,d0,d1,d2⟩:=Alz b n x w W0 hW0
 have h0:w.heap.size<W0.heap.size:=by omega
 have h1:w.heap.size+1<W0.heap.size:=by omega
 have h2:w.heap.size+1+1<W0.heap.size:=by omega
 have h3:w.heap.size+1+1+1<W0.heap.size:=by omega
 exact ⟨(hb.cell (p:=⟨w.heap.size,0,none⟩) h0).trans c0,(hb.cell (p:=⟨w.heap.size+1,0,none⟩) h1).trans c1,(hb.cell (p:=⟨w.heap.size+1+1,0,none⟩) h2).trans c2,
  λo=>(hb.frozen (p:=⟨w.heap.size+1+1+1,o,none⟩) h3).trans (fz o),(hb.cell (p:=⟨w.heap.size+1+1+1,0,none⟩) h3).trans d0,(hb.cell (p:=⟨w.heap.size+1+1+1,1,none⟩) h3).trans d1,(hb.cell (p:=⟨w.heap.size+1+1+1,2,none⟩) h3).trans d2⟩
theorem Aug {rows:List Lw} {b:Nat} {w:World} (h:Jg Qp 3 rows b w) (k:Nat) (hk:k<rows.length) (y:Lw) (hy:rows[k]! = y) :
  w.cell? ⟨b,k*3,none⟩=some (.int .i32 y.lo)/\w.cell? ⟨b,k*3+1,none⟩=some (.int .i32 y.hi)/\w.cell? ⟨b,k*3+2,none⟩=some (.int .i32 y.far):=by
 have:=h.2 k hk
 rw [hy] at this
 exact ⟨this 0 _ rfl,this 1 _ rfl,this 2 _ rfl⟩
theorem Ax6 (b n:Nat) (rows:List Lw) (x:Int) (w:World) (hn:n=rows.length) (hl:Jg Qp 3 rows b w) (hrise:rising Lw.lo Lw.hi rows=true) (hsz:n<4611686018427387904) :
  Calls Tryz.prog 252 #[.slice (some ⟨b,0,none⟩) n n,.int .i32 x,.func (.func 253) #[] #[]] w (Vj rows x w):=by
 obtain ⟨W0,hW0⟩:∃ W0,W0=(((w.alloc (.cells #[.slice (some ⟨b,0,none⟩) n n] 28)).alloc (.cells #[.int .i32 x] 21)).alloc (.cells #[.func (.func 253) #[] #[]] 263)).alloc (.cells #[.int .i32 0,.int .i32 0,.int .i32 0] 105):=⟨_,rfl⟩
 obtain ⟨hS,hB0,-⟩:=Alz b n x w W0 hW0
 have hl0:=hl.below hB0
 have eg:∀ args w,(callFunc 298 args).run Tryz.prog w=.ok (.enter 298 args) w:=enters_of Tryz.func298 (by kernel_rfl) rfl
 have hSch:=Lj 298 #[.pointer (some ⟨w.heap.size+1+1,0,none⟩),.pointer (some ⟨w.heap.size,0,none⟩),.pointer (some ⟨w.heap.size+1,0,none⟩)] n (λi=>decide (x<=rows[i]!.hi)) W0 W0 (Below.refl _ _) eg hsz
  (λW i hb hi=>by
   obtain ⟨e0,e1,e2⟩:=Aug (hl0.below hb) i (by omega) rows[i]! rfl
   obtain ⟨a0,a1,a2,-⟩:=R6 b n x w W0 W hW0 hb
   refine (Ank (w.heap.size+1+1) w.heap.size (w.heap.size+1) b n rows[i]! x i W hi a2 a0 a1 (by have:=hb.size;omega) e0 e1 e2).mono λe w' h=>⟨h.1,hb.trans (h.2.mono hb.size)⟩)
  (λa c hac hc h=>by have:=Hm hrise a c hac (by omega);simp only [decide_eq_true_eq] at h ⊢;omega)
 have HN:=jH hn
 have HS:=jH hS
 have HW:=jH hW0
 have HB0:=jH hB0
 have HL:=jH hl0
 clear hn hS hB0 hl0 hl eg hrise
 go_enter Tryz.func252,Tryz.ntmps252
 go_wp2_with fail
 rw [<- hW0]
 refine hSch.mono ?_
 rintro e w1 ⟨k,hk,k1,k2,rfl,hb1⟩
 have HK:=jH (Rl (lo:=Lw.lo) (hi:=Lw.hi) x rows k (by have:=HN.out;omega) k1 (by rw [<- HN.out];exact k2))
 clear hSch k1 k2 hW0
 obtain ⟨a0,a1,a2,fz,d0,d1,d2⟩:=R6 b n x w W0 w1 HW.out hb1
 by_cases hlt:k<n
 ·have hkz:(k:Int)<(n:Int):=by omega
  obtain ⟨e0,e1,e2⟩:=Aug (HL.out.below hb1) k (by have:=HN.out;omega) rows[k]! rfl
  generalize hy:rows[k]! = y at e0 e1 e2
  obtain ⟨v0,v1,v2⟩:=y
  have HY:=jH hy
  have HB1:=jH hb1
  have H:=jH (λW=>Asm v0 v1 v2 W)
  clear hy hb1 fz d0 d1 d2
  go_wp2_with fail
  go_region_with ((go_at_call 253;refine (H.out _).mono ?_;rintro e w2 ⟨rfl,hb2⟩;have hb3:=HB1.out.trans ((Ag hb2).mono HB1.out.size);obtain ⟨b0,b1,b2,fz,d0,d1,d2⟩:=R6 b n x w W0 w2 HW.out hb3;obtain ⟨f0,f1,f2⟩:=Aug (HL.out.below hb3) k (by have:=HN.out;omega) _ HY.out;have HB2:=jH hb3;have hz:w.heap.size+1+1+1<w2.heap.size:=(by have:=hb3.size;have:=HS.out;omega);clear hb2 hb3 e0 e1 e2 a0 a1 a2))
  all_goals
   by_cases hlo:v0<=x
   ·go_wp2
    refine bodyPost_ret (v:=.tuple #[.agg #[.int .i32 v0,.int .i32 v1,.int .i32 v2],.bool true]) (by simp [results,Tryz.results252,go_sem,d0,d1,d2]) rfl ⟨?_,?_⟩
    ·rw [HK.out,if_pos (by have:=HN.out;omega),HY.out,if_pos (show (Lw.mk v0 v1 v2).lo<=x from hlo)]
     rfl
    ·exact Acd (HB0.out.trans (HB2.out.mono HB0.out.size)) (by omega) _ _ _
   ·go_wp2
    refine bodyPost_ret (v:=.tuple #[.agg #[.int .i32 0,.int .i32 0,.int .i32 0],.bool false]) (by simp [results,Tryz.results252,go_sem,d0,d1,d2,hz]) rfl ⟨?_,?_⟩
    ·rw [HK.out,if_pos (by have:=HN.out;omega),HY.out,if_neg (show ¬ (Lw.mk v0 v1 v2).lo<=x from Int.not_le.2 hlo)]
     rfl
    ·exact Am (Acd (HB0.out.trans (HB2.out.mono HB0.out.size)) (by omega) _ _ _) (Nat.le_refl _) _
 ·have hkz:¬ (k:Int)<(n:Int):=by omega
  have HB1:=jH hb1
  have hz:w.heap.size+1+1+1<w1.heap.size:=(by have:=hb1.size;have:=HS.out;omega)
  clear hb1
  go_wp2
  refine bodyPost_ret (v:=.tuple #[.agg #[.int .i32 0,.int .i32 0,.int .i32 0],.bool false]) (by simp [results,Tryz.results252,go_sem,d0,d1,d2,hz]) rfl ⟨?_,?_⟩
  ·rw [HK.out,if_neg (by have:=HN.out;omega)]
   rfl
  ·exact Am (Acd (HB0.out.trans (HB1.out.mono HB0.out.size)) (by omega) _ _ _) (Nat.le_refl _) _
end
section
open Go.RowKit
def Fg (x:Sp):List Value:=[.int .i32 x.rune,.int .i32 x.one,.int .i32 x.two,.bool x.soft,.bool x.out]
theorem Aso (v0 v1 v2:Int) (v3 v4:Bool) (w:World) :
  Calls Tryz.prog 300 #[.agg #[.int .i32 v0,.int .i32 v1,.int .i32 v2,.bool v3,.bool v4]] w λe w'=>e=.returned (.tuple #[.int .i32 v0,.int .i32 v0])/\Below w.heap.size w w':=by
 go_enter Tryz.func300,Tryz.ntmps300
 go_wp2
 go_quiet (fail)
 go_wp2
 go_ret2
 exact ⟨rfl,below_drewN ((Below.refl _ _).alloc (Nat.le_refl _) _) _⟩
theorem Anm (be br bx b n:Nat) (y:Sp) (x:Int) (i:Nat) (W:World) (hi:i<n)
  (he:W.cell? ⟨be,0,none⟩=some (.func (.func 300) #[] #[])) (ha:W.cell? ⟨br,0,none⟩=some (.slice (some ⟨b,0,none⟩) n n)) (hx:W.cell? ⟨bx,0,none⟩=some (.int .i32 x))
  (hbx:bx<W.heap.size) (h0:W.cell? ⟨b,i*5,none⟩=some (.int .i32 y.rune)) (h1:W.cell? ⟨b,i*5+1,none⟩=some (.int .i32 y.one)) (h2:W.cell? ⟨b,i*5+2,none⟩=some (.int .i32 y.two)) (h3:W.cell? ⟨b,i*5+3,none⟩=some (.bool y.soft)) (h4:W.cell? ⟨b,i*5+4,none⟩=some (.bool y.out)) :
  Calls Tryz.prog 343 (#[.int .i64 i] ++ #[.pointer (some ⟨be,0,none⟩),.pointer (some ⟨br,0,none⟩),.pointer (some ⟨bx,0,none⟩)]) W λe w'=>e=.returned (.bool (decide (x<=y.rune)))/\Below W.heap.size W w':=by
 obtain ⟨v0,v1,v2,v3,v4⟩:=y
 have hiz:(i:Int)<(n:Int):=by omega
 have H:=jH (λW=>Aso v0 v1 v2 v3 v4 W)
 go_enter Tryz.func343,Tryz.ntmps343
 go_wp2_with fail
 go_region_with ((go_at_call 300;refine (H.out _).mono ?_;rintro e w' ⟨rfl,hb⟩;have hx':w'.cell? ⟨bx,0,none⟩=some (.int .i32 x):=(hb.cell (p:=⟨bx,0,none⟩) hbx).trans hx;have HB:=jH hb;clear hb))
 all_goals go_wp2
 all_goals go_ret
 all_goals exact ⟨rfl,Ag HB.out⟩
def Vl (rows:List Sp) (x:Int) (w:World) (e:Ending) (w':World):Prop :=
 e=.returned (.tuple #[.agg (Fg ((Gv Sp.rune Sp.rune rows x).getD default)).toArray,.bool (Gv Sp.rune Sp.rune rows x).isSome])/\Below w.heap.size w w'
theorem Al1 (b n:Nat) (x:Int) (w W0:World)
  (hW0:W0=(((w.alloc (.cells #[.slice (some ⟨b,0,none⟩) n n] 29)).alloc (.cells #[.int .i32 x] 21)).alloc (.cells #[.func (.func 300) #[] #[]] 293)).alloc (.cells #[.int .i32 0,.int .i32 0,.int .i32 0,.bool false,.bool false] 107)) :
  W0.heap.size=w.heap.size+1+1+1+1/\Below w.heap.size w W0/\W0.cell? ⟨w.heap.size,0,none⟩=some (.slice (some ⟨b,0,none⟩) n n)/\W0.cell? ⟨w.heap.size+1,0,none⟩=some (.int .i32 x)/\W0.cell? ⟨w.heap.size+1+1,0,none⟩=some (.func (.func 300) #[] #[]) /\
  (∀ o,W0.frozen? ⟨w.heap.size+1+1+1,o,none⟩=false)/\W0.cell? ⟨w.heap.size+1+1+1,0,none⟩=some (.int .i32 0)/\W0.cell? ⟨w.heap.size+1+1+1,1,none⟩=some (.int .i32 0)/\W0.cell? ⟨w.heap.size+1+1+1,2,none⟩=some (.int .i32 0)/\W0.cell? ⟨w.heap.size+1+1+1,3,none⟩=some (.bool false)/\W0.cell? ⟨w.heap.size+1+1+1,4,none⟩=some (.bool false):=by
 subst hW0
 refine ⟨by simp,((((Below.refl _ w).alloc (Nat.le_refl _) _).alloc (by simp) _).alloc (by simp;omega) _).alloc (by simp;omega) _,?_,?_,?_,?_,?_,?_,?_,?_,?_⟩<;>first | (go_simp;done) | (intro o;go_simp;done)
theorem Kp {B S:Nat} {a w:World} (h:Below B a w) (hS:B<=S) (u0 u1 u2 u3 u4:Value) :
  Below B a (((((w.setCell ⟨S,0,none⟩ u0).setCell ⟨S,1,none⟩ u1).setCell ⟨S,2,none⟩ u2).setCell ⟨S,3,none⟩ u3).setCell ⟨S,4,none⟩ u4) :=
 (((((h.setCell (p:=⟨S,0,none⟩) hS u0).setCell (p:=⟨S,1,none⟩) hS u1).setCell (p:=⟨S,2,none⟩) hS u2).setCell (p:=⟨S,3,none⟩) hS u3).setCell (p:=⟨S,4,none⟩) hS u4)
theorem R8 (b n:Nat) (x:Int) (w W0 W:World)
  (hW0:W0=(((w.alloc (.cells #[.slice (some ⟨b,0,none⟩) n n] 29)).alloc (.cells #[.int .i32 x] 21)).alloc (.cells #[.func (.func 300) #[] #[]] 293)).alloc (.cells #[.int .i32 0,.int .i32 0,.int .i32 0,.bool false,.bool false] 107))
  (hb:Below W0.heap.size W0 W) :
  W.cell? ⟨w.heap.size,0,none⟩=some (.slice (some ⟨b,0,none⟩) n n)/\W.cell? ⟨w.heap.size+1,0,none⟩=some (.int .i32 x)/\W.cell? ⟨w.heap.size+1+1,0,none⟩=some (.func (.func 300) #[] #[]) /\
  (∀ o,W.frozen? ⟨w.heap.size+1+1+1,o,none⟩=false)/\W.cell? ⟨w.heap.size+1+1+1,0,none⟩=some (.int .i32 0)/\W.cell? ⟨w.heap.size+1+1+1,1,none⟩=some (.int .i32 0)/\W.cell? ⟨w.heap.size+1+1+1,2,none⟩=some (.int .i32 0)/\W.cell? ⟨w.heap.size+1+1+1,3,none⟩=some (.bool false)/\W.cell? ⟨w.heap.size+1+1+1,4,none⟩=some (.bool false):=by
 obtain ⟨hS,-,c0,c1,c2,fz,d0,d1,d2,d3,d4⟩:=Al1 b n x w W0 hW0
 have h0:w.heap.size<W0.heap.size:=by omega
 have h1:w.heap.size+1<W0.heap.size:=by omega
 have h2:w.heap.size+1+1<W0.heap.size:=by omega
 have h3:w.heap.size+1+1+1<W0.heap.size:=by omega
 exact ⟨(hb.cell (p:=⟨w.heap.size,0,none⟩) h0).trans c0,(hb.cell (p:=⟨w.heap.size+1,0,none⟩) h1).trans c1,(hb.cell (p:=⟨w.heap.size+1+1,0,none⟩) h2).trans c2,
  λo=>(hb.frozen (p:=⟨w.heap.size+1+1+1,o,none⟩) h3).trans (fz o),(hb.cell (p:=⟨w.heap.size+1+1+1,0,none⟩) h3).trans d0,(hb.cell (p:=⟨w.heap.size+1+1+1,1,none⟩) h3).trans d1,(hb.cell (p:=⟨w.heap.size+1+1+1,2,none⟩) h3).trans d2,(hb.cell (p:=⟨w.heap.size+1+1+1,3,none⟩) h3).trans d3,(hb.cell (p:=⟨w.heap.size+1+1+1,4,none⟩) h3).trans d4⟩
theorem Ahc {rows:List Sp} {b:Nat} {w:World} (h:Jg Fg 5 rows b w) (k:Nat) (hk:k<rows.length) (y:Sp) (hy:rows[k]! = y) :
  w.cell? ⟨b,k*5,none⟩=some (.int .i32 y.rune)/\w.cell? ⟨b,k*5+1,none⟩=some (.int .i32 y.one)/\w.cell? ⟨b,k*5+2,none⟩=some (.int .i32 y.two)/\w.cell? ⟨b,k*5+3,none⟩=some (.bool y.soft)/\w.cell? ⟨b,k*5+4,none⟩=some (.bool y.out):=by
 have:=h.2 k hk
 rw [hy] at this
 exact ⟨this 0 _ rfl,this 1 _ rfl,this 2 _ rfl,this 3 _ rfl,this 4 _ rfl⟩
theorem Ax8 (b n:Nat) (rows:List Sp) (x:Int) (w:World) (hn:n=rows.length) (hl:Jg Fg 5 rows b w) (hrise:rising Sp.rune Sp.rune rows=true) (hsz:n<4611686018427387904) :
  Calls Tryz.prog 299 #[.slice (some ⟨b,0,none⟩) n n,.int .i32 x,.func (.func 300) #[] #[]] w (Vl rows x w):=by
 obtain ⟨W0,hW0⟩:∃ W0,W0=(((w.alloc (.cells #[.slice (some ⟨b,0,none⟩) n n] 29)).alloc (.cells #[.int .i32 x] 21)).alloc (.cells #[.func (.func 300) #[] #[]] 293)).alloc (.cells #[.int .i32 0,.int .i32 0,.int .i32 0,.bool false,.bool false] 107):=⟨_,rfl⟩
 obtain ⟨hS,hB0,-⟩:=Al1 b n x w W0 hW0
 have hl0:=hl.below hB0
 have eg:∀ args w,(callFunc 343 args).run Tryz.prog w=.ok (.enter 343 args) w:=enters_of Tryz.func343 (by kernel_rfl) rfl
 have hSch:=Lj 343 #[.pointer (some ⟨w.heap.size+1+1,0,none⟩),.pointer (some ⟨w.heap.size,0,none⟩),.pointer (some ⟨w.heap.size+1,0,none⟩)] n (λi=>decide (x<=rows[i]!.rune)) W0 W0 (Below.refl _ _) eg hsz
  (λW i hb hi=>by
   obtain ⟨e0,e1,e2,e3,e4⟩:=Ahc (hl0.below hb) i (by omega) rows[i]! rfl
   obtain ⟨a0,a1,a2,-⟩:=R8 b n x w W0 W hW0 hb
   refine (Anm (w.heap.size+1+1) w.heap.size (w.heap.size+1) b n rows[i]! x i W hi a2 a0 a1 (by have:=hb.size;omega) e0 e1 e2 e3 e4).mono λe w' h=>⟨h.1,hb.trans (h.2.mono hb.size)⟩)
  (λa c hac hc h=>by have:=Hm hrise a c hac (by omega);simp only [decide_eq_true_eq] at h ⊢;omega)
 have HN:=jH hn
 have HS:=jH hS
 have HW:=jH hW0
 have HB0:=jH hB0
 have HL:=jH hl0
 clear hn hS hB0 hl0 hl eg hrise
 go_enter Tryz.func299,Tryz.ntmps299
 go_wp2_with fail
 rw [<- hW0]
 refine hSch.mono ?_
 rintro e w1 ⟨k,hk,k1,k2,rfl,hb1⟩
 have HK:=jH (Rl (lo:=Sp.rune) (hi:=Sp.rune) x rows k (by have:=HN.out;omega) k1 (by rw [<- HN.out];exact k2))
 clear hSch k1 k2 hW0
 obtain ⟨a0,a1,a2,fz,d0,d1,d2,d3,d4⟩:=R8 b n x w W0 w1 HW.out hb1
 by_cases hlt:k<n
 ·have hkz:(k:Int)<(n:Int):=by omega
  obtain ⟨e0,e1,e2,e3,e4⟩:=Ahc (HL.out.below hb1) k (by have:=HN.out;omega) rows[k]! rfl
  generalize hy:rows[k]! = y at e0 e1 e2 e3 e4
  obtain ⟨v0,v1,v2,v3,v4⟩:=y
  have HY:=jH hy
  have HB1:=jH hb1
  have H:=jH (λW=>Aso v0 v1 v2 v3 v4 W)
  clear hy hb1 fz d0 d1 d2 d3 d4
  go_wp2_with fail
  go_region_with ((go_at_call 300;refine (H.out _).mono ?_;rintro e w2 ⟨rfl,hb2⟩;have hb3:=HB1.out.trans ((Ag hb2).mono HB1.out.size);obtain ⟨b0,b1,b2,fz,d0,d1,d2,d3,d4⟩:=R8 b n x w W0 w2 HW.out hb3;obtain ⟨f0,f1,f2,f3,f4⟩:=Ahc (HL.out.below hb3) k (by have:=HN.out;omega) _ HY.out;have HB2:=jH hb3;have hz:w.heap.size+1+1+1<w2.heap.size:=(by have:=hb3.size;have:=HS.out;omega);clear hb2 hb3 e0 e1 e2 e3 e4 a0 a1 a2))
  all_goals
   by_cases hlo:v0<=x
   ·go_wp2
    refine bodyPost_ret (v:=.tuple #[.agg #[.int .i32 v0,.int .i32 v1,.int .i32 v2,.bool v3,.bool v4],.bool true]) (by simp [results,Tryz.results299,go_sem,d0,d1,d2,d3,d4]) rfl ⟨?_,?_⟩
    ·rw [HK.out,if_pos (by have:=HN.out;omega),HY.out,if_pos (show (Sp.mk v0 v1 v2 v3 v4).rune<=x from hlo)]
     rfl
    ·exact Kp (HB0.out.trans (HB2.out.mono HB0.out.size)) (by omega) _ _ _ _ _
   ·go_wp2
    refine bodyPost_ret (v:=.tuple #[.agg #[.int .i32 0,.int .i32 0,.int .i32 0,.bool false,.bool false],.bool false]) (by simp [results,Tryz.results299,go_sem,d0,d1,d2,d3,d4,hz]) rfl ⟨?_,?_⟩
    ·rw [HK.out,if_pos (by have:=HN.out;omega),HY.out,if_neg (show ¬ (Sp.mk v0 v1 v2 v3 v4).rune<=x from Int.not_le.2 hlo)]
     rfl
    ·exact Am (Kp (HB0.out.trans (HB2.out.mono HB0.out.size)) (by omega) _ _ _ _ _) (Nat.le_refl _) _
 ·have hkz:¬ (k:Int)<(n:Int):=by omega
  have HB1:=jH hb1
  have hz:w.heap.size+1+1+1<w1.heap.size:=(by have:=hb1.size;have:=HS.out;omega)
  clear hb1
  go_wp2
  refine bodyPost_ret (v:=.tuple #[.agg #[.int .i32 0,.int .i32 0,.int .i32 0,.bool false,.bool false],.bool false]) (by simp [results,Tryz.results299,go_sem,d0,d1,d2,d3,d4,hz]) rfl ⟨?_,?_⟩
  ·rw [HK.out,if_neg (by have:=HN.out;omega)]
   rfl
  ·exact Am (Kp (HB0.out.trans (HB1.out.mono HB0.out.size)) (by omega) _ _ _ _ _) (Nat.le_refl _) _
end
end Go.Proofs.YtpcgbgfpnhiihaaGreatDoor
