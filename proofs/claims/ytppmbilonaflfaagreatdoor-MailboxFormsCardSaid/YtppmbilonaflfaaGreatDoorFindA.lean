import Derived.Test.YtppmbilonaflfaaGreatDoorGround
set_option maxHeartbeats 4000000
namespace Go.Proofs.YtppmbilonaflfaaGreatDoor
section
open Go.RowKit
def Kb (x:Rg):List Value:=[.int .i32 x.lo,.int .i32 x.hi,.int .i64 x.cat,.int .i64 x.bidi,.int .i64 x.join,.int .i64 x.script]
theorem Aru (v0 v1 v2 v3 v4 v5:Int) (w:World) :
  Calls Tryz.prog 291 #[.agg #[.int .i32 v0,.int .i32 v1,.int .i64 v2,.int .i64 v3,.int .i64 v4,.int .i64 v5]] w λe w'=>e=.returned (.tuple #[.int .i32 v0,.int .i32 v1])/\Below w.heap.size w w':=by
 go_enter Tryz.func291,Tryz.ntmps291
 go_wp2
 go_quiet (fail)
 go_wp2
 go_ret2
 exact ⟨rfl,below_drewN ((Below.refl _ _).alloc (Nat.le_refl _) _) _⟩
theorem Ane (be br bx b n:Nat) (y:Rg) (x:Int) (i:Nat) (W:World) (hi:i<n)
  (he:W.cell? ⟨be,0,none⟩=some (.func (.func 291) #[] #[])) (ha:W.cell? ⟨br,0,none⟩=some (.slice (some ⟨b,0,none⟩) n n)) (hx:W.cell? ⟨bx,0,none⟩=some (.int .i32 x))
  (hbx:bx<W.heap.size) (h0:W.cell? ⟨b,i*6,none⟩=some (.int .i32 y.lo)) (h1:W.cell? ⟨b,i*6+1,none⟩=some (.int .i32 y.hi)) (h2:W.cell? ⟨b,i*6+2,none⟩=some (.int .i64 y.cat)) (h3:W.cell? ⟨b,i*6+3,none⟩=some (.int .i64 y.bidi)) (h4:W.cell? ⟨b,i*6+4,none⟩=some (.int .i64 y.join)) (h5:W.cell? ⟨b,i*6+5,none⟩=some (.int .i64 y.script)) :
  Calls Tryz.prog 333 (#[.int .i64 i] ++ #[.pointer (some ⟨be,0,none⟩),.pointer (some ⟨br,0,none⟩),.pointer (some ⟨bx,0,none⟩)]) W λe w'=>e=.returned (.bool (decide (x<=y.hi)))/\Below W.heap.size W w':=by
 obtain ⟨v0,v1,v2,v3,v4,v5⟩:=y
 have hiz:(i:Int)<(n:Int):=by omega
 have H:=Lib.hid (λW=>Aru v0 v1 v2 v3 v4 v5 W)
 go_enter Tryz.func333,Tryz.ntmps333
 go_wp2_with fail
 go_region_with ((go_at_call 291;refine (H.out _).mono ?_;rintro e w' ⟨rfl,hb⟩;have hx':w'.cell? ⟨bx,0,none⟩=some (.int .i32 x):=(hb.cell (p:=⟨bx,0,none⟩) hbx).trans hx;have HB:=Lib.hid hb;clear hb))
 all_goals go_wp2
 all_goals go_ret
 all_goals exact ⟨rfl,Ai HB.out⟩
def V9 (rows:List Rg) (x:Int) (w:World) (e:Ending) (w':World):Prop :=
 e=.returned (.tuple #[.agg (Kb ((Gw Rg.lo Rg.hi rows x).getD default)).toArray,.bool (Gw Rg.lo Rg.hi rows x).isSome])/\Below w.heap.size w w'
theorem Al3 (b n:Nat) (x:Int) (w W0:World)
  (hW0:W0=(((w.alloc (.cells #[.slice (some ⟨b,0,none⟩) n n] 26)).alloc (.cells #[.int .i32 x] 21)).alloc (.cells #[.func (.func 291) #[] #[]] 275)).alloc (.cells #[.int .i32 0,.int .i32 0,.int .i64 0,.int .i64 0,.int .i64 0,.int .i64 0] 82)) :
  W0.heap.size=w.heap.size+1+1+1+1/\Below w.heap.size w W0/\W0.cell? ⟨w.heap.size,0,none⟩=some (.slice (some ⟨b,0,none⟩) n n)/\W0.cell? ⟨w.heap.size+1,0,none⟩=some (.int .i32 x)/\W0.cell? ⟨w.heap.size+1+1,0,none⟩=some (.func (.func 291) #[] #[]) /\
  (∀ o,W0.frozen? ⟨w.heap.size+1+1+1,o,none⟩=false)/\W0.cell? ⟨w.heap.size+1+1+1,0,none⟩=some (.int .i32 0)/\W0.cell? ⟨w.heap.size+1+1+1,1,none⟩=some (.int .i32 0)/\W0.cell? ⟨w.heap.size+1+1+1,2,none⟩=some (.int .i64 0)/\W0.cell? ⟨w.heap.size+1+1+1,3,none⟩=some (.int .i64 0)/\W0.cell? ⟨w.heap.size+1+1+1,4,none⟩=some (.int .i64 0)/\W0.cell? ⟨w.heap.size+1+1+1,5,none⟩=some (.int .i64 0):=by
 subst hW0
 refine ⟨by simp,((((Below.refl _ w).alloc (Nat.le_refl _) _).alloc (by simp) _).alloc (by simp;omega) _).alloc (by simp;omega) _,?_,?_,?_,?_,?_,?_,?_,?_,?_,?_⟩<;>first | (go_simp;done) | (intro o;go_simp;done)
theorem Uy {B S:Nat} {a w:World} (h:Below B a w) (hS:B<=S) (u0 u1 u2 u3 u4 u5:Value) :
  Below B a ((((((w.setCell ⟨S,0,none⟩ u0).setCell ⟨S,1,none⟩ u1).setCell ⟨S,2,none⟩ u2).setCell ⟨S,3,none⟩ u3).setCell ⟨S,4,none⟩ u4).setCell ⟨S,5,none⟩ u5) :=
 ((((((h.setCell (p:=⟨S,0,none⟩) hS u0).setCell (p:=⟨S,1,none⟩) hS u1).setCell (p:=⟨S,2,none⟩) hS u2).setCell (p:=⟨S,3,none⟩) hS u3).setCell (p:=⟨S,4,none⟩) hS u4).setCell (p:=⟨S,5,none⟩) hS u5)
theorem Ti (b n:Nat) (x:Int) (w W0 W:World)
  (hW0:W0=(((w.alloc (.cells #[.slice (some ⟨b,0,none⟩) n n] 26)).alloc (.cells #[.int .i32 x] 21)).alloc (.cells #[.func (.func 291) #[] #[]] 275)).alloc (.cells #[.int .i32 0,.int .i32 0,.int .i64 0,.int .i64 0,.int .i64 0,.int .i64 0] 82))
  (hb:Below W0.heap.size W0 W) :
  W.cell? ⟨w.heap.size,0,none⟩=some (.slice (some ⟨b,0,none⟩) n n)/\W.cell? ⟨w.heap.size+1,0,none⟩=some (.int .i32 x)/\W.cell? ⟨w.heap.size+1+1,0,none⟩=some (.func (.func 291) #[] #[]) /\
  (∀ o,W.frozen? ⟨w.heap.size+1+1+1,o,none⟩=false)/\W.cell? ⟨w.heap.size+1+1+1,0,none⟩=some (.int .i32 0)/\W.cell? ⟨w.heap.size+1+1+1,1,none⟩=some (.int .i32 0)/\W.cell? ⟨w.heap.size+1+1+1,2,none⟩=some (.int .i64 0)/\W.cell? ⟨w.heap.size+1+1+1,3,none⟩=some (.int .i64 0)/\W.cell? ⟨w.heap.size+1+1+1,4,none⟩=some (.int .i64 0)/\W.cell? ⟨w.heap.size+1+1+1,5,none⟩=some (.int .i64 0):=by
 obtain ⟨hS,-,c0,c1,c2,fz,d0,d1,d2,d3,d4,d5⟩:=Al3 b n x w W0 hW0
 have h0:w.heap.size<W0.heap.size:=by omega
 have h1:w.heap.size+1<W0.heap.size:=by omega
 have h2:w.heap.size+1+1<W0.heap.size:=by omega
 have h3:w.heap.size+1+1+1<W0.heap.size:=by omega
 exact ⟨(hb.cell (p:=⟨w.heap.size,0,none⟩) h0).trans c0,(hb.cell (p:=⟨w.heap.size+1,0,none⟩) h1).trans c1,(hb.cell (p:=⟨w.heap.size+1+1,0,none⟩) h2).trans c2,
  λo=>(hb.frozen (p:=⟨w.heap.size+1+1+1,o,none⟩) h3).trans (fz o),(hb.cell (p:=⟨w.heap.size+1+1+1,0,none⟩) h3).trans d0,(hb.cell (p:=⟨w.heap.size+1+1+1,1,none⟩) h3).trans d1,(hb.cell (p:=⟨w.heap.size+1+1+1,2,none⟩) h3).trans d2,(hb.cell (p:=⟨w.heap.size+1+1+1,3,none⟩) h3).trans d3,(hb.cell (p:=⟨w.heap.size+1+1+1,4,none⟩) h3).trans d4,(hb.cell (p:=⟨w.heap.size+1+1+1,5,none⟩) h3).trans d5⟩
theorem Auf {rows:List Rg} {b:Nat} {w:World} (h:Jr Kb 6 rows b w) (k:Nat) (hk:k<rows.length) (y:Rg) (hy:rows[k]! = y) :
  w.cell? ⟨b,k*6,none⟩=some (.int .i32 y.lo)/\w.cell? ⟨b,k*6+1,none⟩=some (.int .i32 y.hi)/\w.cell? ⟨b,k*6+2,none⟩=some (.int .i64 y.cat)/\w.cell? ⟨b,k*6+3,none⟩=some (.int .i64 y.bidi)/\w.cell? ⟨b,k*6+4,none⟩=some (.int .i64 y.join)/\w.cell? ⟨b,k*6+5,none⟩=some (.int .i64 y.script):=by
 have:=h.2 k hk
 rw [hy] at this
 exact ⟨this 0 _ rfl,this 1 _ rfl,this 2 _ rfl,this 3 _ rfl,this 4 _ rfl,this 5 _ rfl⟩
set_option maxRecDepth 100000 in
theorem Ax2 (b n:Nat) (rows:List Rg) (x:Int) (w:World) (hn:n=rows.length) (hl:Jr Kb 6 rows b w) (hrise:rising Rg.lo Rg.hi rows=true) (hsz:n<4611686018427387904) :
  Calls Tryz.prog 290 #[.slice (some ⟨b,0,none⟩) n n,.int .i32 x,.func (.func 291) #[] #[]] w (V9 rows x w):=by
 obtain ⟨W0,hW0⟩:∃ W0,W0=(((w.alloc (.cells #[.slice (some ⟨b,0,none⟩) n n] 26)).alloc (.cells #[.int .i32 x] 21)).alloc (.cells #[.func (.func 291) #[] #[]] 275)).alloc (.cells #[.int .i32 0,.int .i32 0,.int .i64 0,.int .i64 0,.int .i64 0,.int .i64 0] 82):=⟨_,rfl⟩
 obtain ⟨hS,hB0,-⟩:=Al3 b n x w W0 hW0
 have hl0:=hl.below hB0
 have eg:∀ args w,(callFunc 333 args).run Tryz.prog w=.ok (.enter 333 args) w:=enters_of Tryz.func333 (by kernel_rfl) rfl
 have hSch:=Ld 333 #[.pointer (some ⟨w.heap.size+1+1,0,none⟩),.pointer (some ⟨w.heap.size,0,none⟩),.pointer (some ⟨w.heap.size+1,0,none⟩)] n (λi=>decide (x<=rows[i]!.hi)) W0 W0 (Below.refl _ _) eg hsz
  (λW i hb hi=>by
   obtain ⟨e0,e1,e2,e3,e4,e5⟩:=Auf (hl0.below hb) i (by omega) rows[i]! rfl
   obtain ⟨a0,a1,a2,-⟩:=Ti b n x w W0 W hW0 hb
   refine (Ane (w.heap.size+1+1) w.heap.size (w.heap.size+1) b n rows[i]! x i W hi a2 a0 a1 (by have:=hb.size;omega) e0 e1 e2 e3 e4 e5).mono λe w' h=>⟨h.1,hb.trans (h.2.mono hb.size)⟩)
  (λa c hac hc h=>by have:=Ht hrise a c hac (by omega);simp only [decide_eq_true_eq] at h ⊢;omega)
 have HN:=Lib.hid hn
 have HS:=Lib.hid hS
 have HW:=Lib.hid hW0
 have HB0:=Lib.hid hB0
 have HL:=Lib.hid hl0
 clear hn hS hB0 hl0 hl eg hrise
 go_enter Tryz.func290,Tryz.ntmps290
 go_wp2_with fail
 rw [<- hW0]
 refine hSch.mono ?_
 rintro e w1 ⟨k,hk,k1,k2,rfl,hb1⟩
 have HK:=Lib.hid (Qo (lo:=Rg.lo) (hi:=Rg.hi) x rows k (by have:=HN.out;omega) k1 (by rw [<- HN.out];exact k2))
 clear hSch k1 k2 hW0
 obtain ⟨a0,a1,a2,fz,d0,d1,d2,d3,d4,d5⟩:=Ti b n x w W0 w1 HW.out hb1
 by_cases hlt:k<n
 ·have hkz:(k:Int)<(n:Int):=by omega
  obtain ⟨e0,e1,e2,e3,e4,e5⟩:=Auf (HL.out.below hb1) k (by have:=HN.out;omega) rows[k]! rfl
  generalize hy:rows[k]! = y at e0 e1 e2 e3 e4 e5
  obtain ⟨v0,v1,v2,v3,v4,v5⟩:=y
  have HY:=Lib.hid hy
  have HB1:=Lib.hid hb1
  have H:=Lib.hid (λW=>Aru v0 v1 v2 v3 v4 v5 W)
  clear hy hb1 fz d0 d1 d2 d3 d4 d5
  go_wp2_with fail
  go_region_with ((go_at_call 291;refine (H.out _).mono ?_;rintro e w2 ⟨rfl,hb2⟩;have hb3:=HB1.out.trans ((Ai hb2).mono HB1.out.size);obtain ⟨b0,b1,b2,fz,d0,d1,d2,d3,d4,d5⟩:=Ti b n x w W0 w2 HW.out hb3;obtain ⟨f0,f1,f2,f3,f4,f5⟩:=Auf (HL.out.below hb3) k (by have:=HN.out;omega) _ HY.out;have HB2:=Lib.hid hb3;have hz:w.heap.size+1+1+1<w2.heap.size:=(by have:=hb3.size;have:=HS.out;omega);clear hb2 hb3 e0 e1 e2 e3 e4 e5 a0 a1 a2))
  all_goals
   by_cases hlo:v0<=x
   ·go_wp2
    refine bodyPost_ret (v:=.tuple #[.agg #[.int .i32 v0,.int .i32 v1,.int .i64 v2,.int .i64 v3,.int .i64 v4,.int .i64 v5],.bool true]) (by simp [results,Tryz.results290,go_sem,d0,d1,d2,d3,d4,d5]) rfl ⟨?_,?_⟩
    ·rw [HK.out,if_pos (by have:=HN.out;omega),HY.out,if_pos (show (Rg.mk v0 v1 v2 v3 v4 v5).lo<=x from hlo)]
     rfl
    ·exact Uy (HB0.out.trans (HB2.out.mono HB0.out.size)) (by omega) _ _ _ _ _ _
   ·go_wp2
    refine bodyPost_ret (v:=.tuple #[.agg #[.int .i32 0,.int .i32 0,.int .i64 0,.int .i64 0,.int .i64 0,.int .i64 0],.bool false]) (by simp [results,Tryz.results290,go_sem,d0,d1,d2,d3,d4,d5,hz]) rfl ⟨?_,?_⟩
    ·rw [HK.out,if_pos (by have:=HN.out;omega),HY.out,if_neg (show ¬ (Rg.mk v0 v1 v2 v3 v4 v5).lo<=x from Int.not_le.2 hlo)]
     rfl
    ·exact Am (Uy (HB0.out.trans (HB2.out.mono HB0.out.size)) (by omega) _ _ _ _ _ _) (Nat.le_refl _) _
 ·have hkz:¬ (k:Int)<(n:Int):=by omega
  have HB1:=Lib.hid hb1
  have hz:w.heap.size+1+1+1<w1.heap.size:=(by have:=hb1.size;have:=HS.out;omega)
  clear hb1
  go_wp2
  refine bodyPost_ret (v:=.tuple #[.agg #[.int .i32 0,.int .i32 0,.int .i64 0,.int .i64 0,.int .i64 0,.int .i64 0],.bool false]) (by simp [results,Tryz.results290,go_sem,d0,d1,d2,d3,d4,d5,hz]) rfl ⟨?_,?_⟩
  ·rw [HK.out,if_neg (by have:=HN.out;omega)]
   rfl
  ·exact Am (Uy (HB0.out.trans (HB1.out.mono HB0.out.size)) (by omega) _ _ _ _ _ _) (Nat.le_refl _) _
end
section
open Go.RowKit
def Rm (x:Cl):List Value:=[.int .i32 x.lo,.int .i32 x.hi,.int .i64 x.cls,.int .i64 x.step]
theorem Aq6 (v0 v1 v2 v3:Int) (w:World) :
  Calls Tryz.prog 328 #[.agg #[.int .i32 v0,.int .i32 v1,.int .i64 v2,.int .i64 v3]] w λe w'=>e=.returned (.tuple #[.int .i32 v0,.int .i32 v1])/\Below w.heap.size w w':=by
 go_enter Tryz.func328,Tryz.ntmps328
 go_wp2
 go_quiet (fail)
 go_wp2
 go_ret2
 exact ⟨rfl,below_drewN ((Below.refl _ _).alloc (Nat.le_refl _) _) _⟩
theorem Ao2 (be br bx b n:Nat) (y:Cl) (x:Int) (i:Nat) (W:World) (hi:i<n)
  (he:W.cell? ⟨be,0,none⟩=some (.func (.func 328) #[] #[])) (ha:W.cell? ⟨br,0,none⟩=some (.slice (some ⟨b,0,none⟩) n n)) (hx:W.cell? ⟨bx,0,none⟩=some (.int .i32 x))
  (hbx:bx<W.heap.size) (h0:W.cell? ⟨b,i*4,none⟩=some (.int .i32 y.lo)) (h1:W.cell? ⟨b,i*4+1,none⟩=some (.int .i32 y.hi)) (h2:W.cell? ⟨b,i*4+2,none⟩=some (.int .i64 y.cls)) (h3:W.cell? ⟨b,i*4+3,none⟩=some (.int .i64 y.step)) :
  Calls Tryz.prog 355 (#[.int .i64 i] ++ #[.pointer (some ⟨be,0,none⟩),.pointer (some ⟨br,0,none⟩),.pointer (some ⟨bx,0,none⟩)]) W λe w'=>e=.returned (.bool (decide (x<=y.hi)))/\Below W.heap.size W w':=by
 obtain ⟨v0,v1,v2,v3⟩:=y
 have hiz:(i:Int)<(n:Int):=by omega
 have H:=Lib.hid (λW=>Aq6 v0 v1 v2 v3 W)
 go_enter Tryz.func355,Tryz.ntmps355
 go_wp2_with fail
 go_region_with ((go_at_call 328;refine (H.out _).mono ?_;rintro e w' ⟨rfl,hb⟩;have hx':w'.cell? ⟨bx,0,none⟩=some (.int .i32 x):=(hb.cell (p:=⟨bx,0,none⟩) hbx).trans hx;have HB:=Lib.hid hb;clear hb))
 all_goals go_wp2
 all_goals go_ret
 all_goals exact ⟨rfl,Ai HB.out⟩
def Yn (rows:List Cl) (x:Int) (w:World) (e:Ending) (w':World):Prop :=
 e=.returned (.tuple #[.agg (Rm ((Gw Cl.lo Cl.hi rows x).getD default)).toArray,.bool (Gw Cl.lo Cl.hi rows x).isSome])/\Below w.heap.size w w'
theorem Ame (b n:Nat) (x:Int) (w W0:World)
  (hW0:W0=(((w.alloc (.cells #[.slice (some ⟨b,0,none⟩) n n] 27)).alloc (.cells #[.int .i32 x] 21)).alloc (.cells #[.func (.func 328) #[] #[]] 299)).alloc (.cells #[.int .i32 0,.int .i32 0,.int .i64 0,.int .i64 0] 84)) :
  W0.heap.size=w.heap.size+1+1+1+1/\Below w.heap.size w W0/\W0.cell? ⟨w.heap.size,0,none⟩=some (.slice (some ⟨b,0,none⟩) n n)/\W0.cell? ⟨w.heap.size+1,0,none⟩=some (.int .i32 x)/\W0.cell? ⟨w.heap.size+1+1,0,none⟩=some (.func (.func 328) #[] #[]) /\
  (∀ o,W0.frozen? ⟨w.heap.size+1+1+1,o,none⟩=false)/\W0.cell? ⟨w.heap.size+1+1+1,0,none⟩=some (.int .i32 0)/\W0.cell? ⟨w.heap.size+1+1+1,1,none⟩=some (.int .i32 0)/\W0.cell? ⟨w.heap.size+1+1+1,2,none⟩=some (.int .i64 0)/\W0.cell? ⟨w.heap.size+1+1+1,3,none⟩=some (.int .i64 0):=by
 subst hW0
 refine ⟨by simp,((((Below.refl _ w).alloc (Nat.le_refl _) _).alloc (by simp) _).alloc (by simp;omega) _).alloc (by simp;omega) _,?_,?_,?_,?_,?_,?_,?_,?_⟩<;>first | (go_simp;done) | (intro o;go_simp;done)
theorem Adk {B S:Nat} {a w:World} (h:Below B a w) (hS:B<=S) (u0 u1 u2 u3:Value) :
  Below B a ((((w.setCell ⟨S,0,none⟩ u0).setCell ⟨S,1,none⟩ u1).setCell ⟨S,2,none⟩ u2).setCell ⟨S,3,none⟩ u3) :=
 ((((h.setCell (p:=⟨S,0,none⟩) hS u0).setCell (p:=⟨S,1,none⟩) hS u1).setCell (p:=⟨S,2,none⟩) hS u2).setCell (p:=⟨S,3,none⟩) hS u3)
theorem Rz (b n:Nat) (x:Int) (w W0 W:World)
  (hW0:W0=(((w.alloc (.cells #[.slice (some ⟨b,0,none⟩) n n] 27)).alloc (.cells #[.int .i32 x] 21)).alloc (.cells #[.func (.func 328) #[] #[]] 299)).alloc (.cells #[.int .i32 0,.int .i32 0,.int .i64 0,.int .i64 0] 84))
  (hb:Below W0.heap.size W0 W) :
  W.cell? ⟨w.heap.size,0,none⟩=some (.slice (some ⟨b,0,none⟩) n n)/\W.cell? ⟨w.heap.size+1,0,none⟩=some (.int .i32 x)/\W.cell? ⟨w.heap.size+1+1,0,none⟩=some (.func (.func 328) #[] #[]) /\
  (∀ o,W.frozen? ⟨w.heap.size+1+1+1,o,none⟩=false)/\W.cell? ⟨w.heap.size+1+1+1,0,none⟩=some (.int .i32 0)/\W.cell? ⟨w.heap.size+1+1+1,1,none⟩=some (.int .i32 0)/\W.cell? ⟨w.heap.size+1+1+1,2,none⟩=some (.int .i64 0)/\W.cell? ⟨w.heap.size+1+1+1,3,none⟩=some (.int .i64 0):=by
 obtain ⟨hS,-,c0,c1,c2,fz,d0,d1,d2,d3⟩:=Ame b n x w W0 hW0
 have h0:w.heap.size<W0.heap.size:=by omega
 have h1:w.heap.size+1<W0.heap.size:=by omega
 have h2:w.heap.size+1+1<W0.heap.size:=by omega
 have h3:w.heap.size+1+1+1<W0.heap.size:=by omega
 exact ⟨(hb.cell (p:=⟨w.heap.size,0,none⟩) h0).trans c0,(hb.cell (p:=⟨w.heap.size+1,0,none⟩) h1).trans c1,(hb.cell (p:=⟨w.heap.size+1+1,0,none⟩) h2).trans c2,
  λo=>(hb.frozen (p:=⟨w.heap.size+1+1+1,o,none⟩) h3).trans (fz o),(hb.cell (p:=⟨w.heap.size+1+1+1,0,none⟩) h3).trans d0,(hb.cell (p:=⟨w.heap.size+1+1+1,1,none⟩) h3).trans d1,(hb.cell (p:=⟨w.heap.size+1+1+1,2,none⟩) h3).trans d2,(hb.cell (p:=⟨w.heap.size+1+1+1,3,none⟩) h3).trans d3⟩
theorem At1 {rows:List Cl} {b:Nat} {w:World} (h:Jr Rm 4 rows b w) (k:Nat) (hk:k<rows.length) (y:Cl) (hy:rows[k]! = y) :
  w.cell? ⟨b,k*4,none⟩=some (.int .i32 y.lo)/\w.cell? ⟨b,k*4+1,none⟩=some (.int .i32 y.hi)/\w.cell? ⟨b,k*4+2,none⟩=some (.int .i64 y.cls)/\w.cell? ⟨b,k*4+3,none⟩=some (.int .i64 y.step):=by
 have:=h.2 k hk
 rw [hy] at this
 exact ⟨this 0 _ rfl,this 1 _ rfl,this 2 _ rfl,this 3 _ rfl⟩
set_option maxRecDepth 100000 in
theorem Axg (b n:Nat) (rows:List Cl) (x:Int) (w:World) (hn:n=rows.length) (hl:Jr Rm 4 rows b w) (hrise:rising Cl.lo Cl.hi rows=true) (hsz:n<4611686018427387904) :
  Calls Tryz.prog 327 #[.slice (some ⟨b,0,none⟩) n n,.int .i32 x,.func (.func 328) #[] #[]] w (Yn rows x w):=by
 obtain ⟨W0,hW0⟩:∃ W0,W0=(((w.alloc (.cells #[.slice (some ⟨b,0,none⟩) n n] 27)).alloc (.cells #[.int .i32 x] 21)).alloc (.cells #[.func (.func 328) #[] #[]] 299)).alloc (.cells #[.int .i32 0,.int .i32 0,.int .i64 0,.int .i64 0] 84):=⟨_,rfl⟩
 obtain ⟨hS,hB0,-⟩:=Ame b n x w W0 hW0
 have hl0:=hl.below hB0
 have eg:∀ args w,(callFunc 355 args).run Tryz.prog w=.ok (.enter 355 args) w:=enters_of Tryz.func355 (by kernel_rfl) rfl
 have hSch:=Ld 355 #[.pointer (some ⟨w.heap.size+1+1,0,none⟩),.pointer (some ⟨w.heap.size,0,none⟩),.pointer (some ⟨w.heap.size+1,0,none⟩)] n (λi=>decide (x<=rows[i]!.hi)) W0 W0 (Below.refl _ _) eg hsz
  (λW i hb hi=>by
   obtain ⟨e0,e1,e2,e3⟩:=At1 (hl0.below hb) i (by omega) rows[i]! rfl
   obtain ⟨a0,a1,a2,-⟩:=Rz b n x w W0 W hW0 hb
   refine (Ao2 (w.heap.size+1+1) w.heap.size (w.heap.size+1) b n rows[i]! x i W hi a2 a0 a1 (by have:=hb.size;omega) e0 e1 e2 e3).mono λe w' h=>⟨h.1,hb.trans (h.2.mono hb.size)⟩)
  (λa c hac hc h=>by have:=Ht hrise a c hac (by omega);simp only [decide_eq_true_eq] at h ⊢;omega)
 have HN:=Lib.hid hn
 have HS:=Lib.hid hS
 have HW:=Lib.hid hW0
 have HB0:=Lib.hid hB0
 have HL:=Lib.hid hl0
 clear hn hS hB0 hl0 hl eg hrise
 go_enter Tryz.func327,Tryz.ntmps327
 go_wp2_with fail
 rw [<- hW0]
 refine hSch.mono ?_
 rintro e w1 ⟨k,hk,k1,k2,rfl,hb1⟩
 have HK:=Lib.hid (Qo (lo:=Cl.lo) (hi:=Cl.hi) x rows k (by have:=HN.out;omega) k1 (by rw [<- HN.out];exact k2))
 clear hSch k1 k2 hW0
 obtain ⟨a0,a1,a2,fz,d0,d1,d2,d3⟩:=Rz b n x w W0 w1 HW.out hb1
 by_cases hlt:k<n
 ·have hkz:(k:Int)<(n:Int):=by omega
  obtain ⟨e0,e1,e2,e3⟩:=At1 (HL.out.below hb1) k (by have:=HN.out;omega) rows[k]! rfl
  generalize hy:rows[k]! = y at e0 e1 e2 e3
  obtain ⟨v0,v1,v2,v3⟩:=y
  have HY:=Lib.hid hy
  have HB1:=Lib.hid hb1
  have H:=Lib.hid (λW=>Aq6 v0 v1 v2 v3 W)
  clear hy hb1 fz d0 d1 d2 d3
  go_wp2_with fail
  go_region_with ((go_at_call 328;refine (H.out _).mono ?_;rintro e w2 ⟨rfl,hb2⟩;have hb3:=HB1.out.trans ((Ai hb2).mono HB1.out.size);obtain ⟨b0,b1,b2,fz,d0,d1,d2,d3⟩:=Rz b n x w W0 w2 HW.out hb3;obtain ⟨f0,f1,f2,f3⟩:=At1 (HL.out.below hb3) k (by have:=HN.out;omega) _ HY.out;have HB2:=Lib.hid hb3;have hz:w.heap.size+1+1+1<w2.heap.size:=(by have:=hb3.size;have:=HS.out;omega);clear hb2 hb3 e0 e1 e2 e3 a0 a1 a2))
  all_goals
   by_cases hlo:v0<=x
   ·go_wp2
    refine bodyPost_ret (v:=.tuple #[.agg #[.int .i32 v0,.int .i32 v1,.int .i64 v2,.int .i64 v3],.bool true]) (by simp [results,Tryz.results327,go_sem,d0,d1,d2,d3]) rfl ⟨?_,?_⟩
    ·rw [HK.out,if_pos (by have:=HN.out;omega),HY.out,if_pos (show (Cl.mk v0 v1 v2 v3).lo<=x from hlo)]
     rfl
    ·exact Adk (HB0.out.trans (HB2.out.mono HB0.out.size)) (by omega) _ _ _ _
   ·go_wp2
    refine bodyPost_ret (v:=.tuple #[.agg #[.int .i32 0,.int .i32 0,.int .i64 0,.int .i64 0],.bool false]) (by simp [results,Tryz.results327,go_sem,d0,d1,d2,d3,hz]) rfl ⟨?_,?_⟩
    ·rw [HK.out,if_pos (by have:=HN.out;omega),HY.out,if_neg (show ¬ (Cl.mk v0 v1 v2 v3).lo<=x from Int.not_le.2 hlo)]
     rfl
    ·exact Am (Adk (HB0.out.trans (HB2.out.mono HB0.out.size)) (by omega) _ _ _ _) (Nat.le_refl _) _
 ·have hkz:¬ (k:Int)<(n:Int):=by omega
  have HB1:=Lib.hid hb1
  have hz:w.heap.size+1+1+1<w1.heap.size:=(by have:=hb1.size;have:=HS.out;omega)
  clear hb1
  go_wp2
  refine bodyPost_ret (v:=.tuple #[.agg #[.int .i32 0,.int .i32 0,.int .i64 0,.int .i64 0],.bool false]) (by simp [results,Tryz.results327,go_sem,d0,d1,d2,d3,hz]) rfl ⟨?_,?_⟩
  ·rw [HK.out,if_neg (by have:=HN.out;omega)]
   rfl
  ·exact Am (Adk (HB0.out.trans (HB1.out.mono HB0.out.size)) (by omega) _ _ _ _) (Nat.le_refl _) _
end
section
open Go.RowKit
def Pu (x:Lw):List Value:=[.int .i32 x.lo,.int .i32 x.hi,.int .i32 x.far]
theorem At9 (v0 v1 v2:Int) (w:World) :
  Calls Tryz.prog 232 #[.agg #[.int .i32 v0,.int .i32 v1,.int .i32 v2]] w λe w'=>e=.returned (.tuple #[.int .i32 v0,.int .i32 v1])/\Below w.heap.size w w':=by
 go_enter Tryz.func232,Tryz.ntmps232
 go_wp2
 go_quiet (fail)
 go_wp2
 go_ret2
 exact ⟨rfl,below_drewN ((Below.refl _ _).alloc (Nat.le_refl _) _) _⟩
theorem Aod (be br bx b n:Nat) (y:Lw) (x:Int) (i:Nat) (W:World) (hi:i<n)
  (he:W.cell? ⟨be,0,none⟩=some (.func (.func 232) #[] #[])) (ha:W.cell? ⟨br,0,none⟩=some (.slice (some ⟨b,0,none⟩) n n)) (hx:W.cell? ⟨bx,0,none⟩=some (.int .i32 x))
  (hbx:bx<W.heap.size) (h0:W.cell? ⟨b,i*3,none⟩=some (.int .i32 y.lo)) (h1:W.cell? ⟨b,i*3+1,none⟩=some (.int .i32 y.hi)) (h2:W.cell? ⟨b,i*3+2,none⟩=some (.int .i32 y.far)) :
  Calls Tryz.prog 277 (#[.int .i64 i] ++ #[.pointer (some ⟨be,0,none⟩),.pointer (some ⟨br,0,none⟩),.pointer (some ⟨bx,0,none⟩)]) W λe w'=>e=.returned (.bool (decide (x<=y.hi)))/\Below W.heap.size W w':=by
 obtain ⟨v0,v1,v2⟩:=y
 have hiz:(i:Int)<(n:Int):=by omega
 have H:=Lib.hid (λW=>At9 v0 v1 v2 W)
 go_enter Tryz.func277,Tryz.ntmps277
 go_wp2_with fail
 go_region_with ((go_at_call 232;refine (H.out _).mono ?_;rintro e w' ⟨rfl,hb⟩;have hx':w'.cell? ⟨bx,0,none⟩=some (.int .i32 x):=(hb.cell (p:=⟨bx,0,none⟩) hbx).trans hx;have HB:=Lib.hid hb;clear hb))
 all_goals go_wp2
 all_goals go_ret
 all_goals exact ⟨rfl,Ai HB.out⟩
def Vx (rows:List Lw) (x:Int) (w:World) (e:Ending) (w':World):Prop :=
 e=.returned (.tuple #[.agg (Pu ((Gw Lw.lo Lw.hi rows x).getD default)).toArray,.bool (Gw Lw.lo Lw.hi rows x).isSome])/\Below w.heap.size w w'
theorem Amc (b n:Nat) (x:Int) (w W0:World)
  (hW0:W0=(((w.alloc (.cells #[.slice (some ⟨b,0,none⟩) n n] 28)).alloc (.cells #[.int .i32 x] 21)).alloc (.cells #[.func (.func 232) #[] #[]] 240)).alloc (.cells #[.int .i32 0,.int .i32 0,.int .i32 0] 86)) :
  W0.heap.size=w.heap.size+1+1+1+1/\Below w.heap.size w W0/\W0.cell? ⟨w.heap.size,0,none⟩=some (.slice (some ⟨b,0,none⟩) n n)/\W0.cell? ⟨w.heap.size+1,0,none⟩=some (.int .i32 x)/\W0.cell? ⟨w.heap.size+1+1,0,none⟩=some (.func (.func 232) #[] #[]) /\
  (∀ o,W0.frozen? ⟨w.heap.size+1+1+1,o,none⟩=false)/\W0.cell? ⟨w.heap.size+1+1+1,0,none⟩=some (.int .i32 0)/\W0.cell? ⟨w.heap.size+1+1+1,1,none⟩=some (.int .i32 0)/\W0.cell? ⟨w.heap.size+1+1+1,2,none⟩=some (.int .i32 0):=by
 subst hW0
 refine ⟨by simp,((((Below.refl _ w).alloc (Nat.le_refl _) _).alloc (by simp) _).alloc (by simp;omega) _).alloc (by simp;omega) _,?_,?_,?_,?_,?_,?_,?_⟩<;>first | (go_simp;done) | (intro o;go_simp;done)
theorem Ad4 {B S:Nat} {a w:World} (h:Below B a w) (hS:B<=S) (u0 u1 u2:Value) :
  Below B a (((w.setCell ⟨S,0,none⟩ u0).setCell ⟨S,1,none⟩ u1).setCell ⟨S,2,none⟩ u2) :=
 (((h.setCell (p:=⟨S,0,none⟩) hS u0).setCell (p:=⟨S,1,none⟩) hS u1).setCell (p:=⟨S,2,none⟩) hS u2)
theorem Sg (b n:Nat) (x:Int) (w W0 W:World)
  (hW0:W0=(((w.alloc (.cells #[.slice (some ⟨b,0,none⟩) n n] 28)).alloc (.cells #[.int .i32 x] 21)).alloc (.cells #[.func (.func 232) #[] #[]] 240)).alloc (.cells #[.int .i32 0,.int .i32 0,.int .i32 0] 86))
  (hb:Below W0.heap.size W0 W) :
  W.cell? ⟨w.heap.size,0,none⟩=some (.slice (some ⟨b,0,none⟩) n n)/\W.cell? ⟨w.heap.size+1,0,none⟩=some (.int .i32 x)/\W.cell? ⟨w.heap.size+1+1,0,none⟩=some (.func (.func 232) #[] #[]) /\
  (∀ o,W.frozen? ⟨w.heap.size+1+1+1,o,none⟩=false)/\W.cell? ⟨w.heap.size+1+1+1,0,none⟩=some (.int .i32 0)/\W.cell? ⟨w.heap.size+1+1+1,1,none⟩=some (.int .i32 0)/\W.cell? ⟨w.heap.size+1+1+1,2,none⟩=some (.int .i32 0):=by
 obtain ⟨hS,-,c0,c1,c2,fz,d0,d1,d2⟩:=Amc b n x w W0 hW0
 have h0:w.heap.size<W0.heap.size:=by omega
 have h1:w.heap.size+1<W0.heap.size:=by omega
 have h2:w.heap.size+1+1<W0.heap.size:=by omega
 have h3:w.heap.size+1+1+1<W0.heap.size:=by omega
 exact ⟨(hb.cell (p:=⟨w.heap.size,0,none⟩) h0).trans c0,(hb.cell (p:=⟨w.heap.size+1,0,none⟩) h1).trans c1,(hb.cell (p:=⟨w.heap.size+1+1,0,none⟩) h2).trans c2,
  λo=>(hb.frozen (p:=⟨w.heap.size+1+1+1,o,none⟩) h3).trans (fz o),(hb.cell (p:=⟨w.heap.size+1+1+1,0,none⟩) h3).trans d0,(hb.cell (p:=⟨w.heap.size+1+1+1,1,none⟩) h3).trans d1,(hb.cell (p:=⟨w.heap.size+1+1+1,2,none⟩) h3).trans d2⟩
theorem At6 {rows:List Lw} {b:Nat} {w:World} (h:Jr Pu 3 rows b w) (k:Nat) (hk:k<rows.length) (y:Lw) (hy:rows[k]! = y) :
  w.cell? ⟨b,k*3,none⟩=some (.int .i32 y.lo)/\w.cell? ⟨b,k*3+1,none⟩=some (.int .i32 y.hi)/\w.cell? ⟨b,k*3+2,none⟩=some (.int .i32 y.far):=by
 have:=h.2 k hk
 rw [hy] at this
 exact ⟨this 0 _ rfl,this 1 _ rfl,this 2 _ rfl⟩
set_option maxRecDepth 100000 in
theorem Aw5 (b n:Nat) (rows:List Lw) (x:Int) (w:World) (hn:n=rows.length) (hl:Jr Pu 3 rows b w) (hrise:rising Lw.lo Lw.hi rows=true) (hsz:n<4611686018427387904) :
  Calls Tryz.prog 231 #[.slice (some ⟨b,0,none⟩) n n,.int .i32 x,.func (.func 232) #[] #[]] w (Vx rows x w):=by
 obtain ⟨W0,hW0⟩:∃ W0,W0=(((w.alloc (.cells #[.slice (some ⟨b,0,none⟩) n n] 28)).alloc (.cells #[.int .i32 x] 21)).alloc (.cells #[.func (.func 232) #[] #[]] 240)).alloc (.cells #[.int .i32 0,.int .i32 0,.int .i32 0] 86):=⟨_,rfl⟩
 obtain ⟨hS,hB0,-⟩:=Amc b n x w W0 hW0
 have hl0:=hl.below hB0
 have eg:∀ args w,(callFunc 277 args).run Tryz.prog w=.ok (.enter 277 args) w:=enters_of Tryz.func277 (by kernel_rfl) rfl
 have hSch:=Ld 277 #[.pointer (some ⟨w.heap.size+1+1,0,none⟩),.pointer (some ⟨w.heap.size,0,none⟩),.pointer (some ⟨w.heap.size+1,0,none⟩)] n (λi=>decide (x<=rows[i]!.hi)) W0 W0 (Below.refl _ _) eg hsz
  (λW i hb hi=>by
   obtain ⟨e0,e1,e2⟩:=At6 (hl0.below hb) i (by omega) rows[i]! rfl
   obtain ⟨a0,a1,a2,-⟩:=Sg b n x w W0 W hW0 hb
   refine (Aod (w.heap.size+1+1) w.heap.size (w.heap.size+1) b n rows[i]! x i W hi a2 a0 a1 (by have:=hb.size;omega) e0 e1 e2).mono λe w' h=>⟨h.1,hb.trans (h.2.mono hb.size)⟩)
  (λa c hac hc h=>by have:=Ht hrise a c hac (by omega);simp only [decide_eq_true_eq] at h ⊢;omega)
 have HN:=Lib.hid hn
 have HS:=Lib.hid hS
 have HW:=Lib.hid hW0
 have HB0:=Lib.hid hB0
 have HL:=Lib.hid hl0
 clear hn hS hB0 hl0 hl eg hrise
 go_enter Tryz.func231,Tryz.ntmps231
 go_wp2_with fail
 rw [<- hW0]
 refine hSch.mono ?_
 rintro e w1 ⟨k,hk,k1,k2,rfl,hb1⟩
 have HK:=Lib.hid (Qo (lo:=Lw.lo) (hi:=Lw.hi) x rows k (by have:=HN.out;omega) k1 (by rw [<- HN.out];exact k2))
 clear hSch k1 k2 hW0
 obtain ⟨a0,a1,a2,fz,d0,d1,d2⟩:=Sg b n x w W0 w1 HW.out hb1
 by_cases hlt:k<n
 ·have hkz:(k:Int)<(n:Int):=by omega
  obtain ⟨e0,e1,e2⟩:=At6 (HL.out.below hb1) k (by have:=HN.out;omega) rows[k]! rfl
  generalize hy:rows[k]! = y at e0 e1 e2
  obtain ⟨v0,v1,v2⟩:=y
  have HY:=Lib.hid hy
  have HB1:=Lib.hid hb1
  have H:=Lib.hid (λW=>At9 v0 v1 v2 W)
  clear hy hb1 fz d0 d1 d2
  go_wp2_with fail
  go_region_with ((go_at_call 232;refine (H.out _).mono ?_;rintro e w2 ⟨rfl,hb2⟩;have hb3:=HB1.out.trans ((Ai hb2).mono HB1.out.size);obtain ⟨b0,b1,b2,fz,d0,d1,d2⟩:=Sg b n x w W0 w2 HW.out hb3;obtain ⟨f0,f1,f2⟩:=At6 (HL.out.below hb3) k (by have:=HN.out;omega) _ HY.out;have HB2:=Lib.hid hb3;have hz:w.heap.size+1+1+1<w2.heap.size:=(by have:=hb3.size;have:=HS.out;omega);clear hb2 hb3 e0 e1 e2 a0 a1 a2))
  all_goals
   by_cases hlo:v0<=x
   ·go_wp2
    refine bodyPost_ret (v:=.tuple #[.agg #[.int .i32 v0,.int .i32 v1,.int .i32 v2],.bool true]) (by simp [results,Tryz.results231,go_sem,d0,d1,d2]) rfl ⟨?_,?_⟩
    ·rw [HK.out,if_pos (by have:=HN.out;omega),HY.out,if_pos (show (Lw.mk v0 v1 v2).lo<=x from hlo)]
     rfl
    ·exact Ad4 (HB0.out.trans (HB2.out.mono HB0.out.size)) (by omega) _ _ _
   ·go_wp2
    refine bodyPost_ret (v:=.tuple #[.agg #[.int .i32 0,.int .i32 0,.int .i32 0],.bool false]) (by simp [results,Tryz.results231,go_sem,d0,d1,d2,hz]) rfl ⟨?_,?_⟩
    ·rw [HK.out,if_pos (by have:=HN.out;omega),HY.out,if_neg (show ¬ (Lw.mk v0 v1 v2).lo<=x from Int.not_le.2 hlo)]
     rfl
    ·exact Am (Ad4 (HB0.out.trans (HB2.out.mono HB0.out.size)) (by omega) _ _ _) (Nat.le_refl _) _
 ·have hkz:¬ (k:Int)<(n:Int):=by omega
  have HB1:=Lib.hid hb1
  have hz:w.heap.size+1+1+1<w1.heap.size:=(by have:=hb1.size;have:=HS.out;omega)
  clear hb1
  go_wp2
  refine bodyPost_ret (v:=.tuple #[.agg #[.int .i32 0,.int .i32 0,.int .i32 0],.bool false]) (by simp [results,Tryz.results231,go_sem,d0,d1,d2,hz]) rfl ⟨?_,?_⟩
  ·rw [HK.out,if_neg (by have:=HN.out;omega)]
   rfl
  ·exact Am (Ad4 (HB0.out.trans (HB1.out.mono HB0.out.size)) (by omega) _ _ _) (Nat.le_refl _) _
end
section
open Go.RowKit
def Ft (x:Sp):List Value:=[.int .i32 x.rune,.int .i32 x.one,.int .i32 x.two,.bool x.soft,.bool x.out]
theorem Aq3 (v0 v1 v2:Int) (v3 v4:Bool) (w:World) :
  Calls Tryz.prog 279 #[.agg #[.int .i32 v0,.int .i32 v1,.int .i32 v2,.bool v3,.bool v4]] w λe w'=>e=.returned (.tuple #[.int .i32 v0,.int .i32 v0])/\Below w.heap.size w w':=by
 go_enter Tryz.func279,Tryz.ntmps279
 go_wp2
 go_quiet (fail)
 go_wp2
 go_ret2
 exact ⟨rfl,below_drewN ((Below.refl _ _).alloc (Nat.le_refl _) _) _⟩
theorem Am6 (be br bx b n:Nat) (y:Sp) (x:Int) (i:Nat) (W:World) (hi:i<n)
  (he:W.cell? ⟨be,0,none⟩=some (.func (.func 279) #[] #[])) (ha:W.cell? ⟨br,0,none⟩=some (.slice (some ⟨b,0,none⟩) n n)) (hx:W.cell? ⟨bx,0,none⟩=some (.int .i32 x))
  (hbx:bx<W.heap.size) (h0:W.cell? ⟨b,i*5,none⟩=some (.int .i32 y.rune)) (h1:W.cell? ⟨b,i*5+1,none⟩=some (.int .i32 y.one)) (h2:W.cell? ⟨b,i*5+2,none⟩=some (.int .i32 y.two)) (h3:W.cell? ⟨b,i*5+3,none⟩=some (.bool y.soft)) (h4:W.cell? ⟨b,i*5+4,none⟩=some (.bool y.out)) :
  Calls Tryz.prog 321 (#[.int .i64 i] ++ #[.pointer (some ⟨be,0,none⟩),.pointer (some ⟨br,0,none⟩),.pointer (some ⟨bx,0,none⟩)]) W λe w'=>e=.returned (.bool (decide (x<=y.rune)))/\Below W.heap.size W w':=by
 obtain ⟨v0,v1,v2,v3,v4⟩:=y
 have hiz:(i:Int)<(n:Int):=by omega
 have H:=Lib.hid (λW=>Aq3 v0 v1 v2 v3 v4 W)
 go_enter Tryz.func321,Tryz.ntmps321
 go_wp2_with fail
 go_region_with ((go_at_call 279;refine (H.out _).mono ?_;rintro e w' ⟨rfl,hb⟩;have hx':w'.cell? ⟨bx,0,none⟩=some (.int .i32 x):=(hb.cell (p:=⟨bx,0,none⟩) hbx).trans hx;have HB:=Lib.hid hb;clear hb))
 all_goals go_wp2
 all_goals go_ret
 all_goals exact ⟨rfl,Ai HB.out⟩
def Xs (rows:List Sp) (x:Int) (w:World) (e:Ending) (w':World):Prop :=
 e=.returned (.tuple #[.agg (Ft ((Gw Sp.rune Sp.rune rows x).getD default)).toArray,.bool (Gw Sp.rune Sp.rune rows x).isSome])/\Below w.heap.size w w'
theorem Al6 (b n:Nat) (x:Int) (w W0:World)
  (hW0:W0=(((w.alloc (.cells #[.slice (some ⟨b,0,none⟩) n n] 29)).alloc (.cells #[.int .i32 x] 21)).alloc (.cells #[.func (.func 279) #[] #[]] 270)).alloc (.cells #[.int .i32 0,.int .i32 0,.int .i32 0,.bool false,.bool false] 88)) :
  W0.heap.size=w.heap.size+1+1+1+1/\Below w.heap.size w W0/\W0.cell? ⟨w.heap.size,0,none⟩=some (.slice (some ⟨b,0,none⟩) n n)/\W0.cell? ⟨w.heap.size+1,0,none⟩=some (.int .i32 x)/\W0.cell? ⟨w.heap.size+1+1,0,none⟩=some (.func (.func 279) #[] #[]) /\
  (∀ o,W0.frozen? ⟨w.heap.size+1+1+1,o,none⟩=false)/\W0.cell? ⟨w.heap.size+1+1+1,0,none⟩=some (.int .i32 0)/\W0.cell? ⟨w.heap.size+1+1+1,1,none⟩=some (.int .i32 0)/\W0.cell? ⟨w.heap.size+1+1+1,2,none⟩=some (.int .i32 0)/\W0.cell? ⟨w.heap.size+1+1+1,3,none⟩=some (.bool false)/\W0.cell? ⟨w.heap.size+1+1+1,4,none⟩=some (.bool false):=by
 subst hW0
 refine ⟨by simp,((((Below.refl _ w).alloc (Nat.le_refl _) _).alloc (by simp) _).alloc (by simp;omega) _).alloc (by simp;omega) _,?_,?_,?_,?_,?_,?_,?_,?_,?_⟩<;>first | (go_simp;done) | (intro o;go_simp;done)
theorem Le {B S:Nat} {a w:World} (h:Below B a w) (hS:B<=S) (u0 u1 u2 u3 u4:Value) :
  Below B a (((((w.setCell ⟨S,0,none⟩ u0).setCell ⟨S,1,none⟩ u1).setCell ⟨S,2,none⟩ u2).setCell ⟨S,3,none⟩ u3).setCell ⟨S,4,none⟩ u4) :=
 (((((h.setCell (p:=⟨S,0,none⟩) hS u0).setCell (p:=⟨S,1,none⟩) hS u1).setCell (p:=⟨S,2,none⟩) hS u2).setCell (p:=⟨S,3,none⟩) hS u3).setCell (p:=⟨S,4,none⟩) hS u4)
theorem R9 (b n:Nat) (x:Int) (w W0 W:World)
  (hW0:W0=(((w.alloc (.cells #[.slice (some ⟨b,0,none⟩) n n] 29)).alloc (.cells #[.int .i32 x] 21)).alloc (.cells #[.func (.func 279) #[] #[]] 270)).alloc (.cells #[.int .i32 0,.int .i32 0,.int .i32 0,.bool false,.bool false] 88))
  (hb:Below W0.heap.size W0 W) :
  W.cell? ⟨w.heap.size,0,none⟩=some (.slice (some ⟨b,0,none⟩) n n)/\W.cell? ⟨w.heap.size+1,0,none⟩=some (.int .i32 x)/\W.cell? ⟨w.heap.size+1+1,0,none⟩=some (.func (.func 279) #[] #[]) /\
  (∀ o,W.frozen? ⟨w.heap.size+1+1+1,o,none⟩=false)/\W.cell? ⟨w.heap.size+1+1+1,0,none⟩=some (.int .i32 0)/\W.cell? ⟨w.heap.size+1+1+1,1,none⟩=some (.int .i32 0)/\W.cell? ⟨w.heap.size+1+1+1,2,none⟩=some (.int .i32 0)/\W.cell? ⟨w.heap.size+1+1+1,3,none⟩=some (.bool false)/\W.cell? ⟨w.heap.size+1+1+1,4,none⟩=some (.bool false):=by
 obtain ⟨hS,-,c0,c1,c2,fz,d0,d1,d2,d3,d4⟩:=Al6 b n x w W0 hW0
 have h0:w.heap.size<W0.heap.size:=by omega
 have h1:w.heap.size+1<W0.heap.size:=by omega
 have h2:w.heap.size+1+1<W0.heap.size:=by omega
 have h3:w.heap.size+1+1+1<W0.heap.size:=by omega
 exact ⟨(hb.cell (p:=⟨w.heap.size,0,none⟩) h0).trans c0,(hb.cell (p:=⟨w.heap.size+1,0,none⟩) h1).trans c1,(hb.cell (p:=⟨w.heap.size+1+1,0,none⟩) h2).trans c2,
  λo=>(hb.frozen (p:=⟨w.heap.size+1+1+1,o,none⟩) h3).trans (fz o),(hb.cell (p:=⟨w.heap.size+1+1+1,0,none⟩) h3).trans d0,(hb.cell (p:=⟨w.heap.size+1+1+1,1,none⟩) h3).trans d1,(hb.cell (p:=⟨w.heap.size+1+1+1,2,none⟩) h3).trans d2,(hb.cell (p:=⟨w.heap.size+1+1+1,3,none⟩) h3).trans d3,(hb.cell (p:=⟨w.heap.size+1+1+1,4,none⟩) h3).trans d4⟩
theorem Ae4 {rows:List Sp} {b:Nat} {w:World} (h:Jr Ft 5 rows b w) (k:Nat) (hk:k<rows.length) (y:Sp) (hy:rows[k]! = y) :
  w.cell? ⟨b,k*5,none⟩=some (.int .i32 y.rune)/\w.cell? ⟨b,k*5+1,none⟩=some (.int .i32 y.one)/\w.cell? ⟨b,k*5+2,none⟩=some (.int .i32 y.two)/\w.cell? ⟨b,k*5+3,none⟩=some (.bool y.soft)/\w.cell? ⟨b,k*5+4,none⟩=some (.bool y.out):=by
 have:=h.2 k hk
 rw [hy] at this
 exact ⟨this 0 _ rfl,this 1 _ rfl,this 2 _ rfl,this 3 _ rfl,this 4 _ rfl⟩
set_option maxRecDepth 100000 in
theorem Awz (b n:Nat) (rows:List Sp) (x:Int) (w:World) (hn:n=rows.length) (hl:Jr Ft 5 rows b w) (hrise:rising Sp.rune Sp.rune rows=true) (hsz:n<4611686018427387904) :
  Calls Tryz.prog 278 #[.slice (some ⟨b,0,none⟩) n n,.int .i32 x,.func (.func 279) #[] #[]] w (Xs rows x w):=by
 obtain ⟨W0,hW0⟩:∃ W0,W0=(((w.alloc (.cells #[.slice (some ⟨b,0,none⟩) n n] 29)).alloc (.cells #[.int .i32 x] 21)).alloc (.cells #[.func (.func 279) #[] #[]] 270)).alloc (.cells #[.int .i32 0,.int .i32 0,.int .i32 0,.bool false,.bool false] 88):=⟨_,rfl⟩
 obtain ⟨hS,hB0,-⟩:=Al6 b n x w W0 hW0
 have hl0:=hl.below hB0
 have eg:∀ args w,(callFunc 321 args).run Tryz.prog w=.ok (.enter 321 args) w:=enters_of Tryz.func321 (by kernel_rfl) rfl
 have hSch:=Ld 321 #[.pointer (some ⟨w.heap.size+1+1,0,none⟩),.pointer (some ⟨w.heap.size,0,none⟩),.pointer (some ⟨w.heap.size+1,0,none⟩)] n (λi=>decide (x<=rows[i]!.rune)) W0 W0 (Below.refl _ _) eg hsz
  (λW i hb hi=>by
   obtain ⟨e0,e1,e2,e3,e4⟩:=Ae4 (hl0.below hb) i (by omega) rows[i]! rfl
   obtain ⟨a0,a1,a2,-⟩:=R9 b n x w W0 W hW0 hb
   refine (Am6 (w.heap.size+1+1) w.heap.size (w.heap.size+1) b n rows[i]! x i W hi a2 a0 a1 (by have:=hb.size;omega) e0 e1 e2 e3 e4).mono λe w' h=>⟨h.1,hb.trans (h.2.mono hb.size)⟩)
  (λa c hac hc h=>by have:=Ht hrise a c hac (by omega);simp only [decide_eq_true_eq] at h ⊢;omega)
 have HN:=Lib.hid hn
 have HS:=Lib.hid hS
 have HW:=Lib.hid hW0
 have HB0:=Lib.hid hB0
 have HL:=Lib.hid hl0
 clear hn hS hB0 hl0 hl eg hrise
 go_enter Tryz.func278,Tryz.ntmps278
 go_wp2_with fail
 rw [<- hW0]
 refine hSch.mono ?_
 rintro e w1 ⟨k,hk,k1,k2,rfl,hb1⟩
 have HK:=Lib.hid (Qo (lo:=Sp.rune) (hi:=Sp.rune) x rows k (by have:=HN.out;omega) k1 (by rw [<- HN.out];exact k2))
 clear hSch k1 k2 hW0
 obtain ⟨a0,a1,a2,fz,d0,d1,d2,d3,d4⟩:=R9 b n x w W0 w1 HW.out hb1
 by_cases hlt:k<n
 ·have hkz:(k:Int)<(n:Int):=by omega
  obtain ⟨e0,e1,e2,e3,e4⟩:=Ae4 (HL.out.below hb1) k (by have:=HN.out;omega) rows[k]! rfl
  generalize hy:rows[k]! = y at e0 e1 e2 e3 e4
  obtain ⟨v0,v1,v2,v3,v4⟩:=y
  have HY:=Lib.hid hy
  have HB1:=Lib.hid hb1
  have H:=Lib.hid (λW=>Aq3 v0 v1 v2 v3 v4 W)
  clear hy hb1 fz d0 d1 d2 d3 d4
  go_wp2_with fail
  go_region_with ((go_at_call 279;refine (H.out _).mono ?_;rintro e w2 ⟨rfl,hb2⟩;have hb3:=HB1.out.trans ((Ai hb2).mono HB1.out.size);obtain ⟨b0,b1,b2,fz,d0,d1,d2,d3,d4⟩:=R9 b n x w W0 w2 HW.out hb3;obtain ⟨f0,f1,f2,f3,f4⟩:=Ae4 (HL.out.below hb3) k (by have:=HN.out;omega) _ HY.out;have HB2:=Lib.hid hb3;have hz:w.heap.size+1+1+1<w2.heap.size:=(by have:=hb3.size;have:=HS.out;omega);clear hb2 hb3 e0 e1 e2 e3 e4 a0 a1 a2))
  all_goals
   by_cases hlo:v0<=x
   ·go_wp2
    refine bodyPost_ret (v:=.tuple #[.agg #[.int .i32 v0,.int .i32 v1,.int .i32 v2,.bool v3,.bool v4],.bool true]) (by simp [results,Tryz.results278,go_sem,d0,d1,d2,d3,d4]) rfl ⟨?_,?_⟩
    ·rw [HK.out,if_pos (by have:=HN.out;omega),HY.out,if_pos (show (Sp.mk v0 v1 v2 v3 v4).rune<=x from hlo)]
     rfl
    ·exact Le (HB0.out.trans (HB2.out.mono HB0.out.size)) (by omega) _ _ _ _ _
   ·go_wp2
    refine bodyPost_ret (v:=.tuple #[.agg #[.int .i32 0,.int .i32 0,.int .i32 0,.bool false,.bool false],.bool false]) (by simp [results,Tryz.results278,go_sem,d0,d1,d2,d3,d4,hz]) rfl ⟨?_,?_⟩
    ·rw [HK.out,if_pos (by have:=HN.out;omega),HY.out,if_neg (show ¬ (Sp.mk v0 v1 v2 v3 v4).rune<=x from Int.not_le.2 hlo)]
     rfl
    ·exact Am (Le (HB0.out.trans (HB2.out.mono HB0.out.size)) (by omega) _ _ _ _ _) (Nat.le_refl _) _
 ·have hkz:¬ (k:Int)<(n:Int):=by omega
  have HB1:=Lib.hid hb1
  have hz:w.heap.size+1+1+1<w1.heap.size:=(by have:=hb1.size;have:=HS.out;omega)
  clear hb1
  go_wp2
  refine bodyPost_ret (v:=.tuple #[.agg #[.int .i32 0,.int .i32 0,.int .i32 0,.bool false,.bool false],.bool false]) (by simp [results,Tryz.results278,go_sem,d0,d1,d2,d3,d4,hz]) rfl ⟨?_,?_⟩
  ·rw [HK.out,if_neg (by have:=HN.out;omega)]
   rfl
  ·exact Am (Le (HB0.out.trans (HB1.out.mono HB0.out.size)) (by omega) _ _ _ _ _) (Nat.le_refl _) _
end
end Go.Proofs.YtppmbilonaflfaaGreatDoor
