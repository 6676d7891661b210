import Derived.Test.YthnhgmdlbfbhjaaGreatGround
set_option maxRecDepth 100000
set_option maxHeartbeats 4000000
namespace Go.Proofs.YthnhgmdlbfbhjaaGreat
open Tryz
section
open Go.RowKit
def Gk (x:Rg):List Value:=[.int .i32 x.lo,.int .i32 x.hi,.int .i64 x.cat,.int .i64 x.bidi,.int .i64 x.join,.int .i64 x.script]
theorem Ak8 (v0 v1 v2 v3 v4 v5:Int) (w:World) :
  Calls prog 201 #[.agg #[.int .i32 v0,.int .i32 v1,.int .i64 v2,.int .i64 v3,.int .i64 v4,.int .i64 v5]] w λe w'=>e=.returned (.tuple #[.int .i32 v0,.int .i32 v1])/\Below w.heap.size w w':=by
 go_enter func201,ntmps201;go_wp2;go_quiet (fail);go_wp2;go_ret2;exact ⟨rfl,below_drewN ((jan _ _).alloc (jaa _) _) _⟩
theorem Ahn (be br bx b n:Nat) (y:Rg) (x:Int) (i:Nat) (W:World) (hi:i<n)
  (he:W.cell? ⟨be,0,none⟩=some (.func (.func 201) #[] #[])) (ha:W.cell? ⟨br,0,none⟩=some (.slice (some ⟨b,0,none⟩) n n)) (hx:W.cell? ⟨bx,0,none⟩=some (.int .i32 x))
  (hbx:bx<W.heap.size) (h0:W.cell? ⟨b,i*6,none⟩=some (.int .i32 y.lo)) (h1:W.cell? ⟨b,i*6+1,none⟩=some (.int .i32 y.hi)) (h2:W.cell? ⟨b,i*6+2,none⟩=some (.int .i64 y.cat)) (h3:W.cell? ⟨b,i*6+3,none⟩=some (.int .i64 y.bidi)) (h4:W.cell? ⟨b,i*6+4,none⟩=some (.int .i64 y.join)) (h5:W.cell? ⟨b,i*6+5,none⟩=some (.int .i64 y.script)) :
  Calls prog 217 (#[.int .i64 i] ++ #[.pointer (some ⟨be,0,none⟩),.pointer (some ⟨br,0,none⟩),.pointer (some ⟨bx,0,none⟩)]) W λe w'=>e=.returned (.bool (decide (x<=y.hi)))/\Below W.heap.size W w':=by
 obtain ⟨v0,v1,v2,v3,v4,v5⟩:=y;have hiz:(i:Int)<(n:Int):=jO
 have H:=jH (λW=>Ak8 v0 v1 v2 v3 v4 v5 W);go_enter func217,ntmps217;go_wp2_with fail;go_region_with ((go_at_call 201;refine (H.out _).mono ?_;rintro e w' ⟨rfl,hb⟩;have hx':w'.cell? ⟨bx,0,none⟩=some (.int .i32 x):=(hb.cell (p:=⟨bx,0,none⟩) hbx).trans hx;have HB:=jH hb;clear hb))
 all_goals go_wp2
 all_goals go_ret
 all_goals exact ⟨rfl,Ag HB.out⟩
def Tv (rows:List Rg) (x:Int) (w:World) (e:Ending) (w':World):Prop :=
 e=.returned (.tuple #[.agg (Gk ((Fm Rg.lo Rg.hi rows x).getD default)).toArray,.bool (Fm Rg.lo Rg.hi rows x).isSome])/\Below w.heap.size w w'
theorem Agi (b n:Nat) (x:Int) (w W0:World)
  (hW0:W0=(((w.alloc (.cells #[.slice (some ⟨b,0,none⟩) n n] 23)).alloc (.cells #[.int .i32 x] 21)).alloc (.cells #[.func (.func 201) #[] #[]] 179)).alloc (.cells #[.int .i32 0,.int .i32 0,.int .i64 0,.int .i64 0,.int .i64 0,.int .i64 0] 63)) :
  W0.heap.size=w.heap.size+1+1+1+1/\Below w.heap.size w W0/\W0.cell? ⟨w.heap.size,0,none⟩=some (.slice (some ⟨b,0,none⟩) n n)/\W0.cell? ⟨w.heap.size+1,0,none⟩=some (.int .i32 x)/\W0.cell? ⟨w.heap.size+1+1,0,none⟩=some (.func (.func 201) #[] #[]) /\
  (∀ o,W0.frozen? ⟨w.heap.size+1+1+1,o,none⟩=false)/\W0.cell? ⟨w.heap.size+1+1+1,0,none⟩=some (.int .i32 0)/\W0.cell? ⟨w.heap.size+1+1+1,1,none⟩=some (.int .i32 0)/\W0.cell? ⟨w.heap.size+1+1+1,2,none⟩=some (.int .i64 0)/\W0.cell? ⟨w.heap.size+1+1+1,3,none⟩=some (.int .i64 0)/\W0.cell? ⟨w.heap.size+1+1+1,4,none⟩=some (.int .i64 0)/\W0.cell? ⟨w.heap.size+1+1+1,5,none⟩=some (.int .i64 0):=by
 subst hW0;refine ⟨by simp,((((jan _ w).alloc (jaa _) _).alloc jS _).alloc (by simp;omega) _).alloc (by simp;omega) _,?_,?_,?_,?_,?_,?_,?_,?_,?_,?_⟩<;>first | (go_simp;done) | (intro o;go_simp;done)
theorem Mw {B S:Nat} {a w:World} (h:Below B a w) (hS:B<=S) (u0 u1 u2 u3 u4 u5:Value) :
  Below B a ((((((w.setCell ⟨S,0,none⟩ u0).setCell ⟨S,1,none⟩ u1).setCell ⟨S,2,none⟩ u2).setCell ⟨S,3,none⟩ u3).setCell ⟨S,4,none⟩ u4).setCell ⟨S,5,none⟩ u5) :=
 ((((((h.setCell (p:=⟨S,0,none⟩) hS u0).setCell (p:=⟨S,1,none⟩) hS u1).setCell (p:=⟨S,2,none⟩) hS u2).setCell (p:=⟨S,3,none⟩) hS u3).setCell (p:=⟨S,4,none⟩) hS u4).setCell (p:=⟨S,5,none⟩) hS u5)
theorem Qy (b n:Nat) (x:Int) (w W0 W:World)
  (hW0:W0=(((w.alloc (.cells #[.slice (some ⟨b,0,none⟩) n n] 23)).alloc (.cells #[.int .i32 x] 21)).alloc (.cells #[.func (.func 201) #[] #[]] 179)).alloc (.cells #[.int .i32 0,.int .i32 0,.int .i64 0,.int .i64 0,.int .i64 0,.int .i64 0] 63))
  (hb:Below W0.heap.size W0 W) :
  W.cell? ⟨w.heap.size,0,none⟩=some (.slice (some ⟨b,0,none⟩) n n)/\W.cell? ⟨w.heap.size+1,0,none⟩=some (.int .i32 x)/\W.cell? ⟨w.heap.size+1+1,0,none⟩=some (.func (.func 201) #[] #[]) /\
  (∀ o,W.frozen? ⟨w.heap.size+1+1+1,o,none⟩=false)/\W.cell? ⟨w.heap.size+1+1+1,0,none⟩=some (.int .i32 0)/\W.cell? ⟨w.heap.size+1+1+1,1,none⟩=some (.int .i32 0)/\W.cell? ⟨w.heap.size+1+1+1,2,none⟩=some (.int .i64 0)/\W.cell? ⟨w.heap.size+1+1+1,3,none⟩=some (.int .i64 0)/\W.cell? ⟨w.heap.size+1+1+1,4,none⟩=some (.int .i64 0)/\W.cell? ⟨w.heap.size+1+1+1,5,none⟩=some (.int .i64 0):=by
 obtain ⟨hS,-,c0,c1,c2,fz,d0,d1,d2,d3,d4,d5⟩:=Agi b n x w W0 hW0;have h0:w.heap.size<W0.heap.size:=jO
 have h1:w.heap.size+1<W0.heap.size:=jO
 have h2:w.heap.size+1+1<W0.heap.size:=jO
 have h3:w.heap.size+1+1+1<W0.heap.size:=jO
 exact ⟨(hb.cell (p:=⟨w.heap.size,0,none⟩) h0).trans c0,(hb.cell (p:=⟨w.heap.size+1,0,none⟩) h1).trans c1,(hb.cell (p:=⟨w.heap.size+1+1,0,none⟩) h2).trans c2,
  λo=>(hb.frozen (p:=⟨w.heap.size+1+1+1,o,none⟩) h3).trans (fz o),(hb.cell (p:=⟨w.heap.size+1+1+1,0,none⟩) h3).trans d0,(hb.cell (p:=⟨w.heap.size+1+1+1,1,none⟩) h3).trans d1,(hb.cell (p:=⟨w.heap.size+1+1+1,2,none⟩) h3).trans d2,(hb.cell (p:=⟨w.heap.size+1+1+1,3,none⟩) h3).trans d3,(hb.cell (p:=⟨w.heap.size+1+1+1,4,none⟩) h3).trans d4,(hb.cell (p:=⟨w.heap.size+1+1+1,5,none⟩) h3).trans d5⟩
theorem Ag3 {rows:List Rg} {b:Nat} {w:World} (h:Jk Gk 6 rows b w) (k:Nat) (hk:k<rows.length) (y:Rg) (hy:rows[k]! = y) :
  w.cell? ⟨b,k*6,none⟩=some (.int .i32 y.lo)/\w.cell? ⟨b,k*6+1,none⟩=some (.int .i32 y.hi)/\w.cell? ⟨b,k*6+2,none⟩=some (.int .i64 y.cat)/\w.cell? ⟨b,k*6+3,none⟩=some (.int .i64 y.bidi)/\w.cell? ⟨b,k*6+4,none⟩=some (.int .i64 y.join)/\w.cell? ⟨b,k*6+5,none⟩=some (.int .i64 y.script):=by
 have:=h.2 k hk;rw [hy] at this;exact ⟨this 0 _ rfl,this 1 _ rfl,this 2 _ rfl,this 3 _ rfl,this 4 _ rfl,this 5 _ rfl⟩
theorem Ap2 (b n:Nat) (rows:List Rg) (x:Int) (w:World) (hn:n=rows.length) (hl:Jk Gk 6 rows b w) (hrise:rising Rg.lo Rg.hi rows=true) (hsz:n<4611686018427387904) :
  Calls prog 200 #[.slice (some ⟨b,0,none⟩) n n,.int .i32 x,.func (.func 201) #[] #[]] w (Tv rows x w):=by
 obtain ⟨W0,hW0⟩:∃ W0,W0=(((w.alloc (.cells #[.slice (some ⟨b,0,none⟩) n n] 23)).alloc (.cells #[.int .i32 x] 21)).alloc (.cells #[.func (.func 201) #[] #[]] 179)).alloc (.cells #[.int .i32 0,.int .i32 0,.int .i64 0,.int .i64 0,.int .i64 0,.int .i64 0] 63):=⟨_,rfl⟩
 obtain ⟨hS,hB0,-⟩:=Agi b n x w W0 hW0;have hl0:=hl.below hB0;have eg:∀ args w,(callFunc 217 args).run prog w=.ok (.enter 217 args) w:=enters_of func217 jK rfl;have hSch:=Le 217 #[.pointer (some ⟨w.heap.size+1+1,0,none⟩),.pointer (some ⟨w.heap.size,0,none⟩),.pointer (some ⟨w.heap.size+1,0,none⟩)] n (λi=>decide (x<=rows[i]!.hi)) W0 W0 (jan _ _) eg hsz
  (λW i hb hi=>by
   obtain ⟨e0,e1,e2,e3,e4,e5⟩:=Ag3 (hl0.below hb) i jO rows[i]! rfl;obtain ⟨a0,a1,a2,-⟩:=Qy b n x w W0 W hW0 hb;refine (Ahn (w.heap.size+1+1) w.heap.size (w.heap.size+1) b n rows[i]! x i W hi a2 a0 a1 (by have:=hb.size;omega) e0 e1 e2 e3 e4 e5).mono λe w' h=>⟨h.1,hb.trans (h.2.mono hb.size)⟩)
  (λa c hac hc h=>by have:=Hn hrise a c hac jO;simp only [decide_eq_true_eq] at h ⊢;omega)
 have HN:=jH hn;have HS:=jH hS;have HW:=jH hW0;have HB0:=jH hB0;have HL:=jH hl0;clear hn hS hB0 hl0 hl eg hrise;go_enter func200,ntmps200;go_wp2_with fail;rw [<- hW0];refine hSch.mono ?_;rintro e w1 ⟨k,hk,k1,k2,rfl,hb1⟩;have HK:=jH (Qg (lo:=Rg.lo) (hi:=Rg.hi) x rows k (by have:=HN.out;omega) k1 (by rw [<- HN.out];exact k2));clear hSch k1 k2 hW0;obtain ⟨a0,a1,a2,fz,d0,d1,d2,d3,d4,d5⟩:=Qy b n x w W0 w1 HW.out hb1;by_cases hlt:k<n
 ·have hkz:(k:Int)<(n:Int):=jO
  obtain ⟨e0,e1,e2,e3,e4,e5⟩:=Ag3 (HL.out.below hb1) k (by have:=HN.out;omega) rows[k]! rfl;generalize hy:rows[k]! = y at e0 e1 e2 e3 e4 e5;obtain ⟨v0,v1,v2,v3,v4,v5⟩:=y;have HY:=jH hy;have HB1:=jH hb1;have H:=jH (λW=>Ak8 v0 v1 v2 v3 v4 v5 W);clear hy hb1 fz d0 d1 d2 d3 d4 d5;go_wp2_with fail;go_region_with ((go_at_call 201;refine (H.out _).mono ?_;rintro e w2 ⟨rfl,hb2⟩;have hb3:=HB1.out.trans ((Ag hb2).mono HB1.out.size);obtain ⟨b0,b1,b2,fz,d0,d1,d2,d3,d4,d5⟩:=Qy b n x w W0 w2 HW.out hb3;obtain ⟨f0,f1,f2,f3,f4,f5⟩:=Ag3 (HL.out.below hb3) k (by have:=HN.out;omega) _ HY.out;have HB2:=jH hb3;have hz:w.heap.size+1+1+1<w2.heap.size:=(by have:=hb3.size;have:=HS.out;omega);clear hb2 hb3 e0 e1 e2 e3 e4 e5 a0 a1 a2))
  all_goals
   by_cases hlo:v0<=x
   ·go_wp2;refine bodyPost_ret (v:=.tuple #[.agg #[.int .i32 v0,.int .i32 v1,.int .i64 v2,.int .i64 v3,.int .i64 v4,.int .i64 v5],.bool true]) (by simp [results,results200,go_sem,d0,d1,d2,d3,d4,d5]) rfl ⟨?_,?_⟩
    ·rw [HK.out,if_pos (by have:=HN.out;omega),HY.out,if_pos (show (Rg.mk v0 v1 v2 v3 v4 v5).lo<=x from hlo)];rfl
    ·exact Mw (HB0.out.trans (HB2.out.mono HB0.out.size)) jO _ _ _ _ _ _
   ·go_wp2;refine bodyPost_ret (v:=.tuple #[.agg #[.int .i32 0,.int .i32 0,.int .i64 0,.int .i64 0,.int .i64 0,.int .i64 0],.bool false]) (by simp [results,results200,go_sem,d0,d1,d2,d3,d4,d5,hz]) rfl ⟨?_,?_⟩
    ·rw [HK.out,if_pos (by have:=HN.out;omega),HY.out,if_neg (show ¬ (Rg.mk v0 v1 v2 v3 v4 v5).lo<=x from Int.not_le.2 hlo)];rfl
    ·exact Al (Mw (HB0.out.trans (HB2.out.mono HB0.out.size)) jO _ _ _ _ _ _) (jaa _) _
 ·have hkz:¬ (k:Int)<(n:Int):=jO
  have HB1:=jH hb1;have hz:w.heap.size+1+1+1<w1.heap.size:=(by have:=hb1.size;have:=HS.out;omega)
  clear hb1;go_wp2;refine bodyPost_ret (v:=.tuple #[.agg #[.int .i32 0,.int .i32 0,.int .i64 0,.int .i64 0,.int .i64 0,.int .i64 0],.bool false]) (by simp [results,results200,go_sem,d0,d1,d2,d3,d4,d5,hz]) rfl ⟨?_,?_⟩
  ·rw [HK.out,if_neg (by have:=HN.out;omega)];rfl
  ·exact Al (Mw (HB0.out.trans (HB1.out.mono HB0.out.size)) jO _ _ _ _ _ _) (jaa _) _
end
section
open Go.RowKit
def Pm (x:Cl):List Value:=[.int .i32 x.lo,.int .i32 x.hi,.int .i64 x.cls,.int .i64 x.step]
theorem Ak6 (v0 v1 v2 v3:Int) (w:World) :
  Calls prog 194 #[.agg #[.int .i32 v0,.int .i32 v1,.int .i64 v2,.int .i64 v3]] w λe w'=>e=.returned (.tuple #[.int .i32 v0,.int .i32 v1])/\Below w.heap.size w w':=by
 go_enter func194,ntmps194;go_wp2;go_quiet (fail);go_wp2;go_ret2;exact ⟨rfl,below_drewN ((jan _ _).alloc (jaa _) _) _⟩
theorem Ahl (be br bx b n:Nat) (y:Cl) (x:Int) (i:Nat) (W:World) (hi:i<n)
  (he:W.cell? ⟨be,0,none⟩=some (.func (.func 194) #[] #[])) (ha:W.cell? ⟨br,0,none⟩=some (.slice (some ⟨b,0,none⟩) n n)) (hx:W.cell? ⟨bx,0,none⟩=some (.int .i32 x))
  (hbx:bx<W.heap.size) (h0:W.cell? ⟨b,i*4,none⟩=some (.int .i32 y.lo)) (h1:W.cell? ⟨b,i*4+1,none⟩=some (.int .i32 y.hi)) (h2:W.cell? ⟨b,i*4+2,none⟩=some (.int .i64 y.cls)) (h3:W.cell? ⟨b,i*4+3,none⟩=some (.int .i64 y.step)) :
  Calls prog 214 (#[.int .i64 i] ++ #[.pointer (some ⟨be,0,none⟩),.pointer (some ⟨br,0,none⟩),.pointer (some ⟨bx,0,none⟩)]) W λe w'=>e=.returned (.bool (decide (x<=y.hi)))/\Below W.heap.size W w':=by
 obtain ⟨v0,v1,v2,v3⟩:=y;have hiz:(i:Int)<(n:Int):=jO
 have H:=jH (λW=>Ak6 v0 v1 v2 v3 W);go_enter func214,ntmps214;go_wp2_with fail;go_region_with ((go_at_call 194;refine (H.out _).mono ?_;rintro e w' ⟨rfl,hb⟩;have hx':w'.cell? ⟨bx,0,none⟩=some (.int .i32 x):=(hb.cell (p:=⟨bx,0,none⟩) hbx).trans hx;have HB:=jH hb;clear hb))
 all_goals go_wp2
 all_goals go_ret
 all_goals exact ⟨rfl,Ag HB.out⟩
def Tt (rows:List Cl) (x:Int) (w:World) (e:Ending) (w':World):Prop :=
 e=.returned (.tuple #[.agg (Pm ((Fm Cl.lo Cl.hi rows x).getD default)).toArray,.bool (Fm Cl.lo Cl.hi rows x).isSome])/\Below w.heap.size w w'
theorem Agg (b n:Nat) (x:Int) (w W0:World)
  (hW0:W0=(((w.alloc (.cells #[.slice (some ⟨b,0,none⟩) n n] 24)).alloc (.cells #[.int .i32 x] 21)).alloc (.cells #[.func (.func 194) #[] #[]] 174)).alloc (.cells #[.int .i32 0,.int .i32 0,.int .i64 0,.int .i64 0] 65)) :
  W0.heap.size=w.heap.size+1+1+1+1/\Below w.heap.size w W0/\W0.cell? ⟨w.heap.size,0,none⟩=some (.slice (some ⟨b,0,none⟩) n n)/\W0.cell? ⟨w.heap.size+1,0,none⟩=some (.int .i32 x)/\W0.cell? ⟨w.heap.size+1+1,0,none⟩=some (.func (.func 194) #[] #[]) /\
  (∀ o,W0.frozen? ⟨w.heap.size+1+1+1,o,none⟩=false)/\W0.cell? ⟨w.heap.size+1+1+1,0,none⟩=some (.int .i32 0)/\W0.cell? ⟨w.heap.size+1+1+1,1,none⟩=some (.int .i32 0)/\W0.cell? ⟨w.heap.size+1+1+1,2,none⟩=some (.int .i64 0)/\W0.cell? ⟨w.heap.size+1+1+1,3,none⟩=some (.int .i64 0):=by
 subst hW0;refine ⟨by simp,((((jan _ w).alloc (jaa _) _).alloc jS _).alloc (by simp;omega) _).alloc (by simp;omega) _,?_,?_,?_,?_,?_,?_,?_,?_⟩<;>first | (go_simp;done) | (intro o;go_simp;done)
theorem Zg {B S:Nat} {a w:World} (h:Below B a w) (hS:B<=S) (u0 u1 u2 u3:Value) :
  Below B a ((((w.setCell ⟨S,0,none⟩ u0).setCell ⟨S,1,none⟩ u1).setCell ⟨S,2,none⟩ u2).setCell ⟨S,3,none⟩ u3) :=
 ((((h.setCell (p:=⟨S,0,none⟩) hS u0).setCell (p:=⟨S,1,none⟩) hS u1).setCell (p:=⟨S,2,none⟩) hS u2).setCell (p:=⟨S,3,none⟩) hS u3)
theorem Qw (b n:Nat) (x:Int) (w W0 W:World)
  (hW0:W0=(((w.alloc (.cells #[.slice (some ⟨b,0,none⟩) n n] 24)).alloc (.cells #[.int .i32 x] 21)).alloc (.cells #[.func (.func 194) #[] #[]] 174)).alloc (.cells #[.int .i32 0,.int .i32 0,.int .i64 0,.int .i64 0] 65))
  (hb:Below W0.heap.size W0 W) :
  W.cell? ⟨w.heap.size,0,none⟩=some (.slice (some ⟨b,0,none⟩) n n)/\W.cell? ⟨w.heap.size+1,0,none⟩=some (.int .i32 x)/\W.cell? ⟨w.heap.size+1+1,0,none⟩=some (.func (.func 194) #[] #[]) /\
  (∀ o,W.frozen? ⟨w.heap.size+1+1+1,o,none⟩=false)/\W.cell? ⟨w.heap.size+1+1+1,0,none⟩=some (.int .i32 0)/\W.cell? ⟨w.heap.size+1+1+1,1,none⟩=some (.int .i32 0)/\W.cell? ⟨w.heap.size+1+1+1,2,none⟩=some (.int .i64 0)/\W.cell? ⟨w.heap.size+1+1+1,3,none⟩=some (.int .i64 0):=by
 obtain ⟨hS,-,c0,c1,c2,fz,d0,d1,d2,d3⟩:=Agg b n x w W0 hW0;have h0:w.heap.size<W0.heap.size:=jO
 have h1:w.heap.size+1<W0.heap.size:=jO
 have h2:w.heap.size+1+1<W0.heap.size:=jO
 have h3:w.heap.size+1+1+1<W0.heap.size:=jO
 exact ⟨(hb.cell (p:=⟨w.heap.size,0,none⟩) h0).trans c0,(hb.cell (p:=⟨w.heap.size+1,0,none⟩) h1).trans c1,(hb.cell (p:=⟨w.heap.size+1+1,0,none⟩) h2).trans c2,
  λo=>(hb.frozen (p:=⟨w.heap.size+1+1+1,o,none⟩) h3).trans (fz o),(hb.cell (p:=⟨w.heap.size+1+1+1,0,none⟩) h3).trans d0,(hb.cell (p:=⟨w.heap.size+1+1+1,1,none⟩) h3).trans d1,(hb.cell (p:=⟨w.heap.size+1+1+1,2,none⟩) h3).trans d2,(hb.cell (p:=⟨w.heap.size+1+1+1,3,none⟩) h3).trans d3⟩
theorem Ag1 {rows:List Cl} {b:Nat} {w:World} (h:Jk Pm 4 rows b w) (k:Nat) (hk:k<rows.length) (y:Cl) (hy:rows[k]! = y) :
  w.cell? ⟨b,k*4,none⟩=some (.int .i32 y.lo)/\w.cell? ⟨b,k*4+1,none⟩=some (.int .i32 y.hi)/\w.cell? ⟨b,k*4+2,none⟩=some (.int .i64 y.cls)/\w.cell? ⟨b,k*4+3,none⟩=some (.int .i64 y.step):=by
 have:=h.2 k hk;rw [hy] at this;exact ⟨this 0 _ rfl,this 1 _ rfl,this 2 _ rfl,this 3 _ rfl⟩
theorem Ap0 (b n:Nat) (rows:List Cl) (x:Int) (w:World) (hn:n=rows.length) (hl:Jk Pm 4 rows b w) (hrise:rising Cl.lo Cl.hi rows=true) (hsz:n<4611686018427387904) :
  Calls prog 193 #[.slice (some ⟨b,0,none⟩) n n,.int .i32 x,.func (.func 194) #[] #[]] w (Tt rows x w):=by
 obtain ⟨W0,hW0⟩:∃ W0,W0=(((w.alloc (.cells #[.slice (some ⟨b,0,none⟩) n n] 24)).alloc (.cells #[.int .i32 x] 21)).alloc (.cells #[.func (.func 194) #[] #[]] 174)).alloc (.cells #[.int .i32 0,.int .i32 0,.int .i64 0,.int .i64 0] 65):=⟨_,rfl⟩
 obtain ⟨hS,hB0,-⟩:=Agg b n x w W0 hW0;have hl0:=hl.below hB0;have eg:∀ args w,(callFunc 214 args).run prog w=.ok (.enter 214 args) w:=enters_of func214 jK rfl;have hSch:=Le 214 #[.pointer (some ⟨w.heap.size+1+1,0,none⟩),.pointer (some ⟨w.heap.size,0,none⟩),.pointer (some ⟨w.heap.size+1,0,none⟩)] n (λi=>decide (x<=rows[i]!.hi)) W0 W0 (jan _ _) eg hsz
  (λW i hb hi=>by
   obtain ⟨e0,e1,e2,e3⟩:=Ag1 (hl0.below hb) i jO rows[i]! rfl;obtain ⟨a0,a1,a2,-⟩:=Qw b n x w W0 W hW0 hb;refine (Ahl (w.heap.size+1+1) w.heap.size (w.heap.size+1) b n rows[i]! x i W hi a2 a0 a1 (by have:=hb.size;omega) e0 e1 e2 e3).mono λe w' h=>⟨h.1,hb.trans (h.2.mono hb.size)⟩)
  (λa c hac hc h=>by have:=Hn hrise a c hac jO;simp only [decide_eq_true_eq] at h ⊢;omega)
 have HN:=jH hn;have HS:=jH hS;have HW:=jH hW0;have HB0:=jH hB0;have HL:=jH hl0;clear hn hS hB0 hl0 hl eg hrise;go_enter func193,ntmps193;go_wp2_with fail;rw [<- hW0];refine hSch.mono ?_;rintro e w1 ⟨k,hk,k1,k2,rfl,hb1⟩;have HK:=jH (Qg (lo:=Cl.lo) (hi:=Cl.hi) x rows k (by have:=HN.out;omega) k1 (by rw [<- HN.out];exact k2));clear hSch k1 k2 hW0;obtain ⟨a0,a1,a2,fz,d0,d1,d2,d3⟩:=Qw b n x w W0 w1 HW.out hb1;by_cases hlt:k<n
 ·have hkz:(k:Int)<(n:Int):=jO
  obtain ⟨e0,e1,e2,e3⟩:=Ag1 (HL.out.below hb1) k (by have:=HN.out;omega) rows[k]! rfl;generalize hy:rows[k]! = y at e0 e1 e2 e3;obtain ⟨v0,v1,v2,v3⟩:=y;have HY:=jH hy;have HB1:=jH hb1;have H:=jH (λW=>Ak6 v0 v1 v2 v3 W);clear hy hb1 fz d0 d1 d2 d3;go_wp2_with fail;go_region_with ((go_at_call 194;refine (H.out _).mono ?_;rintro e w2 ⟨rfl,hb2⟩;have hb3:=HB1.out.trans ((Ag hb2).mono HB1.out.size);obtain ⟨b0,b1,b2,fz,d0,d1,d2,d3⟩:=Qw b n x w W0 w2 HW.out hb3;obtain ⟨f0,f1,f2,f3⟩:=Ag1 (HL.out.below hb3) k (by have:=HN.out;omega) _ HY.out;have HB2:=jH hb3;have hz:w.heap.size+1+1+1<w2.heap.size:=(by have:=hb3.size;have:=HS.out;omega);clear hb2 hb3 e0 e1 e2 e3 a0 a1 a2))
  all_goals
   by_cases hlo:v0<=x
   ·go_wp2;refine bodyPost_ret (v:=.tuple #[.agg #[.int .i32 v0,.int .i32 v1,.int .i64 v2,.int .i64 v3],.bool true]) (by simp [results,results193,go_sem,d0,d1,d2,d3]) rfl ⟨?_,?_⟩
    ·rw [HK.out,if_pos (by have:=HN.out;omega),HY.out,if_pos (show (Cl.mk v0 v1 v2 v3).lo<=x from hlo)];rfl
    ·exact Zg (HB0.out.trans (HB2.out.mono HB0.out.size)) jO _ _ _ _
   ·go_wp2;refine bodyPost_ret (v:=.tuple #[.agg #[.int .i32 0,.int .i32 0,.int .i64 0,.int .i64 0],.bool false]) (by simp [results,results193,go_sem,d0,d1,d2,d3,hz]) rfl ⟨?_,?_⟩
    ·rw [HK.out,if_pos (by have:=HN.out;omega),HY.out,if_neg (show ¬ (Cl.mk v0 v1 v2 v3).lo<=x from Int.not_le.2 hlo)];rfl
    ·exact Al (Zg (HB0.out.trans (HB2.out.mono HB0.out.size)) jO _ _ _ _) (jaa _) _
 ·have hkz:¬ (k:Int)<(n:Int):=jO
  have HB1:=jH hb1;have hz:w.heap.size+1+1+1<w1.heap.size:=(by have:=hb1.size;have:=HS.out;omega)
  clear hb1;go_wp2;refine bodyPost_ret (v:=.tuple #[.agg #[.int .i32 0,.int .i32 0,.int .i64 0,.int .i64 0],.bool false]) (by simp [results,results193,go_sem,d0,d1,d2,d3,hz]) rfl ⟨?_,?_⟩
  ·rw [HK.out,if_neg (by have:=HN.out;omega)];rfl
  ·exact Al (Zg (HB0.out.trans (HB1.out.mono HB0.out.size)) jO _ _ _ _) (jaa _) _
end
section
open Go.RowKit
def Pn (x:Lw):List Value:=[.int .i32 x.lo,.int .i32 x.hi,.int .i32 x.far]
theorem Ak7 (v0 v1 v2:Int) (w:World) :
  Calls prog 100 #[.agg #[.int .i32 v0,.int .i32 v1,.int .i32 v2]] w λe w'=>e=.returned (.tuple #[.int .i32 v0,.int .i32 v1])/\Below w.heap.size w w':=by
 go_enter func100,ntmps100;go_wp2;go_quiet (fail);go_wp2;go_ret2;exact ⟨rfl,below_drewN ((jan _ _).alloc (jaa _) _) _⟩
theorem Ahm (be br bx b n:Nat) (y:Lw) (x:Int) (i:Nat) (W:World) (hi:i<n)
  (he:W.cell? ⟨be,0,none⟩=some (.func (.func 100) #[] #[])) (ha:W.cell? ⟨br,0,none⟩=some (.slice (some ⟨b,0,none⟩) n n)) (hx:W.cell? ⟨bx,0,none⟩=some (.int .i32 x))
  (hbx:bx<W.heap.size) (h0:W.cell? ⟨b,i*3,none⟩=some (.int .i32 y.lo)) (h1:W.cell? ⟨b,i*3+1,none⟩=some (.int .i32 y.hi)) (h2:W.cell? ⟨b,i*3+2,none⟩=some (.int .i32 y.far)) :
  Calls prog 146 (#[.int .i64 i] ++ #[.pointer (some ⟨be,0,none⟩),.pointer (some ⟨br,0,none⟩),.pointer (some ⟨bx,0,none⟩)]) W λe w'=>e=.returned (.bool (decide (x<=y.hi)))/\Below W.heap.size W w':=by
 obtain ⟨v0,v1,v2⟩:=y;have hiz:(i:Int)<(n:Int):=jO
 have H:=jH (λW=>Ak7 v0 v1 v2 W);go_enter func146,ntmps146;go_wp2_with fail;go_region_with ((go_at_call 100;refine (H.out _).mono ?_;rintro e w' ⟨rfl,hb⟩;have hx':w'.cell? ⟨bx,0,none⟩=some (.int .i32 x):=(hb.cell (p:=⟨bx,0,none⟩) hbx).trans hx;have HB:=jH hb;clear hb))
 all_goals go_wp2
 all_goals go_ret
 all_goals exact ⟨rfl,Ag HB.out⟩
def Tu (rows:List Lw) (x:Int) (w:World) (e:Ending) (w':World):Prop :=
 e=.returned (.tuple #[.agg (Pn ((Fm Lw.lo Lw.hi rows x).getD default)).toArray,.bool (Fm Lw.lo Lw.hi rows x).isSome])/\Below w.heap.size w w'
theorem Agh (b n:Nat) (x:Int) (w W0:World)
  (hW0:W0=(((w.alloc (.cells #[.slice (some ⟨b,0,none⟩) n n] 25)).alloc (.cells #[.int .i32 x] 21)).alloc (.cells #[.func (.func 100) #[] #[]] 107)).alloc (.cells #[.int .i32 0,.int .i32 0,.int .i32 0] 67)) :
  W0.heap.size=w.heap.size+1+1+1+1/\Below w.heap.size w W0/\W0.cell? ⟨w.heap.size,0,none⟩=some (.slice (some ⟨b,0,none⟩) n n)/\W0.cell? ⟨w.heap.size+1,0,none⟩=some (.int .i32 x)/\W0.cell? ⟨w.heap.size+1+1,0,none⟩=some (.func (.func 100) #[] #[]) /\
  (∀ o,W0.frozen? ⟨w.heap.size+1+1+1,o,none⟩=false)/\W0.cell? ⟨w.heap.size+1+1+1,0,none⟩=some (.int .i32 0)/\W0.cell? ⟨w.heap.size+1+1+1,1,none⟩=some (.int .i32 0)/\W0.cell? ⟨w.heap.size+1+1+1,2,none⟩=some (.int .i32 0):=by
 subst hW0;refine ⟨by simp,((((jan _ w).alloc (jaa _) _).alloc jS _).alloc (by simp;omega) _).alloc (by simp;omega) _,?_,?_,?_,?_,?_,?_,?_⟩<;>first | (go_simp;done) | (intro o;go_simp;done)
theorem Zh {B S:Nat} {a w:World} (h:Below B a w) (hS:B<=S) (u0 u1 u2:Value) :
  Below B a (((w.setCell ⟨S,0,none⟩ u0).setCell ⟨S,1,none⟩ u1).setCell ⟨S,2,none⟩ u2) :=
 (((h.setCell (p:=⟨S,0,none⟩) hS u0).setCell (p:=⟨S,1,none⟩) hS u1).setCell (p:=⟨S,2,none⟩) hS u2)
theorem Qx (b n:Nat) (x:Int) (w W0 W:World)
  (hW0:W0=(((w.alloc (.cells #[.slice (some ⟨b,0,none⟩) n n] 25)).alloc (.cells #[.int .i32 x] 21)).alloc (.cells #[.func (.func 100) #[] #[]] 107)).alloc (.cells #[.int .i32 0,.int .i32 0,.int .i32 0] 67))
  (hb:Below W0.heap.size W0 W) :
  W.cell? ⟨w.heap.size,0,none⟩=some (.slice (some ⟨b,0,none⟩) n n)/\W.cell? ⟨w.heap.size+1,0,none⟩=some (.int .i32 x)/\W.cell? ⟨w.heap.size+1+1,0,none⟩=some (.func (.func 100) #[] #[]) /\
  (∀ o,W.frozen? ⟨w.heap.size+1+1+1,o,none⟩=false)/\W.cell? ⟨w.heap.size+1+1+1,0,none⟩=some (.int .i32 0)/\W.cell? ⟨w.heap.size+1+1+1,1,none⟩=some (.int .i32 0)/\W.cell? ⟨w.heap.size+1+1+1,2,none⟩=some (.int .i32 0):=by
 obtain ⟨hS,-,c0,c1,c2,fz,d0,d1,d2⟩:=Agh b n x w W0 hW0;have h0:w.heap.size<W0.heap.size:=jO
 have h1:w.heap.size+1<W0.heap.size:=jO
 have h2:w.heap.size+1+1<W0.heap.size:=jO
 have h3:w.heap.size+1+1+1<W0.heap.size:=jO
 exact ⟨(hb.cell (p:=⟨w.heap.size,0,none⟩) h0).trans c0,(hb.cell (p:=⟨w.heap.size+1,0,none⟩) h1).trans c1,(hb.cell (p:=⟨w.heap.size+1+1,0,none⟩) h2).trans c2,
  λo=>(hb.frozen (p:=⟨w.heap.size+1+1+1,o,none⟩) h3).trans (fz o),(hb.cell (p:=⟨w.heap.size+1+1+1,0,none⟩) h3).trans d0,(hb.cell (p:=⟨w.heap.size+1+1+1,1,none⟩) h3).trans d1,(hb.cell (p:=⟨w.heap.size+1+1+1,2,none⟩) h3).trans d2⟩
theorem Ag2 {rows:List Lw} {b:Nat} {w:World} (h:Jk Pn 3 rows b w) (k:Nat) (hk:k<rows.length) (y:Lw) (hy:rows[k]! = y) :
  w.cell? ⟨b,k*3,none⟩=some (.int .i32 y.lo)/\w.cell? ⟨b,k*3+1,none⟩=some (.int .i32 y.hi)/\w.cell? ⟨b,k*3+2,none⟩=some (.int .i32 y.far):=by
 have:=h.2 k hk;rw [hy] at this;exact ⟨this 0 _ rfl,this 1 _ rfl,this 2 _ rfl⟩
theorem Ap1 (b n:Nat) (rows:List Lw) (x:Int) (w:World) (hn:n=rows.length) (hl:Jk Pn 3 rows b w) (hrise:rising Lw.lo Lw.hi rows=true) (hsz:n<4611686018427387904) :
  Calls prog 99 #[.slice (some ⟨b,0,none⟩) n n,.int .i32 x,.func (.func 100) #[] #[]] w (Tu rows x w):=by
 obtain ⟨W0,hW0⟩:∃ W0,W0=(((w.alloc (.cells #[.slice (some ⟨b,0,none⟩) n n] 25)).alloc (.cells #[.int .i32 x] 21)).alloc (.cells #[.func (.func 100) #[] #[]] 107)).alloc (.cells #[.int .i32 0,.int .i32 0,.int .i32 0] 67):=⟨_,rfl⟩
 obtain ⟨hS,hB0,-⟩:=Agh b n x w W0 hW0;have hl0:=hl.below hB0;have eg:∀ args w,(callFunc 146 args).run prog w=.ok (.enter 146 args) w:=enters_of func146 jK rfl;have hSch:=Le 146 #[.pointer (some ⟨w.heap.size+1+1,0,none⟩),.pointer (some ⟨w.heap.size,0,none⟩),.pointer (some ⟨w.heap.size+1,0,none⟩)] n (λi=>decide (x<=rows[i]!.hi)) W0 W0 (jan _ _) eg hsz
  (λW i hb hi=>by
   obtain ⟨e0,e1,e2⟩:=Ag2 (hl0.below hb) i jO rows[i]! rfl;obtain ⟨a0,a1,a2,-⟩:=Qx b n x w W0 W hW0 hb;refine (Ahm (w.heap.size+1+1) w.heap.size (w.heap.size+1) b n rows[i]! x i W hi a2 a0 a1 (by have:=hb.size;omega) e0 e1 e2).mono λe w' h=>⟨h.1,hb.trans (h.2.mono hb.size)⟩)
  (λa c hac hc h=>by have:=Hn hrise a c hac jO;simp only [decide_eq_true_eq] at h ⊢;omega)
 have HN:=jH hn;have HS:=jH hS;have HW:=jH hW0;have HB0:=jH hB0;have HL:=jH hl0;clear hn hS hB0 hl0 hl eg hrise;go_enter func99,ntmps99;go_wp2_with fail;rw [<- hW0];refine hSch.mono ?_;rintro e w1 ⟨k,hk,k1,k2,rfl,hb1⟩;have HK:=jH (Qg (lo:=Lw.lo) (hi:=Lw.hi) x rows k (by have:=HN.out;omega) k1 (by rw [<- HN.out];exact k2));clear hSch k1 k2 hW0;obtain ⟨a0,a1,a2,fz,d0,d1,d2⟩:=Qx b n x w W0 w1 HW.out hb1;by_cases hlt:k<n
 ·have hkz:(k:Int)<(n:Int):=jO
  obtain ⟨e0,e1,e2⟩:=Ag2 (HL.out.below hb1) k (by have:=HN.out;omega) rows[k]! rfl;generalize hy:rows[k]! = y at e0 e1 e2;obtain ⟨v0,v1,v2⟩:=y;have HY:=jH hy;have HB1:=jH hb1;have H:=jH (λW=>Ak7 v0 v1 v2 W);clear hy hb1 fz d0 d1 d2;go_wp2_with fail;go_region_with ((go_at_call 100;refine (H.out _).mono ?_;rintro e w2 ⟨rfl,hb2⟩;have hb3:=HB1.out.trans ((Ag hb2).mono HB1.out.size);obtain ⟨b0,b1,b2,fz,d0,d1,d2⟩:=Qx b n x w W0 w2 HW.out hb3;obtain ⟨f0,f1,f2⟩:=Ag2 (HL.out.below hb3) k (by have:=HN.out;omega) _ HY.out;have HB2:=jH hb3;have hz:w.heap.size+1+1+1<w2.heap.size:=(by have:=hb3.size;have:=HS.out;omega);clear hb2 hb3 e0 e1 e2 a0 a1 a2))
  all_goals
   by_cases hlo:v0<=x
   ·go_wp2;refine bodyPost_ret (v:=.tuple #[.agg #[.int .i32 v0,.int .i32 v1,.int .i32 v2],.bool true]) (by simp [results,results99,go_sem,d0,d1,d2]) rfl ⟨?_,?_⟩
    ·rw [HK.out,if_pos (by have:=HN.out;omega),HY.out,if_pos (show (Lw.mk v0 v1 v2).lo<=x from hlo)];rfl
    ·exact Zh (HB0.out.trans (HB2.out.mono HB0.out.size)) jO _ _ _
   ·go_wp2;refine bodyPost_ret (v:=.tuple #[.agg #[.int .i32 0,.int .i32 0,.int .i32 0],.bool false]) (by simp [results,results99,go_sem,d0,d1,d2,hz]) rfl ⟨?_,?_⟩
    ·rw [HK.out,if_pos (by have:=HN.out;omega),HY.out,if_neg (show ¬ (Lw.mk v0 v1 v2).lo<=x from Int.not_le.2 hlo)];rfl
    ·exact Al (Zh (HB0.out.trans (HB2.out.mono HB0.out.size)) jO _ _ _) (jaa _) _
 ·have hkz:¬ (k:Int)<(n:Int):=jO
  have HB1:=jH hb1;have hz:w.heap.size+1+1+1<w1.heap.size:=(by have:=hb1.size;have:=HS.out;omega)
  clear hb1;go_wp2;refine bodyPost_ret (v:=.tuple #[.agg #[.int .i32 0,.int .i32 0,.int .i32 0],.bool false]) (by simp [results,results99,go_sem,d0,d1,d2,hz]) rfl ⟨?_,?_⟩
  ·rw [HK.out,if_neg (by have:=HN.out;omega)];rfl
  ·exact Al (Zh (HB0.out.trans (HB1.out.mono HB0.out.size)) jO _ _ _) (jaa _) _
end
section
open Go.RowKit
def Ew (x:Sp):List Value:=[.int .i32 x.rune,.int .i32 x.one,.int .i32 x.two,.bool x.soft,.bool x.out]
theorem Ak9 (v0 v1 v2:Int) (v3 v4:Bool) (w:World) :
  Calls prog 148 #[.agg #[.int .i32 v0,.int .i32 v1,.int .i32 v2,.bool v3,.bool v4]] w λe w'=>e=.returned (.tuple #[.int .i32 v0,.int .i32 v0])/\Below w.heap.size w w':=by
 go_enter func148,ntmps148;go_wp2;go_quiet (fail);go_wp2;go_ret2;exact ⟨rfl,below_drewN ((jan _ _).alloc (jaa _) _) _⟩
theorem Aho (be br bx b n:Nat) (y:Sp) (x:Int) (i:Nat) (W:World) (hi:i<n)
  (he:W.cell? ⟨be,0,none⟩=some (.func (.func 148) #[] #[])) (ha:W.cell? ⟨br,0,none⟩=some (.slice (some ⟨b,0,none⟩) n n)) (hx:W.cell? ⟨bx,0,none⟩=some (.int .i32 x))
  (hbx:bx<W.heap.size) (h0:W.cell? ⟨b,i*5,none⟩=some (.int .i32 y.rune)) (h1:W.cell? ⟨b,i*5+1,none⟩=some (.int .i32 y.one)) (h2:W.cell? ⟨b,i*5+2,none⟩=some (.int .i32 y.two)) (h3:W.cell? ⟨b,i*5+3,none⟩=some (.bool y.soft)) (h4:W.cell? ⟨b,i*5+4,none⟩=some (.bool y.out)) :
  Calls prog 187 (#[.int .i64 i] ++ #[.pointer (some ⟨be,0,none⟩),.pointer (some ⟨br,0,none⟩),.pointer (some ⟨bx,0,none⟩)]) W λe w'=>e=.returned (.bool (decide (x<=y.rune)))/\Below W.heap.size W w':=by
 obtain ⟨v0,v1,v2,v3,v4⟩:=y;have hiz:(i:Int)<(n:Int):=jO
 have H:=jH (λW=>Ak9 v0 v1 v2 v3 v4 W);go_enter func187,ntmps187;go_wp2_with fail;go_region_with ((go_at_call 148;refine (H.out _).mono ?_;rintro e w' ⟨rfl,hb⟩;have hx':w'.cell? ⟨bx,0,none⟩=some (.int .i32 x):=(hb.cell (p:=⟨bx,0,none⟩) hbx).trans hx;have HB:=jH hb;clear hb))
 all_goals go_wp2
 all_goals go_ret
 all_goals exact ⟨rfl,Ag HB.out⟩
def Tw (rows:List Sp) (x:Int) (w:World) (e:Ending) (w':World):Prop :=
 e=.returned (.tuple #[.agg (Ew ((Fm Sp.rune Sp.rune rows x).getD default)).toArray,.bool (Fm Sp.rune Sp.rune rows x).isSome])/\Below w.heap.size w w'
theorem Agj (b n:Nat) (x:Int) (w W0:World)
  (hW0:W0=(((w.alloc (.cells #[.slice (some ⟨b,0,none⟩) n n] 26)).alloc (.cells #[.int .i32 x] 21)).alloc (.cells #[.func (.func 148) #[] #[]] 145)).alloc (.cells #[.int .i32 0,.int .i32 0,.int .i32 0,.bool false,.bool false] 69)) :
  W0.heap.size=w.heap.size+1+1+1+1/\Below w.heap.size w W0/\W0.cell? ⟨w.heap.size,0,none⟩=some (.slice (some ⟨b,0,none⟩) n n)/\W0.cell? ⟨w.heap.size+1,0,none⟩=some (.int .i32 x)/\W0.cell? ⟨w.heap.size+1+1,0,none⟩=some (.func (.func 148) #[] #[]) /\
  (∀ o,W0.frozen? ⟨w.heap.size+1+1+1,o,none⟩=false)/\W0.cell? ⟨w.heap.size+1+1+1,0,none⟩=some (.int .i32 0)/\W0.cell? ⟨w.heap.size+1+1+1,1,none⟩=some (.int .i32 0)/\W0.cell? ⟨w.heap.size+1+1+1,2,none⟩=some (.int .i32 0)/\W0.cell? ⟨w.heap.size+1+1+1,3,none⟩=some (.bool false)/\W0.cell? ⟨w.heap.size+1+1+1,4,none⟩=some (.bool false):=by
 subst hW0;refine ⟨by simp,((((jan _ w).alloc (jaa _) _).alloc jS _).alloc (by simp;omega) _).alloc (by simp;omega) _,?_,?_,?_,?_,?_,?_,?_,?_,?_⟩<;>first | (go_simp;done) | (intro o;go_simp;done)
theorem Hy {B S:Nat} {a w:World} (h:Below B a w) (hS:B<=S) (u0 u1 u2 u3 u4:Value) :
  Below B a (((((w.setCell ⟨S,0,none⟩ u0).setCell ⟨S,1,none⟩ u1).setCell ⟨S,2,none⟩ u2).setCell ⟨S,3,none⟩ u3).setCell ⟨S,4,none⟩ u4) :=
 (((((h.setCell (p:=⟨S,0,none⟩) hS u0).setCell (p:=⟨S,1,none⟩) hS u1).setCell (p:=⟨S,2,none⟩) hS u2).setCell (p:=⟨S,3,none⟩) hS u3).setCell (p:=⟨S,4,none⟩) hS u4)
theorem Qz (b n:Nat) (x:Int) (w W0 W:World)
  (hW0:W0=(((w.alloc (.cells #[.slice (some ⟨b,0,none⟩) n n] 26)).alloc (.cells #[.int .i32 x] 21)).alloc (.cells #[.func (.func 148) #[] #[]] 145)).alloc (.cells #[.int .i32 0,.int .i32 0,.int .i32 0,.bool false,.bool false] 69))
  (hb:Below W0.heap.size W0 W) :
  W.cell? ⟨w.heap.size,0,none⟩=some (.slice (some ⟨b,0,none⟩) n n)/\W.cell? ⟨w.heap.size+1,0,none⟩=some (.int .i32 x)/\W.cell? ⟨w.heap.size+1+1,0,none⟩=some (.func (.func 148) #[] #[]) /\
  (∀ o,W.frozen? ⟨w.heap.size+1+1+1,o,none⟩=false)/\W.cell? ⟨w.heap.size+1+1+1,0,none⟩=some (.int .i32 0)/\W.cell? ⟨w.heap.size+1+1+1,1,none⟩=some (.int .i32 0)/\W.cell? ⟨w.heap.size+1+1+1,2,none⟩=some (.int .i32 0)/\W.cell? ⟨w.heap.size+1+1+1,3,none⟩=some (.bool false)/\W.cell? ⟨w.heap.size+1+1+1,4,none⟩=some (.bool false):=by
 obtain ⟨hS,-,c0,c1,c2,fz,d0,d1,d2,d3,d4⟩:=Agj b n x w W0 hW0;have h0:w.heap.size<W0.heap.size:=jO
 have h1:w.heap.size+1<W0.heap.size:=jO
 have h2:w.heap.size+1+1<W0.heap.size:=jO
 have h3:w.heap.size+1+1+1<W0.heap.size:=jO
 exact ⟨(hb.cell (p:=⟨w.heap.size,0,none⟩) h0).trans c0,(hb.cell (p:=⟨w.heap.size+1,0,none⟩) h1).trans c1,(hb.cell (p:=⟨w.heap.size+1+1,0,none⟩) h2).trans c2,
  λo=>(hb.frozen (p:=⟨w.heap.size+1+1+1,o,none⟩) h3).trans (fz o),(hb.cell (p:=⟨w.heap.size+1+1+1,0,none⟩) h3).trans d0,(hb.cell (p:=⟨w.heap.size+1+1+1,1,none⟩) h3).trans d1,(hb.cell (p:=⟨w.heap.size+1+1+1,2,none⟩) h3).trans d2,(hb.cell (p:=⟨w.heap.size+1+1+1,3,none⟩) h3).trans d3,(hb.cell (p:=⟨w.heap.size+1+1+1,4,none⟩) h3).trans d4⟩
theorem V8 {rows:List Sp} {b:Nat} {w:World} (h:Jk Ew 5 rows b w) (k:Nat) (hk:k<rows.length) (y:Sp) (hy:rows[k]! = y) :
  w.cell? ⟨b,k*5,none⟩=some (.int .i32 y.rune)/\w.cell? ⟨b,k*5+1,none⟩=some (.int .i32 y.one)/\w.cell? ⟨b,k*5+2,none⟩=some (.int .i32 y.two)/\w.cell? ⟨b,k*5+3,none⟩=some (.bool y.soft)/\w.cell? ⟨b,k*5+4,none⟩=some (.bool y.out):=by
 have:=h.2 k hk;rw [hy] at this;exact ⟨this 0 _ rfl,this 1 _ rfl,this 2 _ rfl,this 3 _ rfl,this 4 _ rfl⟩
theorem Ap3 (b n:Nat) (rows:List Sp) (x:Int) (w:World) (hn:n=rows.length) (hl:Jk Ew 5 rows b w) (hrise:rising Sp.rune Sp.rune rows=true) (hsz:n<4611686018427387904) :
  Calls prog 147 #[.slice (some ⟨b,0,none⟩) n n,.int .i32 x,.func (.func 148) #[] #[]] w (Tw rows x w):=by
 obtain ⟨W0,hW0⟩:∃ W0,W0=(((w.alloc (.cells #[.slice (some ⟨b,0,none⟩) n n] 26)).alloc (.cells #[.int .i32 x] 21)).alloc (.cells #[.func (.func 148) #[] #[]] 145)).alloc (.cells #[.int .i32 0,.int .i32 0,.int .i32 0,.bool false,.bool false] 69):=⟨_,rfl⟩
 obtain ⟨hS,hB0,-⟩:=Agj b n x w W0 hW0;have hl0:=hl.below hB0;have eg:∀ args w,(callFunc 187 args).run prog w=.ok (.enter 187 args) w:=enters_of func187 jK rfl;have hSch:=Le 187 #[.pointer (some ⟨w.heap.size+1+1,0,none⟩),.pointer (some ⟨w.heap.size,0,none⟩),.pointer (some ⟨w.heap.size+1,0,none⟩)] n (λi=>decide (x<=rows[i]!.rune)) W0 W0 (jan _ _) eg hsz
  (λW i hb hi=>by
   obtain ⟨e0,e1,e2,e3,e4⟩:=V8 (hl0.below hb) i jO rows[i]! rfl;obtain ⟨a0,a1,a2,-⟩:=Qz b n x w W0 W hW0 hb;refine (Aho (w.heap.size+1+1) w.heap.size (w.heap.size+1) b n rows[i]! x i W hi a2 a0 a1 (by have:=hb.size;omega) e0 e1 e2 e3 e4).mono λe w' h=>⟨h.1,hb.trans (h.2.mono hb.size)⟩)
  (λa c hac hc h=>by have:=Hn hrise a c hac jO;simp only [decide_eq_true_eq] at h ⊢;omega)
 have HN:=jH hn;have HS:=jH hS;have HW:=jH hW0;have HB0:=jH hB0;have HL:=jH hl0;clear hn hS hB0 hl0 hl eg hrise;go_enter func147,ntmps147;go_wp2_with fail;rw [<- hW0];refine hSch.mono ?_;rintro e w1 ⟨k,hk,k1,k2,rfl,hb1⟩;have HK:=jH (Qg (lo:=Sp.rune) (hi:=Sp.rune) x rows k (by have:=HN.out;omega) k1 (by rw [<- HN.out];exact k2));clear hSch k1 k2 hW0;obtain ⟨a0,a1,a2,fz,d0,d1,d2,d3,d4⟩:=Qz b n x w W0 w1 HW.out hb1;by_cases hlt:k<n
 ·have hkz:(k:Int)<(n:Int):=jO
  obtain ⟨e0,e1,e2,e3,e4⟩:=V8 (HL.out.below hb1) k (by have:=HN.out;omega) rows[k]! rfl;generalize hy:rows[k]! = y at e0 e1 e2 e3 e4;obtain ⟨v0,v1,v2,v3,v4⟩:=y;have HY:=jH hy;have HB1:=jH hb1;have H:=jH (λW=>Ak9 v0 v1 v2 v3 v4 W);clear hy hb1 fz d0 d1 d2 d3 d4;go_wp2_with fail;go_region_with ((go_at_call 148;refine (H.out _).mono ?_;rintro e w2 ⟨rfl,hb2⟩;have hb3:=HB1.out.trans ((Ag hb2).mono HB1.out.size);obtain ⟨b0,b1,b2,fz,d0,d1,d2,d3,d4⟩:=Qz b n x w W0 w2 HW.out hb3;obtain ⟨f0,f1,f2,f3,f4⟩:=V8 (HL.out.below hb3) k (by have:=HN.out;omega) _ HY.out;have HB2:=jH hb3;have hz:w.heap.size+1+1+1<w2.heap.size:=(by have:=hb3.size;have:=HS.out;omega);clear hb2 hb3 e0 e1 e2 e3 e4 a0 a1 a2))
  all_goals
   by_cases hlo:v0<=x
   ·go_wp2;refine bodyPost_ret (v:=.tuple #[.agg #[.int .i32 v0,.int .i32 v1,.int .i32 v2,.bool v3,.bool v4],.bool true]) (by simp [results,results147,go_sem,d0,d1,d2,d3,d4]) rfl ⟨?_,?_⟩
    ·rw [HK.out,if_pos (by have:=HN.out;omega),HY.out,if_pos (show (Sp.mk v0 v1 v2 v3 v4).rune<=x from hlo)];rfl
    ·exact Hy (HB0.out.trans (HB2.out.mono HB0.out.size)) jO _ _ _ _ _
   ·go_wp2;refine bodyPost_ret (v:=.tuple #[.agg #[.int .i32 0,.int .i32 0,.int .i32 0,.bool false,.bool false],.bool false]) (by simp [results,results147,go_sem,d0,d1,d2,d3,d4,hz]) rfl ⟨?_,?_⟩
    ·rw [HK.out,if_pos (by have:=HN.out;omega),HY.out,if_neg (show ¬ (Sp.mk v0 v1 v2 v3 v4).rune<=x from Int.not_le.2 hlo)];rfl
    ·exact Al (Hy (HB0.out.trans (HB2.out.mono HB0.out.size)) jO _ _ _ _ _) (jaa _) _
 ·have hkz:¬ (k:Int)<(n:Int):=jO
  have HB1:=jH hb1;have hz:w.heap.size+1+1+1<w1.heap.size:=(by have:=hb1.size;have:=HS.out;omega)
  clear hb1;go_wp2;refine bodyPost_ret (v:=.tuple #[.agg #[.int .i32 0,.int .i32 0,.int .i32 0,.bool false,.bool false],.bool false]) (by simp [results,results147,go_sem,d0,d1,d2,d3,d4,hz]) rfl ⟨?_,?_⟩
  ·rw [HK.out,if_neg (by have:=HN.out;omega)];rfl
  ·exact Al (Hy (HB0.out.trans (HB1.out.mono HB0.out.size)) jO _ _ _ _ _) (jaa _) _
end
