import Derived.Test.YthnhgmdlbfbhjaaGreatDomRefs
namespace Go.Proofs.YthnhgmdlbfbhjaaGreat
open Tryz
open Go.RowKit Utf
namespace Dom
theorem Mh {bs:List UInt8} {L:List (List Int)} (h:Bi bs=(0,L)):0<L.length:=by
 unfold Bi at h;split at h
 ·split at h
  ·injection h with e1 e2;exact absurd e1 jD
  ·split at h
   ·injection h with e1 e2;exact absurd e1 jD
   ·injection h with e1 e2
    obtain ⟨a,t,e⟩:=Ev (Fold.fold (ints (A9 bs).1));rw [<- e2,e];exact Nat.succ_pos _
 ·injection h with e1 e2;exact absurd e1 jD
theorem Aep {bs:List UInt8} {E:Int} {L:List (List Int)} (h:Bi bs=(E,L)) (hE:E ≠ 0):As bs=(E,[],[]):=by
 unfold As;rw [h,if_neg hE]
end Dom
set_option maxHeartbeats 8000000 in
set_option maxRecDepth 100000 in
theorem Ais (B:Hd) (C:∀ (t:Value) (s:ByteArray) (w:World),Table w t->Bc s->Calls prog 20 #[t,.string s] w λe w'=>e=.returned (.tuple #[.string ⟨(Lab.Bj s.data.toList).2.1.toArray⟩,.int .i64 (Lab.Bj s.data.toList).1])/\Below w.heap.size w w')
  (s:ByteArray) (w:World):Calls prog 6 #[.string s] w λe w'=>e=.returned (.bool true)/\Below w.heap.size w w':=by
 by_cases hs:s.size<=150
 ·have hs':¬ (150:Int)<(s.size:Int):=jO
  by_cases h0:s.size=0
  ·have h0':(s.size:Int)=0:=jO
   clear hs h0;go_enter func6,ntmps6;go_wp2_with fail;refine (Av B _).mono ?_;rintro e w0 ⟨rfl,hb0⟩;have B0:=jH hb0;clear hb0;go_wp2;go_ret;exact ⟨rfl,B0.out⟩
  ·have h0':¬ (s.size:Int)=0:=jO
   have h00:((s.size:Int) == 0)=false:=by simpa using h0
   have h01:decide ((150:Int)<(s.size:Int))=false:=decide_eq_false hs';have LS:=jH (Dm (s:=s) jO);obtain ⟨⟨E,L⟩,hL⟩:∃ p,Dom.Bi s.data.toList=p:=⟨_,rfl⟩
   obtain ⟨⟨F,x,u⟩,hx⟩:∃ p,Dom.As s.data.toList=p:=⟨_,rfl⟩
   obtain ⟨⟨G,y,v⟩,hy⟩:∃ p,Lab.Bj s.data.toList=p:=⟨_,rfl⟩
   have HL:=jH hL;have HX:=jH hx;have lL:L.length<=32:=by have:=(Dom.Fe (bs:=s.data.toList) (λm hm=>(LS.out.2 m hm).2)).1;rw [hL] at this;exact this
   have CS:=jH (λW T hT=>C T s W hT LS.out);rw [hy] at CS;clear hs h0;by_cases hE:E=0
   ·subst hE;by_cases h1:L.length=1
    ·have he:=Dom.one hL h1;rw [hx,hy] at he;injection he with e1 e2
     injection e2 with e2 e3
     subst e1 e2 e3;have h1':(L.length:Int)=1:=jO
     clear hL hx hy h1;go_enter func6,ntmps6;go_wp2_with fail;refine (Av B _).mono ?_;rintro e w0 ⟨rfl,hb0⟩;have B0:=jH hb0;clear hb0;go_wp2_with fail;refine (Dz _).mono ?_;rintro e w1 ⟨tt,rfl,hT,hb1⟩;have hT':=hT;obtain ⟨b0,b1,b2,b3,rfl,-,-,-,-⟩:=hT';have K0:=jH (Cs (b0:=b0) (b1:=b1) (b2:=b2) (b3:=b3) (Aa B0.out hb1) hT 28);obtain ⟨hS,c0,c1,c2,c3⟩:=K0.out.held;clear hT hb1 B0;go_wp2_with fail;refine (B.Dv (.agg #[.slice (some ⟨b0,0,none⟩) 74 74,.slice (some ⟨b1,0,none⟩) 10 10,.slice (some ⟨b2,0,none⟩) 11 11,.slice (some ⟨b3,0,none⟩) 42 42]) s _ K0.out.table LS.out HL.out).mono ?_;rintro e w2 ⟨v1,rfl,hv,hb⟩;obtain ⟨A1,q1,rfl,-,-⟩:=hv.form;rw [jai];clear hv;have K1:=jH (K0.out.next hb);clear hb K0 hS c0 c1 c2 c3;obtain ⟨hS,c0,c1,c2,c3⟩:=K1.out.held;go_wp2_with fail;refine (B.Az (.agg #[.slice (some ⟨b0,0,none⟩) 74 74,.slice (some ⟨b1,0,none⟩) 10 10,.slice (some ⟨b2,0,none⟩) 11 11,.slice (some ⟨b3,0,none⟩) 42 42]) s _ K1.out.table LS.out HX.out).mono ?_;rintro e w3 ⟨rfl,hb⟩;have K2:=jH (K1.out.next hb);clear hb K1 hS c0 c1 c2 c3;obtain ⟨hS,c0,c1,c2,c3⟩:=K2.out.held;go_wp2_with fail;refine (CS.out _ (.agg #[.slice (some ⟨b0,0,none⟩) 74 74,.slice (some ⟨b1,0,none⟩) 10 10,.slice (some ⟨b2,0,none⟩) 11 11,.slice (some ⟨b3,0,none⟩) 42 42]) K2.out.table).mono ?_;rintro e w4 ⟨rfl,hb⟩;have K3:=jH (K2.out.next hb);clear hb K2 hS c0 c1 c2 c3;go_wp2;go_ret;exact ⟨rfl,K3.out.below⟩
    ·have h1':¬ (L.length:Int)=1:=jO
     have h2':(1:Int)<(L.length:Int):=by have:=Dom.Mh hL;omega
     clear hL hx hy h1;go_enter func6,ntmps6;go_wp2_with fail;refine (Av B _).mono ?_;rintro e w0 ⟨rfl,hb0⟩;have B0:=jH hb0;clear hb0;go_wp2_with fail;refine (Dz _).mono ?_;rintro e w1 ⟨tt,rfl,hT,hb1⟩;have hT':=hT;obtain ⟨b0,b1,b2,b3,rfl,-,-,-,-⟩:=hT';have K0:=jH (Cs (b0:=b0) (b1:=b1) (b2:=b2) (b3:=b3) (Aa B0.out hb1) hT 28);obtain ⟨hS,c0,c1,c2,c3⟩:=K0.out.held;clear hT hb1 B0;go_wp2_with fail;refine (B.Dv (.agg #[.slice (some ⟨b0,0,none⟩) 74 74,.slice (some ⟨b1,0,none⟩) 10 10,.slice (some ⟨b2,0,none⟩) 11 11,.slice (some ⟨b3,0,none⟩) 42 42]) s _ K0.out.table LS.out HL.out).mono ?_;rintro e w2 ⟨v1,rfl,hv,hb⟩;obtain ⟨A1,q1,rfl,-,-⟩:=hv.form;rw [jai];clear hv;have K1:=jH (K0.out.next hb);clear hb K0 hS c0 c1 c2 c3;obtain ⟨hS,c0,c1,c2,c3⟩:=K1.out.held;go_wp2_with fail;refine (B.Az (.agg #[.slice (some ⟨b0,0,none⟩) 74 74,.slice (some ⟨b1,0,none⟩) 10 10,.slice (some ⟨b2,0,none⟩) 11 11,.slice (some ⟨b3,0,none⟩) 42 42]) s _ K1.out.table LS.out HX.out).mono ?_;rintro e w3 ⟨rfl,hb⟩;have K2:=jH (K1.out.next hb);clear hb K1 hS c0 c1 c2 c3;obtain ⟨hS,c0,c1,c2,c3⟩:=K2.out.held;go_wp2_with fail;refine (CS.out _ (.agg #[.slice (some ⟨b0,0,none⟩) 74 74,.slice (some ⟨b1,0,none⟩) 10 10,.slice (some ⟨b2,0,none⟩) 11 11,.slice (some ⟨b3,0,none⟩) 42 42]) K2.out.table).mono ?_;rintro e w4 ⟨rfl,hb⟩;have K3:=jH (K2.out.next hb);clear hb K2 hS c0 c1 c2 c3;go_wp2;go_ret;exact ⟨rfl,K3.out.below⟩
   ·have he:=Dom.Aep hL hE;rw [hx] at he;injection he with e1 e2
    subst e1;have e0:(F != 0)=true:=by simpa using hE
    clear hL hx hy hE e2;go_enter func6,ntmps6;go_wp2_with fail;refine (Av B _).mono ?_;rintro e w0 ⟨rfl,hb0⟩;have B0:=jH hb0;clear hb0;go_wp2_with fail;refine (Dz _).mono ?_;rintro e w1 ⟨tt,rfl,hT,hb1⟩;have hT':=hT;obtain ⟨b0,b1,b2,b3,rfl,-,-,-,-⟩:=hT';have K0:=jH (Cs (b0:=b0) (b1:=b1) (b2:=b2) (b3:=b3) (Aa B0.out hb1) hT 28);obtain ⟨hS,c0,c1,c2,c3⟩:=K0.out.held;clear hT hb1 B0;go_wp2_with fail;refine (B.Dv (.agg #[.slice (some ⟨b0,0,none⟩) 74 74,.slice (some ⟨b1,0,none⟩) 10 10,.slice (some ⟨b2,0,none⟩) 11 11,.slice (some ⟨b3,0,none⟩) 42 42]) s _ K0.out.table LS.out HL.out).mono ?_;rintro e w2 ⟨v1,rfl,hv,hb⟩;obtain ⟨A1,q1,rfl,-,-⟩:=hv.form;rw [jai];clear hv;have K1:=jH (K0.out.next hb);clear hb K0 hS c0 c1 c2 c3;obtain ⟨hS,c0,c1,c2,c3⟩:=K1.out.held;go_wp2_with fail;refine (B.Az (.agg #[.slice (some ⟨b0,0,none⟩) 74 74,.slice (some ⟨b1,0,none⟩) 10 10,.slice (some ⟨b2,0,none⟩) 11 11,.slice (some ⟨b3,0,none⟩) 42 42]) s _ K1.out.table LS.out HX.out).mono ?_;rintro e w3 ⟨rfl,hb⟩;have K2:=jH (K1.out.next hb);clear hb K1 hS c0 c1 c2 c3;obtain ⟨hS,c0,c1,c2,c3⟩:=K2.out.held;go_wp2_with fail;refine (CS.out _ (.agg #[.slice (some ⟨b0,0,none⟩) 74 74,.slice (some ⟨b1,0,none⟩) 10 10,.slice (some ⟨b2,0,none⟩) 11 11,.slice (some ⟨b3,0,none⟩) 42 42]) K2.out.table).mono ?_;rintro e w4 ⟨rfl,hb⟩;have K3:=jH (K2.out.next hb);clear hb K2 hS c0 c1 c2 c3;go_wp2;go_ret;exact ⟨rfl,K3.out.below⟩
 ·have hs':(150:Int)<(s.size:Int):=jO
  clear hs;go_enter func6,ntmps6;go_wp2_with fail;refine (Av B _).mono ?_;rintro e w0 ⟨rfl,hb0⟩;have B0:=jH hb0;clear hb0;go_wp2;go_ret;exact ⟨rfl,B0.out⟩
