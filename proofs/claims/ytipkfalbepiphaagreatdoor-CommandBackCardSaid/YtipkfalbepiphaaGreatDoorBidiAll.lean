import Derived.Test.YtipkfalbepiphaaGreatDoorLabPl
import Derived.Deep.DeepCutAuto
set_option maxRecDepth 100000
set_option maxHeartbeats 8000000
namespace Go.Proofs.YtipkfalbepiphaaGreatDoor
open Tryz
section
open Go.RowKit
theorem Aay (a0 a1 a2 a3 a4 a5 a6 a7:Bool) (w:World):Calls prog 287 #[.agg #[.bool a0,.bool a1,.bool a2,.bool a3,.bool a4,.bool a5,.bool a6,.bool a7]] w λe w'=>e=.returned (.bool (a2 || a3 || a5))/\Below w.heap.size w w':=by
 cases a2<;>cases a3<;>cases a5
 all_goals
  go_enter func287,ntmps287;go_wp2;go_ret;exact ⟨rfl,(jan _ w).alloc (jaa _) _⟩
theorem Aun (a0 a1 a2 a3 a4 a5 a6 a7:Bool) (w:World):Calls prog 291 #[.agg #[.bool a0,.bool a1,.bool a2,.bool a3,.bool a4,.bool a5,.bool a6,.bool a7]] w λe w'=>e=.returned (.bool (a4 && a5))/\Below w.heap.size w w':=by
 cases a4<;>cases a5
 all_goals
  go_enter func291,ntmps291;go_wp2;go_ret;exact ⟨rfl,(jan _ w).alloc (jaa _) _⟩
theorem Abj (d:Int) (w:World):Calls prog 290 #[.int .i64 d] w λe w'=>e=.returned (.bool (Bidi.Adf d))/\Below w.heap.size w w':=by
 have cs:d=2\/d=3\/d=4\/d=5\/(d ≠ 2/\d ≠ 3/\d ≠ 4/\d ≠ 5):=jO
 rcases cs with rfl | rfl | rfl | rfl | ⟨h2,h3,h4,h5⟩
 case inr.inr.inr.inr =>
  have e2:(d == 2)=false:=by simpa using h2
  have e3:(d == 3)=false:=by simpa using h3
  have e4:(d == 4)=false:=by simpa using h4
  have e5:(d == 5)=false:=by simpa using h5
  have R:Bidi.Adf d=false:=by unfold Bidi.Adf;rw [e2,e3,e4,e5];rfl
  rw [R];clear R h2 h3 h4 h5;go_enter func290,ntmps290;go_wp2;go_ret;exact ⟨rfl,jan _ _⟩
 all_goals
  go_enter func290,ntmps290;go_wp2;go_ret;exact ⟨rfl,jan _ _⟩
theorem Afr (d:Int) (w:World):Calls prog 292 #[.int .i64 d] w λe w'=>e=.returned (.bool (Bidi.Ai8 d))/\Below w.heap.size w w':=by
 have cs:d=1\/d=4\/(d ≠ 1/\d ≠ 4):=jO
 rcases cs with rfl | rfl | ⟨h1,h4⟩
 case inr.inr =>
  have e1:(d == 1)=false:=by simpa using h1
  have e4:(d == 4)=false:=by simpa using h4
  have R:Bidi.Ai8 d=false:=by unfold Bidi.Ai8;rw [e1,e4];rfl
  rw [R];clear R h1 h4;go_enter func292,ntmps292;go_wp2;go_ret;exact ⟨rfl,jan _ _⟩
 all_goals
  go_enter func292,ntmps292;go_wp2;go_ret;exact ⟨rfl,jan _ _⟩
end
section
open Go.RowKit
namespace Bidi
theorem Ej (l:List Int) (k:Nat) (h:k<l.length):l.drop k=l[k]!::l.drop (k+1):=by
 rw [getElem!_pos l k h];exact List.drop_eq_getElem_cons h
theorem take_at (l:List Int) (k:Nat) (h:k<l.length):l.take (k+1)=l.take k ++ [l[k]!]:=by
 rw [getElem!_pos l k h];exact List.take_succ_eq_append_getElem h
theorem Awn (p:List Int) (x:Int):stop (p ++ [x])=if Cd x=6 then stop p else Cd x:=by
 unfold stop;rw [List.reverse_append];rfl
theorem Axt (b:Int) (p:List Int) (x:Int):any b (p ++ [x])=(any b p || Cd x == b):=by rw [Wu];simp [any]
def zero (_:List Int):Bool:=false
end Bidi
end
section
open Go.RowKit
theorem Ata:∀ x ∈ ranges,0<=x.bidi/\x.bidi<=7:=by decide +kernel
theorem Ayf (r:Int):0<=Cd r/\Cd r<=7:=by
 unfold Cd;cases h:Gx r with
 | none=>exact ⟨by decide,by decide⟩
 | some x=>exact Ata x (Dm h).1
def KAt (B:Nat) (a0 a1 a2 a3 a4 a5 a6 a7:Bool) (w:World):Prop:=w.heap[B]? = some (.cells #[.bool a0,.bool a1,.bool a2,.bool a3,.bool a4,.bool a5,.bool a6,.bool a7] 323 (0,0))
theorem KAt.lt {B:Nat} {a0 a1 a2 a3 a4 a5 a6 a7:Bool} {w:World} (H:KAt B a0 a1 a2 a3 a4 a5 a6 a7 w):B<w.heap.size:=(Array.getElem?_eq_some_iff.1 H).1
theorem KAt.Ac {B:Nat} {a0 a1 a2 a3 a4 a5 a6 a7:Bool} {w w':World} (H:KAt B a0 a1 a2 a3 a4 a5 a6 a7 w) (hb:Below w.heap.size w w'):KAt B a0 a1 a2 a3 a4 a5 a6 a7 w':=(hb.block B H.lt).trans H
theorem KAt.fr {B:Nat} {a0 a1 a2 a3 a4 a5 a6 a7:Bool} {w:World} (H:KAt B a0 a1 a2 a3 a4 a5 a6 a7 w) (k:Nat):w.frozen? ⟨B,k,none⟩=false:=by unfold KAt at H;simp [World.frozen?,H]
theorem KAt.cells {B:Nat} {a0 a1 a2 a3 a4 a5 a6 a7:Bool} {w:World} (H:KAt B a0 a1 a2 a3 a4 a5 a6 a7 w) :
  w.cell? ⟨B,0,none⟩=some (.bool a0)/\w.cell? ⟨B,1,none⟩=some (.bool a1)/\w.cell? ⟨B,2,none⟩=some (.bool a2)/\w.cell? ⟨B,3,none⟩=some (.bool a3) /\
  w.cell? ⟨B,4,none⟩=some (.bool a4)/\w.cell? ⟨B,5,none⟩=some (.bool a5)/\w.cell? ⟨B,6,none⟩=some (.bool a6)/\w.cell? ⟨B,7,none⟩=some (.bool a7):=by
 unfold KAt at H;refine ⟨?_,?_,?_,?_,?_,?_,?_,?_⟩<;>simp [World.cell?,H]
theorem KAt.at_ {B:Nat} {a0 a1 a2 a3 a4 a5 a6 a7:Bool} {w:World} (H:KAt B a0 a1 a2 a3 a4 a5 a6 a7 w) (k:Nat) (hk:k<=7):∃ y,w.cell? ⟨B,k,none⟩=some (.bool y):=by
 have:k=0\/k=1\/k=2\/k=3\/k=4\/k=5\/k=6\/k=7:=jO
 obtain ⟨h0,h1,h2,h3,h4,h5,h6,h7⟩:=H.cells;rcases this with rfl | rfl | rfl | rfl | rfl | rfl | rfl | rfl
 · exact ⟨_,h0⟩
 · exact ⟨_,h1⟩
 · exact ⟨_,h2⟩
 · exact ⟨_,h3⟩
 · exact ⟨_,h4⟩
 · exact ⟨_,h5⟩
 · exact ⟨_,h6⟩
 · exact ⟨_,h7⟩
theorem KAt.other {B C:Nat} {a0 a1 a2 a3 a4 a5 a6 a7:Bool} {w:World} (H:KAt B a0 a1 a2 a3 a4 a5 a6 a7 w) (hne:C ≠ B) (k:Nat) (v:Value):KAt B a0 a1 a2 a3 a4 a5 a6 a7 (w.setCell ⟨C,k,none⟩ v):=by
 unfold KAt at H ⊢;rw [<- H];exact Below.heap_setCell _ _ _ _ (λe=>hne (by rw [show (⟨C,k,none⟩:Addr).block=C from rfl] at e;exact e.symm))
theorem KAt.set {B:Nat} {a0 a1 a2 a3 a4 a5 a6 a7:Bool} {w:World} (H:KAt B a0 a1 a2 a3 a4 a5 a6 a7 w) (k:Nat) (hk:k<=7) :
  KAt B (a0 || k == 0) (a1 || k == 1) (a2 || k == 2) (a3 || k == 3) (a4 || k == 4) (a5 || k == 5) (a6 || k == 6) (a7 || k == 7) (w.setCell ⟨B,k,none⟩ (.bool true)):=by
 unfold KAt at H ⊢;have:k=0\/k=1\/k=2\/k=3\/k=4\/k=5\/k=6\/k=7:=jO
 rcases this with rfl | rfl | rfl | rfl | rfl | rfl | rfl | rfl<;>simp [World.setCell,Array.getElem?_modify,H]
theorem W7 (w:World) (n:Nat) (hn:n=w.heap.size):KAt n false false false false false false false false (w.alloc (.cells #[.bool false,.bool false,.bool false,.bool false,.bool false,.bool false,.bool false,.bool false] 323)):=by
 subst hn;exact heap_alloc_new w _
theorem V0 (t v:Value) (l:List Int) (w:World) (hT:Table w t) (hl:Runes v l w) (hn:l.length<=10000) :
  Calls prog 286 #[t,v] w λe w'=>e=.returned (.agg #[.bool (Bidi.any 0 l),.bool (Bidi.any 1 l),.bool (Bidi.any 2 l),.bool (Bidi.any 3 l),.bool (Bidi.any 4 l),.bool (Bidi.any 5 l),.bool (Bidi.any 6 l),.bool (Bidi.any 7 l)])/\Below w.heap.size w w':=by
 obtain ⟨A,c,rfl,-,hcell⟩:=hl.form;have HC:=jH hcell;have HT:=jH hT;obtain ⟨b0,b1,b2,b3,rfl,-,-,-,-⟩:=hT;clear hl hcell;go_enter func286,ntmps286;have h0:=(((jan w.heap.size w).alloc (jaa _) (.cells #[.slice (some ⟨b0,0,none⟩) 74 74,.slice (some ⟨b1,0,none⟩) 10 10,.slice (some ⟨b2,0,none⟩) 11 11,.slice (some ⟨b3,0,none⟩) 42 42] 35)).alloc jS (.cells #[.bool false,.bool false,.bool false,.bool false,.bool false,.bool false,.bool false,.bool false] 323)).alloc (by simp;omega) (.cells #[.bool false,.bool false,.bool false,.bool false,.bool false,.bool false,.bool false,.bool false] 323);have H0:=jH h0;clear h0;go_wp2;go_loopg [7,10] (l.length+1) (λgk _ i wr=>∃ k:Nat,k<=l.length/\i=.int .i64 k/\l.length - k<gk/\Hid (Below w.heap.size w wr/\I6 w.heap.size b0 b1 b2 b3 wr/\KAt (w.heap.size+1) false false false false false false false false wr/\KAt (w.heap.size+1+1) (Bidi.any 0 (l.take k)) (Bidi.any 1 (l.take k)) (Bidi.any 2 (l.take k)) (Bidi.any 3 (l.take k)) (Bidi.any 4 (l.take k)) (Bidi.any 5 (l.take k)) (Bidi.any 6 (l.take k)) (Bidi.any 7 (l.take k)) wr))
 case atStart =>
  refine ⟨0,Nat.zero_le _,rfl,by omega,⟨H0.out,?_,?_,?_⟩⟩
  ·exact (Ih w b0 b1 b2 b3 _).below (((jan _ _).alloc (jaa _) _).alloc jS _)
  ·exact (W7 _ _ jS).Ac ((jan _ _).alloc (jaa _) _)
  ·exact W7 _ _ jS
 case round =>
  obtain ⟨k,hk,rfl,hg,I⟩:=hrel;by_cases hlt:k<l.length
  ·obtain ⟨ad,rfl,hb,hx⟩:=HC.out k hlt;have hx':=(I.out.1.cell (by rw [Bf];exact hb)).trans hx;obtain ⟨x,hxe⟩:∃ x,x=l[k]!:=⟨_,rfl⟩
   rw [<- hxe] at hx';have ht:=Bidi.take_at l k hlt;rw [<- hxe] at ht;have hd:=Ayf x;have K:=jH (Xz _ x wr (HT.out.below I.out.1));obtain ⟨hS,c0,c1,c2,c3⟩:=I.out.2.1;obtain ⟨b,hbe⟩:∃ b:Nat,b=Cd x/\b<=7:=⟨(Cd x).toNat,by omega,by omega⟩
   have hn':∀ d:Int,Bidi.any d (l.take (k+1))=(Bidi.any d (l.take k) || ((b:Int) == d)):=λd=>by rw [ht,Bidi.Axt,hbe.1]
   have HN:=jH hn';rw [<- hbe.1] at K;have hb7:=hbe.2;clear hx hb hxe hd ht hbe hn';have hkz:(k:Int)<(l.length:Int):=jO
   have hbz:(b:Int)<8:=jO
   go_wp2_with fail;refine K.out.mono ?_;rintro e w2 ⟨rfl,hb2⟩;have HB2:=jH hb2;have I1:=jH I.out.2.2.2.lt;obtain ⟨y,hy⟩:=(I.out.2.2.2.Ac hb2).at_ b hb7;have hfr:=(I.out.2.2.2.Ac hb2).fr b;clear K hb2 c0 c1 c2 c3 hS hx';go_wp2;have I2:Hid (Below w.heap.size w (w2.setCell ⟨w.heap.size+1+1,b,none⟩ (.bool true))/\I6 w.heap.size b0 b1 b2 b3 (w2.setCell ⟨w.heap.size+1+1,b,none⟩ (.bool true))/\KAt (w.heap.size+1) false false false false false false false false (w2.setCell ⟨w.heap.size+1+1,b,none⟩ (.bool true))/\KAt (w.heap.size+1+1) (Bidi.any 0 (l.take (k+1))) (Bidi.any 1 (l.take (k+1))) (Bidi.any 2 (l.take (k+1))) (Bidi.any 3 (l.take (k+1))) (Bidi.any 4 (l.take (k+1))) (Bidi.any 5 (l.take (k+1))) (Bidi.any 6 (l.take (k+1))) (Bidi.any 7 (l.take (k+1))) (w2.setCell ⟨w.heap.size+1+1,b,none⟩ (.bool true))):=by
    obtain ⟨i1,i2,i3,i4⟩:=I.out;have hB2:=HB2.out;refine ⟨(i1.trans (hB2.mono i1.size)).setCell (p:=⟨w.heap.size+1+1,b,none⟩) (by show w.heap.size<=w.heap.size+1+1;omega) _,?_,(i3.Ac hB2).other jO _ _,?_⟩
    ·have h2:=i2.below hB2;refine ⟨by simpa using h2.1,?_,?_,?_,?_⟩
     · exact (World.cell?_setCell_other _ _ _ _ jS).trans h2.2.1
     · exact (World.cell?_setCell_other _ _ _ _ jS).trans h2.2.2.1
     · exact (World.cell?_setCell_other _ _ _ _ jS).trans h2.2.2.2.1
     · exact (World.cell?_setCell_other _ _ _ _ jS).trans h2.2.2.2.2
    ·have h:=(i4.Ac hB2).set b hb7;have hc:∀ d:Nat,((b:Int) == (d:Int))=(b == d):=λd=>by rw [Bool.eq_iff_iff,beq_iff_eq,beq_iff_eq];omega
     rw [HN.out 0,HN.out 1,HN.out 2,HN.out 3,HN.out 4,HN.out 5,HN.out 6,HN.out 7];rw [show ((b:Int) == 0)=(b == 0) from hc 0,show ((b:Int) == 1)=(b == 1) from hc 1,show ((b:Int) == 2)=(b == 2) from hc 2,show ((b:Int) == 3)=(b == 3) from hc 3,show ((b:Int) == 4)=(b == 4) from hc 4,show ((b:Int) == 5)=(b == 5) from hc 5,show ((b:Int) == 6)=(b == 6) from hc 6,show ((b:Int) == 7)=(b == 7) from hc 7];exact h
   go_roundg (l.length - k)
   case measure=>omega
   case rel=>exact ⟨k+1,by omega,by go_num,by omega,I2⟩
  ·obtain rfl:k=l.length:=jO
   obtain ⟨z0,z1,z2,z3,z4,z5,z6,z7⟩:=I.out.2.2.1.cells;obtain ⟨y0,y1,y2,y3,y4,y5,y6,y7⟩:=I.out.2.2.2.cells;have zfr:=I.out.2.2.1.fr;rw [List.take_length] at y0 y1 y2 y3 y4 y5 y6 y7;go_wp2;refine bodyPost_ret (v:=.agg #[.bool (Bidi.any 0 l),.bool (Bidi.any 1 l),.bool (Bidi.any 2 l),.bool (Bidi.any 3 l),.bool (Bidi.any 4 l),.bool (Bidi.any 5 l),.bool (Bidi.any 6 l),.bool (Bidi.any 7 l)]) (by simp [results,results286,go_sem,z0,z1,z2,z3,z4,z5,z6,z7]) rfl ⟨rfl,?_⟩;have hz:w.heap.size<=w.heap.size+1:=jO
   exact (((((((I.out.1.setCell (p:=⟨w.heap.size+1,0,none⟩) hz _).setCell (p:=⟨w.heap.size+1,1,none⟩) hz _).setCell (p:=⟨w.heap.size+1,2,none⟩) hz _).setCell (p:=⟨w.heap.size+1,3,none⟩) hz _).setCell (p:=⟨w.heap.size+1,4,none⟩) hz _).setCell (p:=⟨w.heap.size+1,5,none⟩) hz _).setCell (p:=⟨w.heap.size+1,6,none⟩) hz _).setCell (p:=⟨w.heap.size+1,7,none⟩) hz _
end
section
open Go.RowKit
end
section
open Go.RowKit
theorem Lu {w w1:World} {b0 b1 b2 b3:Nat} {T:TypeId} (hb1:Below (w.alloc (.cells #[.slice (some ⟨b0,0,none⟩) 74 74,.slice (some ⟨b1,0,none⟩) 10 10,.slice (some ⟨b2,0,none⟩) 11 11,.slice (some ⟨b3,0,none⟩) 42 42] T)).heap.size (w.alloc (.cells #[.slice (some ⟨b0,0,none⟩) 74 74,.slice (some ⟨b1,0,none⟩) 10 10,.slice (some ⟨b2,0,none⟩) 11 11,.slice (some ⟨b3,0,none⟩) 42 42] T)) w1) :
  Below w.heap.size w w1/\I6 w.heap.size b0 b1 b2 b3 w1 :=
 ⟨((jan _ w).alloc (jaa _) _).trans (hb1.mono jS),(Ih w b0 b1 b2 b3 T).below hb1⟩
theorem Ah4 (t v:Value) (l:List Int) (w:World) (hT:Table w t) (hl:Runes v l w) (hn:l.length<=1000) :
  Calls prog 258 #[t,v] w λe w'=>e=.returned (.bool (Bidi.has l))/\Below w.heap.size w w':=by
 have K:=jH (λW (h:Below w.heap.size w W)=>V0 t v l W (hT.below h) (hl.Ac h) jO);obtain ⟨b0,b1,b2,b3,rfl,-,-,-,-⟩:=hT;obtain ⟨A,c,rfl,-,-⟩:=hl.form;rw [Bidi.Afz];clear hl;go_enter func258,ntmps258;go_wp2_with fail;refine (K.out _ ((jan _ w).alloc (jaa _) _)).mono ?_;rintro e w1 ⟨rfl,hb1⟩;have B1:=jH (Lu hb1).1;clear hb1 K;go_wp2_with fail;refine (Aay _ _ _ _ _ _ _ _ w1).mono ?_;rintro e w2 ⟨rfl,hb2⟩;have B2:=jH (Aa B1.out hb2);clear hb2;go_wp2;go_ret;exact ⟨rfl,B2.out⟩
theorem Afd (t v:Value) (l:List Int) (w:World) (hT:Table w t) (hl:Runes v l w) (hn:l.length<=1000) :
  Calls prog 289 #[t,v] w λe w'=>e=.returned (.int .i64 (Bidi.side l))/\Below w.heap.size w w':=by
 have HT:=jH hT;obtain ⟨b0,b1,b2,b3,rfl,-,-,-,-⟩:=hT;obtain ⟨A,c,rfl,-,hcell⟩:=hl.form;have HC:=jH hcell;clear hl hcell;cases l with
 | nil =>
  go_enter func289,ntmps289;go_wp2;go_ret;exact ⟨rfl,(jan _ w).alloc (jaa _) _⟩
 | cons x tl =>
  obtain ⟨ad,rfl,hb,hx⟩:=HC.out 0 jS;rw [show ad.add 0=ad by unfold Addr.add;rw [if_pos rfl]] at hx;simp only [List.getElem!_cons_zero] at hx;obtain ⟨n,hn0⟩:∃ n,n=(x::tl).length:=⟨_,rfl⟩
  have hnz:((n:Int) == 0)=false:=by rw [beq_eq_false_iff_ne];simp at hn0;omega
  have hn1:(0:Int)<(n:Int):=by simp at hn0;omega
  have hn2:0<n:=jO
  show Calls prog 289 #[_,.slice (some ad) (x::tl).length c] w λe w'=>e=.returned (.int .i64 (Bidi.Alj (Cd x)))/\Below w.heap.size w w';rw [<- hn0];clear hn0 hn;have h0:=(jan w.heap.size w).alloc (jaa _) (.cells #[.slice (some ⟨b0,0,none⟩) 74 74,.slice (some ⟨b1,0,none⟩) 10 10,.slice (some ⟨b2,0,none⟩) 11 11,.slice (some ⟨b3,0,none⟩) 42 42] 35);have hx':=(h0.cell hb).trans hx;have hbz:ad.block<(w.alloc (.cells #[.slice (some ⟨b0,0,none⟩) 74 74,.slice (some ⟨b1,0,none⟩) 10 10,.slice (some ⟨b2,0,none⟩) 11 11,.slice (some ⟨b3,0,none⟩) 42 42] 35)).heap.size:=jas hb h0.size;have K:=jH (λW (h:Below w.heap.size w W)=>Xz _ x W (HT.out.below h));have H0:=jH h0;generalize Cd x=b at K ⊢;clear h0 hx hb HC;have cs:b=3\/b=1\/b=2\/(b ≠ 3/\b ≠ 1/\b ≠ 2):=jO
  rcases cs with rfl | rfl | rfl | ⟨h1,h2,h3⟩
  case inr.inr.inr =>
   have e1:(b == 3)=false:=by simpa using h1
   have e2:(b == 1)=false:=by simpa using h2
   have e3:(b == 2)=false:=by simpa using h3
   have R:Bidi.Alj b=0:=by unfold Bidi.Alj;rw [if_neg h1,if_neg jO]
   rw [R];clear R h1 h2 h3;go_enter func289,ntmps289;go_wp2;go_region_held3 (λw'=>w'.cell? ad=some (.int .i32 x)/\w'.cell? ⟨w.heap.size,0,none⟩=some (.slice (some ⟨b0,0,none⟩) 74 74)/\w'.cell? ⟨w.heap.size,1,none⟩=some (.slice (some ⟨b1,0,none⟩) 10 10)/\w'.cell? ⟨w.heap.size,2,none⟩=some (.slice (some ⟨b2,0,none⟩) 11 11)/\w'.cell? ⟨w.heap.size,3,none⟩=some (.slice (some ⟨b3,0,none⟩) 42 42)) (go_keep) ((go_at_call 317;(with_reducible refine (K.out _ H0.out.drew).mono ?_);rintro e w5 ⟨rfl,hb5⟩;have hB5:=Ag hb5;have hx5:=(hB5.cell hbz).trans hx';have BX:=jH (Lu hB5);obtain ⟨hS5,d0,d1,d2,d3⟩:=BX.out.2;clear hb5 hB5))
   go_wp2;go_ret;exact ⟨rfl,BX.out.1⟩
  all_goals
   go_enter func289,ntmps289;go_wp2;go_region_held3 (λw'=>w'.cell? ad=some (.int .i32 x)/\w'.cell? ⟨w.heap.size,0,none⟩=some (.slice (some ⟨b0,0,none⟩) 74 74)/\w'.cell? ⟨w.heap.size,1,none⟩=some (.slice (some ⟨b1,0,none⟩) 10 10)/\w'.cell? ⟨w.heap.size,2,none⟩=some (.slice (some ⟨b2,0,none⟩) 11 11)/\w'.cell? ⟨w.heap.size,3,none⟩=some (.slice (some ⟨b3,0,none⟩) 42 42)) (go_keep) ((go_at_call 317;(with_reducible refine (K.out _ H0.out.drew).mono ?_);rintro e w5 ⟨rfl,hb5⟩;have hB5:=Ag hb5;have hx5:=(hB5.cell hbz).trans hx';have BX:=jH (Lu hB5);obtain ⟨hS5,d0,d1,d2,d3⟩:=BX.out.2;clear hb5 hB5))
   go_wp2;go_ret;exact ⟨rfl,BX.out.1⟩
theorem Ah3 (t v:Value) (l:List Int) (w:World) (hT:Table w t) (hl:Runes v l w) (hn:l.length<=1000) :
  Calls prog 288 #[t,v] w λe w'=>e=.returned (.int .i64 (Bidi.stop l))/\Below w.heap.size w w':=by
 have HT:=jH hT;obtain ⟨b0,b1,b2,b3,rfl,-,-,-,-⟩:=hT;obtain ⟨A,c,rfl,-,hcell⟩:=hl.form;have HC:=jH hcell;clear hl hcell;have h0:=(jan w.heap.size w).alloc (jaa _) (.cells #[.slice (some ⟨b0,0,none⟩) 74 74,.slice (some ⟨b1,0,none⟩) 10 10,.slice (some ⟨b2,0,none⟩) 11 11,.slice (some ⟨b3,0,none⟩) 42 42] 35);have hh0:=Ih w b0 b1 b2 b3 35;have H0:=jH h0;have HH0:=jH hh0;clear h0 hh0;go_enter func288,ntmps288;go_wp2;go_loopg [5,6] (l.length+1) (λgk i _ wr=>∃ k:Nat,k<=l.length/\i=.int .i64 ((k:Int) - 1)/\k<gk/\Hid (Bidi.stop l=Bidi.stop (l.take k)/\Below w.heap.size w wr/\I6 w.heap.size b0 b1 b2 b3 wr))
 case atStart=>exact ⟨l.length,jaa _,rfl,by omega,⟨by rw [List.take_length],H0.out,HH0.out⟩⟩
 case round =>
  obtain ⟨k,hk,rfl,hg,I⟩:=hrel;cases k with
  | zero =>
   have R:=jH (show Bidi.stop l=0 by rw [I.out.1];rfl);go_wp2;go_ret;exact ⟨by rw [R.out];rfl,I.out.2.1⟩
  | succ k =>
   rw [show ((k+1:Nat):Int) - 1=(k:Int) by omega];have hlt:k<l.length:=jO
   obtain ⟨ad,rfl,hb,hx⟩:=HC.out k hlt;have hx':=(I.out.2.1.cell (by rw [Bf];exact hb)).trans hx;have hbz:ad.block<wr.heap.size:=jas hb I.out.2.1.size;obtain ⟨x,hxe⟩:∃ x,x=l[k]!:=⟨_,rfl⟩
   rw [<- hxe] at hx';have hh:Bidi.stop l=if Cd x=6 then Bidi.stop (l.take k) else Cd x:=by rw [I.out.1,Bidi.take_at l k hlt,<- hxe,Bidi.Awn]
   obtain ⟨b,hbe⟩:∃ b,b=Cd x:=⟨_,rfl⟩
   have K:=jH (Xz _ x wr.drew (HT.out.below I.out.2.1.drew));rw [<- hbe] at K hh;have HH:=jH hh;obtain ⟨hS,c0,c1,c2,c3⟩:=I.out.2.2;clear hx hb hxe hh hbe;have hkz:(k:Int)<(l.length:Int):=jO
   have hk0:(0:Int)<=(k:Int):=jO
   by_cases h6:b=6
   ·have R:=jH (show Bidi.stop l=Bidi.stop (l.take k) by rw [HH.out,if_pos h6]);subst h6;go_wp2;go_region_held3 (λw'=>w'.cell? (ad.add k)=some (.int .i32 x)/\w'.cell? ⟨w.heap.size,0,none⟩=some (.slice (some ⟨b0,0,none⟩) 74 74)/\w'.cell? ⟨w.heap.size,1,none⟩=some (.slice (some ⟨b1,0,none⟩) 10 10)/\w'.cell? ⟨w.heap.size,2,none⟩=some (.slice (some ⟨b2,0,none⟩) 11 11)/\w'.cell? ⟨w.heap.size,3,none⟩=some (.slice (some ⟨b3,0,none⟩) 42 42)) (go_keep) ((go_at_call 317;(with_reducible refine K.out.mono ?_);rintro e w5 ⟨rfl,hb5⟩;have hB5:=Ag hb5;have hx5:=(hB5.cell (by rw [Bf];exact hbz)).trans hx';have B5:=jH (I.out.2.1.trans (hB5.mono I.out.2.1.size));have I5:=jH (I.out.2.2.below hB5);obtain ⟨hS5,d0,d1,d2,d3⟩:=I5.out;clear hb5 hB5))
    go_wp2;go_roundg (k+1)
    case measure=>omega
    case rel=>exact ⟨k,by omega,rfl,by omega,⟨R.out,B5.out,I5.out⟩⟩
   ·have R:=jH (show Bidi.stop l=b by rw [HH.out,if_neg h6]);have e1:(b == 6)=false:=by simpa using h6
    go_wp2;go_region_held3 (λw'=>w'.cell? (ad.add k)=some (.int .i32 x)/\w'.cell? ⟨w.heap.size,0,none⟩=some (.slice (some ⟨b0,0,none⟩) 74 74)/\w'.cell? ⟨w.heap.size,1,none⟩=some (.slice (some ⟨b1,0,none⟩) 10 10)/\w'.cell? ⟨w.heap.size,2,none⟩=some (.slice (some ⟨b2,0,none⟩) 11 11)/\w'.cell? ⟨w.heap.size,3,none⟩=some (.slice (some ⟨b3,0,none⟩) 42 42)) (go_keep) ((go_at_call 317;(with_reducible refine K.out.mono ?_);rintro e w5 ⟨rfl,hb5⟩;have hB5:=Ag hb5;have hx5:=(hB5.cell (by rw [Bf];exact hbz)).trans hx';have B5:=jH (I.out.2.1.trans (hB5.mono I.out.2.1.size));have I5:=jH (I.out.2.2.below hB5);obtain ⟨hS5,d0,d1,d2,d3⟩:=I5.out;clear hb5 hB5))
    go_wp2;go_ret;exact ⟨by rw [R.out];rfl,B5.out⟩
def Ae5 (w0:World) (b0 b1 b2 b3:Nat) (a0 a1 a2 a3 a4 a5 a6 a7:Bool) (en:Int) (s5 s6:Value) (wx:World):Prop :=
 ∃ g:Nat,s5=.pointer (some ⟨g,0,none⟩)/\s6=.int .i64 en/\Hid (Below w0.heap.size w0 wx)/\Hid (I6 w0.heap.size b0 b1 b2 b3 wx)/\Hid (KAt g a0 a1 a2 a3 a4 a5 a6 a7 wx)
theorem Azl (w:World) (a0 a1 a2 a3 a4 a5 a6 a7:Bool):KAt w.heap.size a0 a1 a2 a3 a4 a5 a6 a7 (w.alloc (.cells #[.bool a0,.bool a1,.bool a2,.bool a3,.bool a4,.bool a5,.bool a6,.bool a7] 323)):=heap_alloc_new w _
theorem Av6 {w0 W w2:World} {b0 b1 b2 b3:Nat} {a0 a1 a2 a3 a4 a5 a6 a7:Bool} {en:Int} (h0:Below w0.heap.size w0 W) (hH:I6 w0.heap.size b0 b1 b2 b3 W) (hb:Below W.heap.size W w2) :
  Ae5 w0 b0 b1 b2 b3 a0 a1 a2 a3 a4 a5 a6 a7 en (.pointer (some ⟨w2.heap.size,0,none⟩)) (.int .i64 en) (w2.alloc (.cells #[.bool a0,.bool a1,.bool a2,.bool a3,.bool a4,.bool a5,.bool a6,.bool a7] 323)) :=
 have h2:=h0.trans (hb.mono h0.size)
 ⟨_,rfl,rfl,h2.alloc h2.size _,hH.below (hb.alloc hb.size _),Azl _ a0 a1 a2 a3 a4 a5 a6 a7⟩
theorem Azk {S:Nat} {w:World} (h:KAt S false false false false false false false false w) (a0 a1 a2 a3 a4 a5 a6 a7:Bool):KAt S a0 a1 a2 a3 a4 a5 a6 a7 ((((((((w.setCell ⟨S,0,none⟩ (.bool a0)).setCell ⟨S,1,none⟩ (.bool a1)).setCell ⟨S,2,none⟩ (.bool a2)).setCell ⟨S,3,none⟩ (.bool a3)).setCell ⟨S,4,none⟩ (.bool a4)).setCell ⟨S,5,none⟩ (.bool a5)).setCell ⟨S,6,none⟩ (.bool a6)).setCell ⟨S,7,none⟩ (.bool a7)):=by
 unfold KAt at h ⊢;simp [World.setCell,Array.getElem?_modify,h]
theorem Alh {w0 W w2:World} {S b0 b1 b2 b3:Nat} {a0 a1 a2 a3 a4 a5 a6 a7:Bool} {en:Int} (h0:Below w0.heap.size w0 W) (hH:I6 w0.heap.size b0 b1 b2 b3 W) (hb:Below W.heap.size W w2) (hS:W.heap.size<=S) (hK:KAt S false false false false false false false false w2) :
  Ae5 w0 b0 b1 b2 b3 a0 a1 a2 a3 a4 a5 a6 a7 en (.pointer (some ⟨S,0,none⟩)) (.int .i64 en) ((((((((w2.setCell ⟨S,0,none⟩ (.bool a0)).setCell ⟨S,1,none⟩ (.bool a1)).setCell ⟨S,2,none⟩ (.bool a2)).setCell ⟨S,3,none⟩ (.bool a3)).setCell ⟨S,4,none⟩ (.bool a4)).setCell ⟨S,5,none⟩ (.bool a5)).setCell ⟨S,6,none⟩ (.bool a6)).setCell ⟨S,7,none⟩ (.bool a7)) :=
 have h2:=((((((((hb.setCell (p:=⟨S,0,none⟩) hS _).setCell (p:=⟨S,1,none⟩) hS _).setCell (p:=⟨S,2,none⟩) hS _).setCell (p:=⟨S,3,none⟩) hS _).setCell (p:=⟨S,4,none⟩) hS _).setCell (p:=⟨S,5,none⟩) hS _).setCell (p:=⟨S,6,none⟩) hS _).setCell (p:=⟨S,7,none⟩) hS _)
 ⟨_,rfl,rfl,h0.trans (h2.mono h0.size),hH.below h2,Azk hK a0 a1 a2 a3 a4 a5 a6 a7⟩
theorem Vr {w w':World} {o:Obj} (h:Below (w.alloc o).heap.size (w.alloc o) w'):Below w.heap.size w w':=(Ab w o).trans (h.mono jS)
theorem Tt {w w':World} {o:Obj} (h:Below (w.alloc o).drew.heap.size (w.alloc o).drew w'):Below w.heap.size w w':=Vr (Ag h)
theorem A45 {W w1:World} (hb:Below W.heap.size W w1):(∀ b o,b<W.heap.size->w1.cell? ⟨b,o,none⟩=W.cell? ⟨b,o,none⟩)/\(∀ b o,b<W.heap.size->w1.frozen? ⟨b,o,none⟩=W.frozen? ⟨b,o,none⟩) :=
 ⟨λb o h=>hb.cell (p:=⟨b,o,none⟩) h,λb o h=>hb.frozen (p:=⟨b,o,none⟩) h⟩
theorem An2 (w:World) (a:Obj) {w':World} (h:Below ((w.alloc a).alloc (.cells #[.bool false,.bool false,.bool false,.bool false,.bool false,.bool false,.bool false,.bool false] 323)).heap.size ((w.alloc a).alloc (.cells #[.bool false,.bool false,.bool false,.bool false,.bool false,.bool false,.bool false,.bool false] 323)) w'):KAt (w.heap.size+1) false false false false false false false false w' :=
 (W7 (w.alloc a) _ jS).Ac h
theorem Afc (t v:Value) (l:List Int) (w:World) (hT:Table w t) (hl:Runes v l w) (hn:l.length<=1000) :
  Calls prog 259 #[t,v] w λe w'=>e=.returned (.bool (Bidi.Aby l))/\Below w.heap.size w w':=by
 have KK:=jH (λW (h:Below w.heap.size w W)=>V0 t v l W (hT.below h) (hl.Ac h) jO);have KE:=jH (λW (h:Below w.heap.size w W)=>Ah3 t v l W (hT.below h) (hl.Ac h) hn);have KS:=jH (λW (h:Below w.heap.size w W)=>Afd t v l W (hT.below h) (hl.Ac h) hn);obtain ⟨b0,b1,b2,b3,rfl,-,-,-,-⟩:=hT;obtain ⟨A,c,rfl,-,-⟩:=hl.form;clear hl;have h0:=(jan w.heap.size w).alloc (jaa _) (.cells #[.slice (some ⟨b0,0,none⟩) 74 74,.slice (some ⟨b1,0,none⟩) 10 10,.slice (some ⟨b2,0,none⟩) 11 11,.slice (some ⟨b3,0,none⟩) 42 42] 35);have H0:=jH h0;clear h0;by_cases hne:l=[]
 ·subst hne;go_enter func259,ntmps259;go_wp2;go_ret;exact ⟨rfl,H0.out⟩
 have hnl:0<l.length:=by rcases Nat.eq_zero_or_pos l.length with h | h;exact absurd (List.eq_nil_of_length_eq_zero h) hne;exact h
 have hnz:((l.length:Int) == 0)=false:=by rw [beq_eq_false_iff_ne];omega
 rw [Bidi.Agy hne];unfold Bidi.Iq;rw [Bidi.Afz];have cs:=Bidi.Aaf l;obtain ⟨a0,ha0⟩:∃ a,Bidi.any 0 l=a:=⟨_,rfl⟩
 obtain ⟨a1,ha1⟩:∃ a,Bidi.any 1 l=a:=⟨_,rfl⟩
 obtain ⟨a2,ha2⟩:∃ a,Bidi.any 2 l=a:=⟨_,rfl⟩
 obtain ⟨a3,ha3⟩:∃ a,Bidi.any 3 l=a:=⟨_,rfl⟩
 obtain ⟨a4,ha4⟩:∃ a,Bidi.any 4 l=a:=⟨_,rfl⟩
 obtain ⟨a5,ha5⟩:∃ a,Bidi.any 5 l=a:=⟨_,rfl⟩
 obtain ⟨a6,ha6⟩:∃ a,Bidi.any 6 l=a:=⟨_,rfl⟩
 obtain ⟨a7,ha7⟩:∃ a,Bidi.any 7 l=a:=⟨_,rfl⟩
 obtain ⟨en,hen⟩:∃ en,Bidi.stop l=en:=⟨_,rfl⟩
 obtain ⟨sd,hsd⟩:∃ sd,Bidi.side l=sd:=⟨_,rfl⟩
 rw [ha0,ha1,ha2,ha3,ha4,ha5,ha6,ha7] at KK;rw [hen] at KE;rw [hsd] at KS cs;rw [ha1,ha2,ha3,ha4,ha5,hen,hsd];have KR:=jH (λW=>Abj en W);have KL:=jH (λW=>Afr en W);obtain ⟨gr,hgr⟩:∃ g,Bidi.Adf en=g:=⟨_,rfl⟩
 obtain ⟨gl,hgl⟩:∃ g,Bidi.Ai8 en=g:=⟨_,rfl⟩
 rw [hgr] at KR ⊢;rw [hgl] at KL ⊢;obtain ⟨r,hr⟩:∃ r,r=(if sd=2 then !a1 && gr && !(a4 && a5) else if sd=1 then !(a2 || a3 || a5) && gl else false):=⟨_,rfl⟩
 rw [<- hr];have HR:=jH hr;have CS:=jH cs;clear hr cs hgr hgl ha0 ha1 ha2 ha3 ha4 ha5 ha6 ha7 hen hsd;have HH0:=jH (Ih w b0 b1 b2 b3 35);obtain ⟨hS,c0,c1,c2,c3⟩:=HH0.out;go_enter func259,ntmps259;go_upto_region 3 with (fail)
 go_cut [5,6] (λs5 s6 wx=>Ae5 w b0 b1 b2 b3 a0 a1 a2 a3 a4 a5 a6 a7 en s5 s6 wx)
 case first =>
  (go_region_with
   (first
    | (go_at_call 286;refine (KK.out _ (by first | exact H0.out.drew | exact (H0.out.alloc jS _).drew | exact H0.out.drew.alloc jS _)).mono ?_;rintro e w' ⟨rfl,L⟩;obtain ⟨bc,bf⟩:=A45 L;have hz:=L.size;have hz0:w.heap.size<w'.heap.size:=(by first | omega | (simp at hz;omega));(try have hz1:w.heap.size+1<w'.heap.size:=(by first | omega | (simp at hz;omega)));clear hz;have B1:=jH (show Below (w.alloc (.cells #[.slice (some ⟨b0,0,none⟩) 74 74,.slice (some ⟨b1,0,none⟩) 10 10,.slice (some ⟨b2,0,none⟩) 11 11,.slice (some ⟨b3,0,none⟩) 42 42] 35)).heap.size (w.alloc (.cells #[.slice (some ⟨b0,0,none⟩) 74 74,.slice (some ⟨b1,0,none⟩) 10 10,.slice (some ⟨b2,0,none⟩) 11 11,.slice (some ⟨b3,0,none⟩) 42 42] 35)) w' from (by first | exact Ag L | exact Tt L));obtain ⟨hS1,x0,x1,x2,x3⟩:=HH0.out.below B1.out)
    | (go_at_call 288;refine (KE.out _ (by have h:=H0.out.trans (B1.out.mono H0.out.size);first | exact h | exact h.alloc h.size _)).mono ?_;rintro e w'' ⟨rfl,L'⟩;obtain ⟨bc',bf'⟩:=A45 L';have hz:=L'.size;have hz2:w.heap.size<w''.heap.size:=(by first | omega | (simp at hz;omega));(try have hz3:w.heap.size+1<w''.heap.size:=(by first | omega | (simp at hz;omega)));(try have hz4:w'.heap.size<w''.heap.size:=(by first | omega | (simp at hz;omega)));clear hz;have B2:=jH (show Below w'.heap.size w' w'' from (by first | exact L' | exact Vr L')))))
  all_goals go_wp2_with fail
  all_goals go_meet
  all_goals
   have base:=B1.out.trans (B2.out.mono B1.out.size)
   first
    | (with_reducible exact Av6 (W:=(w.alloc (.cells #[.slice (some ⟨b0,0,none⟩) 74 74,.slice (some ⟨b1,0,none⟩) 10 10,.slice (some ⟨b2,0,none⟩) 11 11,.slice (some ⟨b3,0,none⟩) 42 42] 35))) H0.out HH0.out base)
    | (
      (with_reducible refine Alh (S:=w'.heap.size) (W:=(w.alloc (.cells #[.slice (some ⟨b0,0,none⟩) 74 74,.slice (some ⟨b1,0,none⟩) 10 10,.slice (some ⟨b2,0,none⟩) 11 11,.slice (some ⟨b3,0,none⟩) 42 42] 35))) H0.out HH0.out base ?_ ?_)
      · exact B1.out.size
      · exact (W7 w' _ rfl).Ac L')
    | (
      (with_reducible refine Alh (S:=w.heap.size+1) (W:=(w.alloc (.cells #[.slice (some ⟨b0,0,none⟩) 74 74,.slice (some ⟨b1,0,none⟩) 10 10,.slice (some ⟨b2,0,none⟩) 11 11,.slice (some ⟨b3,0,none⟩) 42 42] 35))) H0.out HH0.out base ?_ ?_)
      · simp
      · exact (An2 w _ (Ag L)).Ac B2.out)
 case rest =>
  obtain ⟨g,rfl,rfl,BX,HX,KX⟩:=hcut;obtain ⟨hSx,d0,d1,d2,d3⟩:=HX.out;clear H0 HH0 hS c0 c1 c2 c3 KK KE;go_wp2_with fail;refine (KS.out _ BX.out).mono ?_;rintro e w3 ⟨rfl,hb3⟩;have B3:=jH (Aa BX.out hb3);have K3:=jH (KX.out.Ac hb3);obtain ⟨y0,y1,y2,y3,y4,y5,y6,y7⟩:=K3.out.cells;clear hb3 KX HX BX;have cs:=CS.out;clear CS;rcases cs with rfl | rfl | rfl
  ·go_wp2;go_ret;exact ⟨by rw [HR.out];simp,B3.out⟩
  ·go_wp2_with fail;refine (Aay a0 a1 a2 a3 a4 a5 a6 a7 w3).mono ?_;rintro e w4 ⟨rfl,hb4⟩;have B4:=jH (Aa B3.out hb4);clear hb4;obtain ⟨tu,htu⟩:∃ tu,(a2 || a3 || a5)=tu:=⟨_,rfl⟩
   rw [htu];have HTU:=jH htu;clear htu;cases tu
   ·go_wp2_with fail;refine (KL.out w4).mono ?_;rintro e w5 ⟨rfl,hb5⟩;have B5:=jH (Aa B4.out hb5);clear hb5;go_wp2;go_ret;exact ⟨by rw [HR.out,HTU.out];simp,B5.out⟩
   ·go_wp2;go_ret;exact ⟨by rw [HR.out,HTU.out];simp,B4.out⟩
  ·cases a1
   ·go_wp2_with fail;refine (KR.out w3).mono ?_;rintro e w4 ⟨rfl,hb4⟩;have B4:=jH (Aa B3.out hb4);have K4:=jH (K3.out.Ac hb4);obtain ⟨z0,z1,z2,z3,z4,z5,z6,z7⟩:=K4.out.cells;clear hb4;cases gr
    ·go_wp2;go_ret;exact ⟨by rw [HR.out];simp,B4.out⟩
    ·go_wp2_with fail;refine (Aun a0 false a2 a3 a4 a5 a6 a7 w4).mono ?_;rintro e w5 ⟨rfl,hb5⟩;have B5:=jH (Aa B4.out hb5);clear hb5;go_wp2;go_ret;exact ⟨by rw [HR.out];simp,B5.out⟩
   ·go_wp2;go_ret;exact ⟨by rw [HR.out];simp,B3.out⟩
end
