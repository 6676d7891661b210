import Derived.Test.YtipkfalbepiphaaGreatDoorUtfRow
import Derived.Test.YtipkfalbepiphaaGreatDoorUcdAll
import Derived.BigRegion
import Derived.IntWalk
import Derived.RangeFuncBox
import Derived.RangeFuncCalls
import Derived.RangeFuncLeaves
import Derived.RangeFuncWrites
import Derived.OwnWalkIn
import Derived.TacticsInMore
import Derived.LoopNIn
import Derived.LoopIn
import Derived.Maps.OwnOps
set_option maxRecDepth 100000
set_option maxHeartbeats 4000000
namespace Go.Proofs.YtipkfalbepiphaaGreatDoor
open Tryz
section
namespace Ctx
def at0 (l:List Int) (i:Int):Int:=if 0<=i/\i<l.length then l[i.toNat]! else 0
def Yu (x:Int):Bool:=Dt x != 3
def ahead (l:List Int) (k:Nat):Option Int:=(l.take k).reverse.find? Yu
def behind (l:List Int) (k:Nat):Option Int:=(l.drop k).find? Yu
def both (o p:Option Int):Bool:=match o,p with | some x,some y=>Dt x == 1 && (Dt y == 1 || Dt y == 2) | _,_=>false
def Uo (l:List Int) (k:Nat):Bool:=both (ahead l k) (behind l (k+1))
def Dg (l:List Int) (lo hi:Int):Bool:=l.any λx=>decide (lo<=x) && decide (x<=hi)
def Na (l:List Int):Bool:=l.any λx=>Ax x == 7 || Ax x == 8
def Ci (r:Int):Bool:=r == 8204 || r == 8205 || r == 183 || r == 885 || r == 1523 || r == 1524 || r == 12539 || (decide (1632<=r) && decide (r<=1641)) || (decide (1776<=r) && decide (r<=1785))
def Ir (l:List Int) (k:Nat):Bool:=decide (0<k) && Ad (at0 l ((k:Int) - 1)) == 9
def met (l:List Int) (k:Nat):Bool :=
 if l[k]! = 8205 then Ir l k else if l[k]! = 8204 then Ir l k || Uo l k
 else if l[k]! = 183 then at0 l ((k:Int) - 1) == 108 && at0 l ((k:Int)+1) == 108
 else if l[k]! = 885 then Ax (at0 l ((k:Int)+1)) == 2
 else if l[k]! = 1523\/l[k]! = 1524 then Ax (at0 l ((k:Int) - 1)) == 4
 else if l[k]! = 12539 then Na l
 else if l[k]!<1700 then !Dg l 1776 1785 else !Dg l 1632 1641
def Zh (l:List Int) (k:Int):Int:=if 0<=k/\k<l.length/\Ci l[k.toNat]! = true then (if met l k.toNat then 1 else 2) else 0
def all (l:List Int):Bool:=(List.range l.length).all λi=>Zh l (i:Nat) != 2
theorem Qg {l:List Int} {k:Nat} (h:k<l.length):at0 l k=l[k]!:=by unfold at0;rw [if_pos jO];simp
theorem Ww {l:List Int} {i:Int} (h:i<0\/l.length<=i):at0 l i=0:=by unfold at0;rw [if_neg jO]
theorem Jb {l:List Int} {k:Nat} (h:k<l.length):Zh l k=if Ci l[k]! = true then (if met l k then 1 else 2) else 0:=by
 unfold Zh;rw [Int.toNat_natCast];by_cases hn:Ci l[k]! = true
 · rw [if_pos ⟨by omega,by omega,hn⟩,if_pos hn]
 · rw [if_neg (λh=>hn h.2.2),if_neg hn]
theorem Lq (l:List Int):all l=true ↔ ∀ k,k<l.length->Ci l[k]! = true->met l k=true:=by
 unfold all;rw [jar];constructor
 ·intro h k hk hn;have:=h k (List.mem_range.2 hk);rw [Jb hk,if_pos hn] at this;cases hm:met l k with
  | true=>rfl
  | false=>rw [hm] at this;simp at this
 ·intro h k hk;have hk:=List.mem_range.1 hk;rw [Jb hk];by_cases hn:Ci l[k]! = true
  · rw [if_pos hn,h k hk hn];rfl
  · rw [if_neg hn];rfl
theorem Amm {l:List Int} {k:Nat} (hk:k<l.length) (hn:Ci l[k]! = true) (hm:met l k=false):all l=false:=by
 cases h:all l with
 | false=>rfl
 | true=>have:=(Lq l).1 h k hk hn;rw [hm] at this;cases this
theorem Of:Ax 0 ≠ 2/\Ax 0 ≠ 4:=by decide +kernel
theorem digits {l:List Int} (h:∀ x ∈ l,(1632<=x/\x<=1641)\/(1776<=x/\x<=1785)):all l=!(Dg l 1632 1641 && Dg l 1776 1785):=by
 have hx:∀ k,k<l.length->(1632<=l[k]!/\l[k]!<=1641)\/(1776<=l[k]!/\l[k]!<=1785):=λk hk=>by
  rw [getElem!_pos l k hk];exact h _ (List.getElem_mem hk)
 have hn:∀ k,k<l.length->Ci l[k]! = true:=λk hk=>by
  unfold Ci;rcases hx k hk with ⟨a,b⟩ | ⟨a,b⟩
  ·rw [decide_eq_true a,decide_eq_true b];simp
  ·rw [decide_eq_true a,decide_eq_true b];simp
 have hm:∀ k,k<l.length->met l k=if l[k]!<1700 then !Dg l 1776 1785 else !Dg l 1632 1641:=λk hk=>by
  unfold met;have:=hx k hk;rw [if_neg jO,if_neg jO,if_neg jO,if_neg jO,if_neg jO,if_neg jO]
 have some_at:∀ lo hi,Dg l lo hi=true->∃ k,k<l.length/\lo<=l[k]!/\l[k]!<=hi:=λlo hi ha=>by
  unfold Dg at ha;obtain ⟨x,hxm,hb⟩:=List.any_eq_true.1 ha;obtain ⟨k,hk,he⟩:=List.getElem_of_mem hxm;rw [jag,decide_eq_true_eq,decide_eq_true_eq] at hb;exact ⟨k,hk,by rw [getElem!_pos l k hk,he];exact hb⟩
 cases h1:Dg l 1632 1641 with
 | false =>
  refine (Lq l).2 λk hk _=>?_;rw [hm k hk,h1];have:¬ l[k]!<1700:=λhlt=>by
   have:Dg l 1632 1641=true:=by
    unfold Dg;refine List.any_eq_true.2 ⟨l[k]!,by rw [getElem!_pos l k hk];exact List.getElem_mem hk,?_⟩;have:=hx k hk;rw [jag,decide_eq_true_eq,decide_eq_true_eq];omega
   rw [h1] at this;cases this
  rw [if_neg this];rfl
 | true =>
  cases h2:Dg l 1776 1785 with
  | false =>
   refine (Lq l).2 λk hk _=>?_;rw [hm k hk,h2];have:l[k]!<1700:=Classical.byContradiction λhlt=>by
    have:Dg l 1776 1785=true:=by
     unfold Dg;refine List.any_eq_true.2 ⟨l[k]!,by rw [getElem!_pos l k hk];exact List.getElem_mem hk,?_⟩;have:=hx k hk;rw [jag,decide_eq_true_eq,decide_eq_true_eq];omega
    rw [h2] at this;cases this
   rw [if_pos this];rfl
  | true =>
   obtain ⟨k,hk,h3,h4⟩:=some_at _ _ h1;refine Amm hk (hn k hk) ?_;rw [hm k hk,if_pos jO,h2];rfl
theorem W5 {l t:List Int} {k:Nat} (h:k<l.length):(l ++ t)[k]! = l[k]!:=by
 rw [getElem!_pos (l ++ t) k (by rw [jab];omega),getElem!_pos l k h,List.getElem_append_left h]
theorem Yt {l t:List Int} {k:Nat} (h:k<t.length):(l ++ t)[l.length+k]! = t[k]!:=by
 rw [getElem!_pos (l ++ t) (l.length+k) (by rw [jab];omega),getElem!_pos t k h,List.getElem_append_right jO];congr 1;omega
theorem Wv {l t:List Int} {i:Int} (h:i<l.length):at0 (l ++ t) i=at0 l i:=by
 by_cases h0:0<=i
 ·obtain ⟨k,rfl⟩:∃ k:Nat,i=k:=⟨i.toNat,by omega⟩
  rw [Qg (by rw [jab];omega),Qg jO,W5 jO]
 ·rw [Ww (.inl jO),Ww (.inl jO)]
theorem Ap7 {l t:List Int} {k:Nat} (h:k<l.length):Ir (l ++ t) k=Ir l k:=by
 unfold Ir;rw [Wv jO]
theorem Asm {l t:List Int} {k:Nat} (h:k<l.length):ahead (l ++ t) k=ahead l k:=by
 unfold ahead;rw [List.take_append_of_le_length jO]
theorem Amz {l t:List Int} {k:Nat} (h:k<=l.length):behind (l ++ t) k=(behind l k).or (t.find? Yu):=by
 unfold behind;rw [List.drop_append_of_le_length h,List.find?_append]
theorem Acd (l t:List Int) (lo hi:Int):Dg (l ++ t) lo hi=(Dg l lo hi || Dg t lo hi):=by unfold Dg;rw [List.any_append]
theorem Aso (l t:List Int):Na (l ++ t)=(Na l || Na t):=by unfold Na;rw [List.any_append]
theorem Ang:Yu 108=true/\Dt 108=0/\Ax 108 ≠ 2/\Na [108,183,108]=false/\Ci 108=false/\Ci 183=true:=by decide +kernel
theorem Dc {l:List Int} (h:∀ k,k+1=l.length->l[k]! ≠ 183):all (l ++ [108,183,108])=all l/\Zh (l ++ [108,183,108]) ((l.length:Int)+1)=1:=by
 obtain ⟨f1,f2,f3,f4,f5,f6⟩:=Ang;have g0:(l ++ [108,183,108])[l.length]! = 108:=Yt (l:=l) (t:=[108,183,108]) (k:=0) jD;have g1:(l ++ [108,183,108])[l.length+1]! = 183:=Yt (l:=l) (t:=[108,183,108]) (k:=1) jD;have g2:(l ++ [108,183,108])[l.length+2]! = 108:=Yt (l:=l) (t:=[108,183,108]) (k:=2) jD;have hlen:(l ++ [108,183,108]).length=l.length+3:=by rw [jab];rfl
 have hmet:met (l ++ [108,183,108]) (l.length+1)=true:=by
  unfold met;rw [g1,if_neg jD,if_neg jD,if_pos rfl,show ((l.length+1:Nat):Int) - 1=((l.length:Nat):Int) by omega,show ((l.length+1:Nat):Int)+1=((l.length+2:Nat):Int) by omega,Qg jO,Qg jO,g0,g2];rfl
 have same:∀ k,k<l.length->met (l ++ [108,183,108]) k=met l k:=by
  intro k hkl;unfold met;rw [W5 hkl,Ap7 hkl,Wv (show ((k:Int) - 1)<l.length by omega)];by_cases h1:l[k]! = 8205
  ·rw [if_pos h1,if_pos h1]
  rw [if_neg h1,if_neg h1];by_cases h2:l[k]! = 8204
  ·rw [if_pos h2,if_pos h2];congr 1;unfold Uo;rw [Asm hkl,Amz jO];cases hb:behind l (k+1) with
   | some y=>rfl
   | none =>
    rw [show List.find? Yu [108,183,108]=some 108 by rw [List.find?_cons_of_pos f1]];unfold both;cases ahead l k with
    | none=>rfl
    | some x=>simp [f2]
  rw [if_neg h2,if_neg h2];by_cases h3:l[k]! = 183
  ·have hl2:k+1<l.length:=Classical.byContradiction λhc=>h k jO h3;rw [if_pos h3,if_pos h3,Wv jO]
  rw [if_neg h3,if_neg h3];by_cases h4:l[k]! = 885
  ·rw [if_pos h4,if_pos h4];by_cases hl2:k+1<l.length
   ·rw [Wv jO]
   ·have hk:k+1=l.length:=jO
    rw [Ww (l:=l) (i:=(k:Int)+1) (.inr jO),show ((k:Int)+1)=((l.length:Nat):Int) by omega,Qg jO,g0];rw [show (Ax 108 == 2)=false by simpa using f3,show (Ax 0 == 2)=false by simpa using Of.1]
  rw [if_neg h4,if_neg h4];by_cases h5:l[k]! = 1523\/l[k]! = 1524
  ·rw [if_pos h5,if_pos h5]
  rw [if_neg h5,if_neg h5];rw [Aso,f4,Bool.or_false,Acd,Acd,show Dg [108,183,108] 1776 1785=false by decide,show Dg [108,183,108] 1632 1641=false by decide,Bool.or_false,Bool.or_false]
 refine ⟨?_,?_⟩
 ·have key:all (l ++ [108,183,108])=true ↔ all l=true:=by
   rw [Lq,Lq];constructor
   ·intro hh k hk hn;rw [<- same k hk];exact hh k jO (by rw [W5 hk];exact hn)
   ·intro hh k hk hn;by_cases hkl:k<l.length
    ·rw [same k hkl];rw [W5 hkl] at hn;exact hh k hkl hn
    ·rcases (show k=l.length\/k=l.length+1\/k=l.length+2 by omega) with rfl | rfl | rfl
     · rw [g0,f5] at hn;cases hn
     · exact hmet
     · rw [g2,f5] at hn;cases hn
  cases h1:all l with
  | true=>exact key.2 h1
  | false =>
   cases h2:all (l ++ [108,183,108]) with
   | false=>rfl
   | true=>rw [key.1 h2] at h1;cases h1
 ·rw [show ((l.length:Int)+1)=((l.length+1:Nat):Int) by omega,Jb jO,g1,f6,if_pos rfl,hmet];rfl
end Ctx
end
section
open Go.RowKit
def E6 (g:Nat) (t v:Value) (l:List Int) (w:World):Prop :=
 Table w t/\Runes v l w/\∃ b0 b1 b2 b3 A c,t=.agg #[.slice (some ⟨b0,0,none⟩) 74 74,.slice (some ⟨b1,0,none⟩) 10 10,.slice (some ⟨b2,0,none⟩) 11 11,.slice (some ⟨b3,0,none⟩) 42 42]/\v=.slice A l.length c /\
  w.heap[g]? = some (.cells #[.slice (some ⟨b0,0,none⟩) 74 74,.slice (some ⟨b1,0,none⟩) 10 10,.slice (some ⟨b2,0,none⟩) 11 11,.slice (some ⟨b3,0,none⟩) 42 42,.slice A l.length c] 353 (0,0))
theorem E6.lt {g:Nat} {t v:Value} {l:List Int} {w:World} (h:E6 g t v l w):g<w.heap.size:=by
 obtain ⟨-,-,b0,b1,b2,b3,A,c,-,-,h⟩:=h;exact (Array.getElem?_eq_some_iff.1 h).1
theorem E6.Ac {g:Nat} {t v:Value} {l:List Int} {w w':World} (h:E6 g t v l w) (hb:Below w.heap.size w w'):E6 g t v l w':=by
 have hlt:=h.lt;obtain ⟨h1,h2,b0,b1,b2,b3,A,c,e1,e2,h3⟩:=h;exact ⟨h1.below hb,h2.Ac hb,b0,b1,b2,b3,A,c,e1,e2,(hb.block g hlt).trans h3⟩
theorem E6.form {g:Nat} {t v:Value} {l:List Int} {w:World} (h:E6 g t v l w):∃ b0 b1 b2 b3 A c,t=.agg #[.slice (some ⟨b0,0,none⟩) 74 74,.slice (some ⟨b1,0,none⟩) 10 10,.slice (some ⟨b2,0,none⟩) 11 11,.slice (some ⟨b3,0,none⟩) 42 42]/\v=.slice A l.length c/\l.length<=c/\g<w.heap.size /\
  (w.cell? ⟨g,0,none⟩=some (.slice (some ⟨b0,0,none⟩) 74 74)/\w.cell? ⟨g,1,none⟩=some (.slice (some ⟨b1,0,none⟩) 10 10)/\w.cell? ⟨g,2,none⟩=some (.slice (some ⟨b2,0,none⟩) 11 11)/\w.cell? ⟨g,3,none⟩=some (.slice (some ⟨b3,0,none⟩) 42 42)/\w.cell? ⟨g,4,none⟩=some (.slice A l.length c)) /\
  (∀ k,k<l.length->∃ ad,A=some ad/\ad.block<w.heap.size/\w.cell? (ad.add k)=some (.int .i32 l[k]!)):=by
 have hlt:=h.lt;obtain ⟨h1,h2,b0,b1,b2,b3,A,c,rfl,rfl,h3⟩:=h;obtain ⟨A',c',e,hc,hx⟩:=h2.form;injection e with e1 e2 e3
 subst e1 e3;refine ⟨b0,b1,b2,b3,A,c,rfl,rfl,hc,hlt,?_,hx⟩;refine ⟨?_,?_,?_,?_,?_⟩<;>simp [World.cell?,h3]
def Iy (l:List Int) (i:Int):Int:=if 0<=i/\i<l.length then l[i.toNat]! else -1
theorem Aa3 {l:List Int} {k:Nat} (h:k<l.length):Iy l k=l[k]!:=by unfold Iy;rw [if_pos jO];simp
theorem Pq {l:List Int} {i:Int} (h:i<0\/l.length<=i):Iy l i=-1:=by unfold Iy;rw [if_neg jO]
theorem Vi (l:List Int) (i:Int):(∃ k:Nat,k<l.length/\i=k/\Iy l i=l[k]!/\Ctx.at0 l i=l[k]!)\/(Iy l i=-1/\Ctx.at0 l i=0):=by
 by_cases h:0<=i/\i<l.length
 ·obtain ⟨k,rfl⟩:∃ k:Nat,i=k:=⟨i.toNat,by omega⟩
  exact .inl ⟨k,by omega,rfl,Aa3 jO,Ctx.Qg jO⟩
 ·exact .inr ⟨Pq jO,Ctx.Ww jO⟩
theorem Mr:Ad (-1) ≠ 9/\Ax (-1) ≠ 2/\Ax (-1) ≠ 4:=by decide +kernel
theorem A49 (l:List Int) (i:Int):(Iy l i == 108)=(Ctx.at0 l i == 108):=by
 rcases Vi l i with ⟨k,-,-,h1,h2⟩ | ⟨h1,h2⟩<;>rw [h1,h2]<;>rfl
theorem Aw5 (l:List Int) (i:Int):(Ax (Iy l i) == 2)=(Ax (Ctx.at0 l i) == 2):=by
 rcases Vi l i with ⟨k,-,-,h1,h2⟩ | ⟨h1,h2⟩<;>rw [h1,h2]
 rw [beq_eq_false_iff_ne.2 Mr.2.1,beq_eq_false_iff_ne.2 Ctx.Of.1]
theorem Ap9 (l:List Int) (i:Int):(Ax (Iy l i) == 4)=(Ax (Ctx.at0 l i) == 4):=by
 rcases Vi l i with ⟨k,-,-,h1,h2⟩ | ⟨h1,h2⟩<;>rw [h1,h2]
 rw [beq_eq_false_iff_ne.2 Mr.2.2,beq_eq_false_iff_ne.2 Ctx.Of.2]
theorem Aqa (l:List Int) (k:Nat) (hk:k<l.length):(Ad (Iy l ((k:Int) - 1)) == 9)=Ctx.Ir l k:=by
 unfold Ctx.Ir;by_cases h0:k=0
 ·subst h0;rw [Pq (.inl jO),beq_eq_false_iff_ne.2 Mr.1];rfl
 ·rw [decide_eq_true jO,Bool.true_and,show ((k:Int) - 1)=((k - 1:Nat):Int) by omega,Aa3 jO,Ctx.Qg jO]
theorem Tn (g:Nat) (t v:Value) (l:List Int) (i:Int) (w:World) (hR:E6 g t v l w) :
  Calls prog 346 #[.pointer (some ⟨g,0,none⟩),.int .i64 i] w λe w'=>e=.returned (.int .i32 (Iy l i))/\w=w':=by
 obtain ⟨b0,b1,b2,b3,A,c,rfl,rfl,hc,hg,⟨c0,c1,c2,c3,c4⟩,hx⟩:=hR.form;clear hR;by_cases h0:i<0
 ·rw [Pq (.inl h0)];clear hx;go_enter func346,ntmps346;go_wp2;go_ret;exact ⟨rfl,rfl⟩
 ·obtain ⟨k,rfl⟩:∃ k:Nat,i=k:=⟨i.toNat,by omega⟩
  by_cases hk:k<l.length
  ·rw [Aa3 hk];obtain ⟨ad,rfl,hb,hcell⟩:=hx k hk;obtain ⟨x,hxe⟩:∃ x,x=l[k]!:=⟨_,rfl⟩
   rw [<- hxe] at hcell ⊢;clear hx hxe;have hkz:(k:Int)<(l.length:Int):=jO
   go_enter func346,ntmps346;go_wp2;go_ret;exact ⟨rfl,rfl⟩
  ·rw [Pq (.inr jO)];clear hx;have hkz:(l.length:Int)<=(k:Int):=jO
   go_enter func346,ntmps346;go_wp2;go_ret;exact ⟨rfl,rfl⟩
def kindOf (r:Int):Int:=if r=1524 then 1523 else if 1632<=r/\r<=1641 then 1632 else if 1776<=r/\r<=1785 then 1776 else r
theorem Sf (r:Int) (w:World):Calls prog 338 #[.int .i32 r] w λe w'=>e=.returned (.bool (decide (1632<=r) && decide (r<=1641)))/\w=w':=by
 by_cases h1:1632<=r<;>by_cases h2:r<=1641
 all_goals first | rw [decide_eq_true h1] | rw [decide_eq_false h1]
 all_goals first | rw [decide_eq_true h2] | rw [decide_eq_false h2]
 all_goals
  go_enter func338,ntmps338;go_wp2;go_ret;exact ⟨rfl,rfl⟩
theorem Pw (r:Int) (w:World):Calls prog 339 #[.int .i32 r] w λe w'=>e=.returned (.bool (decide (1776<=r) && decide (r<=1785)))/\w=w':=by
 by_cases h1:1776<=r<;>by_cases h2:r<=1785
 all_goals first | rw [decide_eq_true h1] | rw [decide_eq_false h1]
 all_goals first | rw [decide_eq_true h2] | rw [decide_eq_false h2]
 all_goals
  go_enter func339,ntmps339;go_wp2;go_ret;exact ⟨rfl,rfl⟩
theorem Ajl (r:Int) (w:World):Calls prog 315 #[.int .i32 r] w λe w'=>e=.returned (.int .i32 (kindOf r))/\w=w':=by
 have KA:=jH (Sf r w);have KE:=jH (Pw r w);unfold kindOf;by_cases h:r=1524
 ·subst h;rw [if_pos rfl];go_enter func315,ntmps315;go_wp2;go_ret;exact ⟨rfl,rfl⟩
 ·rw [if_neg h];have e1:(r == 1524)=false:=by simpa using h
  by_cases h2:1632<=r/\r<=1641
  ·rw [if_pos h2];have k:=KA.out;rw [decide_eq_true h2.1,decide_eq_true h2.2] at k;have KA:=jH k;clear k h h2;go_enter func315,ntmps315;go_wp2_with fail;refine KA.out.mono ?_;rintro e w2 ⟨rfl,rfl⟩;go_wp2;go_ret;exact ⟨rfl,rfl⟩
  ·rw [if_neg h2];have ha:(decide (1632<=r) && decide (r<=1641))=false:=by simp;omega
   have k:=KA.out;rw [ha] at k;have KA:=jH k;clear k ha h h2;by_cases h3:1776<=r/\r<=1785
   ·rw [if_pos h3];have k:=KE.out;rw [decide_eq_true h3.1,decide_eq_true h3.2] at k;have KE:=jH k;clear k h3;go_enter func315,ntmps315;go_wp2_with fail;refine KA.out.mono ?_;rintro e w2 ⟨rfl,rfl⟩;go_wp2_with fail;refine KE.out.mono ?_;rintro e w2 ⟨rfl,rfl⟩;go_wp2;go_ret;exact ⟨rfl,rfl⟩
   ·rw [if_neg h3];have ha:(decide (1776<=r) && decide (r<=1785))=false:=by simp;omega
    have k:=KE.out;rw [ha] at k;have KE:=jH k;clear k ha h3;go_enter func315,ntmps315;go_wp2_with fail;refine KA.out.mono ?_;rintro e w2 ⟨rfl,rfl⟩;go_wp2_with fail;refine KE.out.mono ?_;rintro e w2 ⟨rfl,rfl⟩;go_wp2;go_ret;exact ⟨rfl,rfl⟩
theorem Abm (g:Nat) (t v:Value) (l:List Int) (k:Nat) (w:World) (hR:E6 g t v l w) (hn:l.length<=1000) (hk:k<l.length) :
  Calls prog 331 #[.pointer (some ⟨g,0,none⟩),.int .i64 k] w λe w'=>e=.returned (.bool (Ctx.at0 l ((k:Int) - 1) == 108 && Ctx.at0 l ((k:Int)+1) == 108))/\Below w.heap.size w w':=by
 rw [<- A49,<- A49];have KX:=Tn g t v l ((k:Int) - 1) w hR;have KY:=Tn g t v l ((k:Int)+1) w hR;generalize Iy l ((k:Int) - 1)=x at KX ⊢;generalize Iy l ((k:Int)+1)=y at KY ⊢;have KX:=jH KX;have KY:=jH KY;have hk':k<=1000:=jO
 clear hR hn hk;cases h1:(x == 108)
 ·go_enter func331,ntmps331;go_wp2_with fail;refine KX.out.mono ?_;rintro e w2 ⟨rfl,rfl⟩;go_wp2;go_ret;exact ⟨rfl,jan _ _⟩
 ·cases h2:(y == 108)
  all_goals
   go_enter func331,ntmps331;go_wp2_with fail;refine KX.out.mono ?_;rintro e w2 ⟨rfl,rfl⟩;go_wp2_with fail;refine KY.out.mono ?_;rintro e w2 ⟨rfl,rfl⟩;go_wp2;go_ret;exact ⟨rfl,jan _ _⟩
theorem Adk (g:Nat) (t v:Value) (l:List Int) (k:Nat) (w:World) (hR:E6 g t v l w) (hn:l.length<=1000) (hk:k<l.length) :
  Calls prog 330 #[.pointer (some ⟨g,0,none⟩),.int .i64 k] w λe w'=>e=.returned (.bool (Ctx.Ir l k))/\Below w.heap.size w w':=by
 rw [<- Aqa l k hk];have KX:=λW (h:Below w.heap.size w W)=>Tn g t v l ((k:Int) - 1) W (hR.Ac h);generalize Iy l ((k:Int) - 1)=x at KX ⊢;have KC:=λW (h:Below w.heap.size w W)=>Ky t x W (hR.1.below h);generalize Ad x=y at KC ⊢;obtain ⟨b0,b1,b2,b3,A,c,rfl,rfl,hc,hg,⟨c0,c1,c2,c3,c4⟩,-⟩:=hR.form;have hk':k<=1000:=jO
 have KX:=jH KX;have KC:=jH KC;clear hR hn hk hc;cases h1:(y == 9)
 all_goals
  go_enter func330,ntmps330;go_wp2;have hwr:IntKind.i64.wrap ((k:Int) - 1)=(k:Int) - 1:=IntWalk.i64_in _ jO;go_region_held3 (λw'=>w'.cell? ⟨g,0,none⟩=some (.slice (some ⟨b0,0,none⟩) 74 74)/\w'.cell? ⟨g,1,none⟩=some (.slice (some ⟨b1,0,none⟩) 10 10)/\w'.cell? ⟨g,2,none⟩=some (.slice (some ⟨b2,0,none⟩) 11 11)/\w'.cell? ⟨g,3,none⟩=some (.slice (some ⟨b3,0,none⟩) 42 42)) (go_keep) (first
   | (go_at_call 346;(with_reducible refine (KX.out _ (jan _ w).drew).mono ?_);rintro e w5 ⟨rfl,rfl⟩)
   | (go_at_call 278;(with_reducible refine (KC.out _ (jan _ w).drew).mono ?_);rintro e w5 ⟨rfl,hb5⟩;have B5:=jH (Ag hb5);obtain ⟨d0,d1,d2,d3⟩:w5.cell? ⟨g,0,none⟩=some (.slice (some ⟨b0,0,none⟩) 74 74)/\w5.cell? ⟨g,1,none⟩=some (.slice (some ⟨b1,0,none⟩) 10 10)/\w5.cell? ⟨g,2,none⟩=some (.slice (some ⟨b2,0,none⟩) 11 11)/\w5.cell? ⟨g,3,none⟩=some (.slice (some ⟨b3,0,none⟩) 42 42):=⟨(B5.out.cell (p:=⟨g,0,none⟩) hg).trans c0,(B5.out.cell (p:=⟨g,1,none⟩) hg).trans c1,(B5.out.cell (p:=⟨g,2,none⟩) hg).trans c2,(B5.out.cell (p:=⟨g,3,none⟩) hg).trans c3⟩;clear hb5))
  clear hwr;go_wp2;go_ret;exact ⟨rfl,B5.out⟩
theorem Qs (g:Nat) (t v:Value) (l:List Int) (k:Nat) (w:World) (hR:E6 g t v l w) (hn:l.length<=1000) (hk:k<l.length) :
  Calls prog 332 #[.pointer (some ⟨g,0,none⟩),.int .i64 k] w λe w'=>e=.returned (.bool (Ax (Ctx.at0 l ((k:Int)+1)) == 2))/\Below w.heap.size w w':=by
 rw [<- Aw5];have KX:=λW (h:Below w.heap.size w W)=>Tn g t v l ((k:Int)+1) W (hR.Ac h);generalize Iy l ((k:Int)+1)=x at KX ⊢;have KC:=λW (h:Below w.heap.size w W)=>Q3 t x W (hR.1.below h);generalize Ax x=y at KC ⊢;obtain ⟨b0,b1,b2,b3,A,c,rfl,rfl,hc,hg,⟨c0,c1,c2,c3,c4⟩,-⟩:=hR.form;have hk':k<=1000:=jO
 have KX:=jH KX;have KC:=jH KC;clear hR hn hk hc;cases h1:(y == 2)
 all_goals
  go_enter func332,ntmps332;go_wp2;have hwr:IntKind.i64.wrap ((k:Int)+1)=(k:Int)+1:=IntWalk.i64_in _ jO;go_region_held3 (λw'=>w'.cell? ⟨g,0,none⟩=some (.slice (some ⟨b0,0,none⟩) 74 74)/\w'.cell? ⟨g,1,none⟩=some (.slice (some ⟨b1,0,none⟩) 10 10)/\w'.cell? ⟨g,2,none⟩=some (.slice (some ⟨b2,0,none⟩) 11 11)/\w'.cell? ⟨g,3,none⟩=some (.slice (some ⟨b3,0,none⟩) 42 42)) (go_keep) (first
   | (go_at_call 346;(with_reducible refine (KX.out _ (jan _ w).drew).mono ?_);rintro e w5 ⟨rfl,rfl⟩)
   | (go_at_call 347;(with_reducible refine (KC.out _ (jan _ w).drew).mono ?_);rintro e w5 ⟨rfl,hb5⟩;have B5:=jH (Ag hb5);obtain ⟨d0,d1,d2,d3⟩:w5.cell? ⟨g,0,none⟩=some (.slice (some ⟨b0,0,none⟩) 74 74)/\w5.cell? ⟨g,1,none⟩=some (.slice (some ⟨b1,0,none⟩) 10 10)/\w5.cell? ⟨g,2,none⟩=some (.slice (some ⟨b2,0,none⟩) 11 11)/\w5.cell? ⟨g,3,none⟩=some (.slice (some ⟨b3,0,none⟩) 42 42):=⟨(B5.out.cell (p:=⟨g,0,none⟩) hg).trans c0,(B5.out.cell (p:=⟨g,1,none⟩) hg).trans c1,(B5.out.cell (p:=⟨g,2,none⟩) hg).trans c2,(B5.out.cell (p:=⟨g,3,none⟩) hg).trans c3⟩;clear hb5))
  clear hwr;go_wp2;go_ret;exact ⟨rfl,B5.out⟩
theorem Qt (g:Nat) (t v:Value) (l:List Int) (k:Nat) (w:World) (hR:E6 g t v l w) (hn:l.length<=1000) (hk:k<l.length) :
  Calls prog 333 #[.pointer (some ⟨g,0,none⟩),.int .i64 k] w λe w'=>e=.returned (.bool (Ax (Ctx.at0 l ((k:Int) - 1)) == 4))/\Below w.heap.size w w':=by
 rw [<- Ap9];have KX:=λW (h:Below w.heap.size w W)=>Tn g t v l ((k:Int) - 1) W (hR.Ac h);generalize Iy l ((k:Int) - 1)=x at KX ⊢;have KC:=λW (h:Below w.heap.size w W)=>Q3 t x W (hR.1.below h);generalize Ax x=y at KC ⊢;obtain ⟨b0,b1,b2,b3,A,c,rfl,rfl,hc,hg,⟨c0,c1,c2,c3,c4⟩,-⟩:=hR.form;have hk':k<=1000:=jO
 have KX:=jH KX;have KC:=jH KC;clear hR hn hk hc;cases h1:(y == 4)
 all_goals
  go_enter func333,ntmps333;go_wp2;have hwr:IntKind.i64.wrap ((k:Int) - 1)=(k:Int) - 1:=IntWalk.i64_in _ jO;go_region_held3 (λw'=>w'.cell? ⟨g,0,none⟩=some (.slice (some ⟨b0,0,none⟩) 74 74)/\w'.cell? ⟨g,1,none⟩=some (.slice (some ⟨b1,0,none⟩) 10 10)/\w'.cell? ⟨g,2,none⟩=some (.slice (some ⟨b2,0,none⟩) 11 11)/\w'.cell? ⟨g,3,none⟩=some (.slice (some ⟨b3,0,none⟩) 42 42)) (go_keep) (first
   | (go_at_call 346;(with_reducible refine (KX.out _ (jan _ w).drew).mono ?_);rintro e w5 ⟨rfl,rfl⟩)
   | (go_at_call 347;(with_reducible refine (KC.out _ (jan _ w).drew).mono ?_);rintro e w5 ⟨rfl,hb5⟩;have B5:=jH (Ag hb5);obtain ⟨d0,d1,d2,d3⟩:w5.cell? ⟨g,0,none⟩=some (.slice (some ⟨b0,0,none⟩) 74 74)/\w5.cell? ⟨g,1,none⟩=some (.slice (some ⟨b1,0,none⟩) 10 10)/\w5.cell? ⟨g,2,none⟩=some (.slice (some ⟨b2,0,none⟩) 11 11)/\w5.cell? ⟨g,3,none⟩=some (.slice (some ⟨b3,0,none⟩) 42 42):=⟨(B5.out.cell (p:=⟨g,0,none⟩) hg).trans c0,(B5.out.cell (p:=⟨g,1,none⟩) hg).trans c1,(B5.out.cell (p:=⟨g,2,none⟩) hg).trans c2,(B5.out.cell (p:=⟨g,3,none⟩) hg).trans c3⟩;clear hb5))
  clear hwr;go_wp2;go_ret;exact ⟨rfl,B5.out⟩
end
section
open Go.RowKit
def Amh (p:Int->Bool) (l:List Int) (w:World) (e:Ending) (w':World):Prop :=
 ∃ k:Nat,k<=l.length/\(∀ j,j<k->p l[j]! = false)/\((k<l.length/\p l[k]! = true/\e=.returned (.int .i64 k))\/(k=l.length/\e=.returned (.int .i64 (-1))))/\Below w.heap.size w w'
theorem Apl (g:Nat) (cb:Array Value) (v:Value) (l:List Int) (p:Int->Bool) (w:World) (hl:Runes v l w) (hn:l.length<=1000)
  (eg:∀ args w,(callFunc g args).run prog w=.ok (.enter g args) w)
  (hf:∀ (W:World) (x:Int),Below w.heap.size w W->Calls prog g (#[.int .i32 x] ++ cb) W λe w'=>e=.returned (.bool (p x))/\Below W.heap.size W w') :
  Calls prog 316 #[v,.func (.func g) #[] cb] w (Amh p l w):=by
 have HF:=jH hf;obtain ⟨A,c,rfl,hc,hx⟩:=hl.form;have HX:=jH hx;clear hf hl hx hc;obtain ⟨n,hnn⟩:∃ n,n=l.length:=⟨_,rfl⟩
 rw [<- hnn];have HN:=jH hnn;rw [<- hnn] at hn;clear hnn;go_enter func316,ntmps316;go_wp2;go_loopg [5,8] n (λgg _ s8 wr=>∃ k:Nat,k<=n/\n - k<=gg/\s8=.int .i64 k/\Hid (Below w.heap.size w wr)/\Hid (∀ j,j<k->p l[j]! = false))
 case atStart=>exact ⟨0,Nat.zero_le _,by omega,rfl,jan _ w,λj hj=>absurd hj (Nat.not_lt_zero _)⟩
 case round =>
  obtain ⟨k,hk,hg,rfl,BW,A⟩:=hrel;by_cases hlt:k<n
  ·have hkz:(k:Int)<(n:Int):=jO
   obtain ⟨ad,rfl,hb,hcell⟩:=HX.out k (by have:=HN.out;omega);have hcell':=(BW.out.cell (by rw [Bf];exact hb)).trans hcell;have hcall:=HF.out wr l[k]! BW.out;generalize hy:l[k]! = y at hcell' hcall;have HY:=jH hy;clear hy hcell hb;cases hp:p y with
   | true =>
    rw [hp] at hcall;have HP:=jH hp;have HC:=jH hcall;clear hp hcall;go_wp2_with fail;refine HC.out.mono ?_;rintro e w2 ⟨rfl,hb'⟩;have HB2:=jH (BW.out.trans (hb'.mono BW.out.size));clear hb' hcell';go_wp2;go_ret;exact ⟨k,by have:=HN.out;omega,A.out,.inl ⟨by have:=HN.out;omega,by rw [HY.out];exact HP.out,rfl⟩,HB2.out⟩
   | false =>
    rw [hp] at hcall;have HP:=jH hp;have HC:=jH hcall;clear hp hcall;go_wp2_with fail;refine HC.out.mono ?_;rintro e w2 ⟨rfl,hb'⟩;have HB2:=jH (BW.out.trans (hb'.mono BW.out.size));clear hb' hcell';go_wp2;go_roundg (n - (k+1))
    case measure=>omega
    case rel =>
     refine ⟨k+1,by omega,by omega,by go_num,HB2,(show Hid _ from λj hj=>?_)⟩;by_cases e:j=k
     ·subst e;rw [HY.out];exact HP.out
     ·exact A.out j jO
  ·have hkz:¬ (k:Int)<(n:Int):=jO
   go_wp2;go_ret;exact ⟨k,by have:=HN.out;omega,A.out,.inr ⟨by have:=HN.out;omega,rfl⟩,BW.out⟩
theorem A2t {p:Int->Bool} {l:List Int} {k:Nat} (hk:k<l.length) (h:p l[k]! = true):l.any p=true :=
 List.any_eq_true.2 ⟨l[k]!,by rw [getElem!_pos l k hk];exact List.getElem_mem hk,h⟩
theorem Axs {p:Int->Bool} {l:List Int} (h:∀ j,j<l.length->p l[j]! = false):l.any p=false:=by
 rw [List.any_eq_false];intro x hx;obtain ⟨j,hj,rfl⟩:=List.getElem_of_mem hx;have:=h j hj;rw [getElem!_pos l j hj] at this;rw [this];exact Bool.noConfusion
theorem Ib (g:Nat) (cb:Array Value) (v:Value) (l:List Int) (p:Int->Bool) (w:World) (hl:Runes v l w) (hn:l.length<=1000)
  (eg:∀ args w,(callFunc g args).run prog w=.ok (.enter g args) w)
  (hf:∀ (W:World) (x:Int),Below w.heap.size w W->Calls prog g (#[.int .i32 x] ++ cb) W λe w'=>e=.returned (.bool (p x))/\Below W.heap.size W w') :
  Calls prog 284 #[v,.func (.func g) #[] cb] w λe w'=>e=.returned (.bool (l.any p))/\Below w.heap.size w w':=by
 have K:=jH (Apl g cb v l p w hl hn eg hf);clear hl hn eg hf;obtain ⟨r,hr⟩:∃ r,r=l.any p:=⟨_,rfl⟩
 rw [<- hr];have HR:=jH hr;clear hr;go_enter func284,ntmps284;go_wp2_with fail;refine K.out.mono ?_;rintro e w2 ⟨k,hk,hm,⟨h1,h2,rfl⟩ | ⟨h1,rfl⟩,hb⟩
 ·have R:=jH (HR.out.trans (A2t h1 h2));have HB:=jH hb;clear hm h1 h2 hb hk;go_wp2;go_ret;exact ⟨by rw [R.out];rfl,HB.out⟩
 ·have R:=jH (HR.out.trans (Axs (λj hj=>hm j jO)));have HB:=jH hb;clear hm h1 hb hk;go_wp2;go_ret;exact ⟨by rw [R.out];rfl,HB.out⟩
theorem Uj (g:Nat) (t v:Value) (l:List Int) (w:World) (hR:E6 g t v l w) (hn:l.length<=1000) :
  Calls prog 336 #[.pointer (some ⟨g,0,none⟩)] w λe w'=>e=.returned (.bool (!Ctx.Dg l 1776 1785))/\Below w.heap.size w w':=by
 have eg:∀ args w,(callFunc 339 args).run prog w=.ok (.enter 339 args) w:=enters_of func339 jK rfl;have K:=Ib 339 #[] v l (λx=>decide (1776<=x) && decide (x<=1785)) w hR.2.1 hn eg (λW x _=>(Pw x W).mono λe w' ⟨h1,h2⟩=>⟨h1,h2 ▸ jan _ _⟩);change Calls _ _ _ _ λe w'=>e=.returned (.bool (Ctx.Dg l 1776 1785))/\_ at K;generalize Ctx.Dg l 1776 1785=r at K ⊢;obtain ⟨b0,b1,b2,b3,A,c,rfl,rfl,hc,hg,⟨c0,c1,c2,c3,c4⟩,-⟩:=hR.form;have K:=jH K;clear hR hn hc eg;cases r
 all_goals
  go_enter func336,ntmps336;go_wp2_with fail;refine K.out.mono ?_;rintro e w2 ⟨rfl,hb⟩;have HB:=jH hb;clear hb;go_wp2;go_ret;exact ⟨rfl,HB.out⟩
theorem Wr (g:Nat) (t v:Value) (l:List Int) (w:World) (hR:E6 g t v l w) (hn:l.length<=1000) :
  Calls prog 337 #[.pointer (some ⟨g,0,none⟩)] w λe w'=>e=.returned (.bool (!Ctx.Dg l 1632 1641))/\Below w.heap.size w w':=by
 have eg:∀ args w,(callFunc 338 args).run prog w=.ok (.enter 338 args) w:=enters_of func338 jK rfl;have K:=Ib 338 #[] v l (λx=>decide (1632<=x) && decide (x<=1641)) w hR.2.1 hn eg (λW x _=>(Sf x W).mono λe w' ⟨h1,h2⟩=>⟨h1,h2 ▸ jan _ _⟩);change Calls _ _ _ _ λe w'=>e=.returned (.bool (Ctx.Dg l 1632 1641))/\_ at K;generalize Ctx.Dg l 1632 1641=r at K ⊢;obtain ⟨b0,b1,b2,b3,A,c,rfl,rfl,hc,hg,⟨c0,c1,c2,c3,c4⟩,-⟩:=hR.form;have K:=jH K;clear hR hn hc eg;cases r
 all_goals
  go_enter func337,ntmps337;go_wp2_with fail;refine K.out.mono ?_;rintro e w2 ⟨rfl,hb⟩;have HB:=jH hb;clear hb;go_wp2;go_ret;exact ⟨rfl,HB.out⟩
theorem Ajj (g B:Nat) (t v:Value) (l:List Int) (x:Int) (w:World) (hR:E6 g t v l w) (hB:w.cell? ⟨B,0,none⟩=some (.pointer (some ⟨g,0,none⟩))) :
  Calls prog 349 #[.int .i32 x,.pointer (some ⟨B,0,none⟩)] w λe w'=>e=.returned (.bool (Ax x == 7 || Ax x == 8))/\Below w.heap.size w w':=by
 have K:=Q3 t x w hR.1;generalize Ax x=y at K ⊢;obtain ⟨b0,b1,b2,b3,A,c,rfl,rfl,hc,hg,⟨c0,c1,c2,c3,c4⟩,-⟩:=hR.form;have K:=jH K;clear hR hc;cases h1:(y == 7)<;>cases h2:(y == 8)
 all_goals
  go_enter func349,ntmps349;go_wp2_with fail;refine K.out.mono ?_;rintro e w2 ⟨rfl,hb⟩;have HB:=jH hb;clear hb c0 c1 c2 c3 c4 hB;go_wp2;go_ret;exact ⟨rfl,HB.out⟩
theorem Ui (g:Nat) (t v:Value) (l:List Int) (w:World) (hR:E6 g t v l w) (hn:l.length<=1000) :
  Calls prog 335 #[.pointer (some ⟨g,0,none⟩)] w λe w'=>e=.returned (.bool (Ctx.Na l))/\Below w.heap.size w w':=by
 have eg:∀ args w,(callFunc 349 args).run prog w=.ok (.enter 349 args) w:=enters_of func349 jK rfl;have hW:Below w.heap.size w (w.alloc (.cells #[.pointer (some ⟨g,0,none⟩)] 351)):=Ab _ _;have K:=Ib 349 #[.pointer (some ⟨w.heap.size,0,none⟩)] v l (λx=>Ax x == 7 || Ax x == 8) _ (hR.Ac hW).2.1 hn eg
  (λW x hb=>Ajj g w.heap.size t v l x W ((hR.Ac hW).Ac hb) ((hb.cell (p:=⟨w.heap.size,0,none⟩) jS).trans (Jf w _ _)))
 change Calls _ _ _ _ λe w'=>e=.returned (.bool (Ctx.Na l))/\_ at K;generalize Ctx.Na l=r at K ⊢;obtain ⟨b0,b1,b2,b3,A,c,rfl,rfl,hc,hg,⟨c0,c1,c2,c3,c4⟩,-⟩:=hR.form;have K:=jH K;have HW:=jH hW;clear hR hn hc eg hW;go_enter func335,ntmps335;go_wp2_with fail;refine K.out.mono ?_;rintro e w2 ⟨rfl,hb⟩;have HB:=jH (Aa HW.out hb);clear hb;go_wp2;go_ret;exact ⟨rfl,HB.out⟩
def Gt:Option Int->Int
 | some x=>Dt x
 | none=>0
theorem Atw (l:List Int) (k:Nat):(Gt (Ctx.ahead l k) == 1 && (Gt (Ctx.behind l (k+1)) == 1 || Gt (Ctx.behind l (k+1)) == 2))=Ctx.Uo l k:=by
 unfold Ctx.Uo Ctx.both Gt;cases Ctx.ahead l k<;>cases Ctx.behind l (k+1)<;>simp
theorem Ah0 {l:List Int} {k:Nat} (hk:k<l.length):Ctx.behind l k=if Dt l[k]! = 3 then Ctx.behind l (k+1) else some l[k]!:=by
 unfold Ctx.behind;rw [List.drop_eq_getElem_cons hk,<- getElem!_pos l k hk];by_cases h:Dt l[k]! = 3
 · rw [if_pos h,List.find?_cons_of_neg (by unfold Ctx.Yu;rw [h];decide)]
 · rw [if_neg h,List.find?_cons_of_pos (by unfold Ctx.Yu;exact bne_iff_ne.2 h)]
theorem Xy {l:List Int} {k:Nat} (hk:l.length<=k):Ctx.behind l k=none:=by
 unfold Ctx.behind;rw [List.drop_of_length_le hk];rfl
theorem Y3 (g:Nat) (t v:Value) (l:List Int) (k:Nat) (w:World) (hR:E6 g t v l w) (hn:l.length<=1000) (hk:k<l.length) :
  Calls prog 344 #[.pointer (some ⟨g,0,none⟩),.int .i64 k] w λe w'=>e=.returned (.int .i64 (Gt (Ctx.behind l (k+1))))/\Below w.heap.size w w':=by
 have KJ:=jH (λW (h:Below w.heap.size w W) x=>Ajg t x W (hR.1.below h));obtain ⟨b0,b1,b2,b3,A,c,rfl,rfl,hc,hg,⟨c0,c1,c2,c3,c4⟩,hx⟩:=hR.form;obtain ⟨ad,rfl,hb,-⟩:=hx k hk;have HX:Hid (∀ j,j<l.length->w.cell? (ad.add j)=some (.int .i32 l[j]!)):=jH (λj hj=>by obtain ⟨ad',e,-,h⟩:=hx j hj;obtain rfl:ad=ad':=(by injection e);exact h);clear hR hx;obtain ⟨n,hnn⟩:∃ n,n=l.length:=⟨_,rfl⟩
 rw [<- hnn] at hn hk hc c4;have HN:=jH hnn;clear hnn;have C0:=jH (show ∀ W,Below w.heap.size w W->W.cell? ⟨g,0,none⟩=some (.slice (some ⟨b0,0,none⟩) 74 74)/\W.cell? ⟨g,1,none⟩=some (.slice (some ⟨b1,0,none⟩) 10 10)/\W.cell? ⟨g,2,none⟩=some (.slice (some ⟨b2,0,none⟩) 11 11)/\W.cell? ⟨g,3,none⟩=some (.slice (some ⟨b3,0,none⟩) 42 42) from λW h=>⟨(h.cell (p:=⟨g,0,none⟩) hg).trans c0,(h.cell (p:=⟨g,1,none⟩) hg).trans c1,(h.cell (p:=⟨g,2,none⟩) hg).trans c2,(h.cell (p:=⟨g,3,none⟩) hg).trans c3⟩);clear c0 c1 c2 c3;have hkz:(k:Int)+1<=(n:Int):=jO
 have hcz:(n:Int)<=(c:Int):=jO
 by_cases hcc:c=k+1
 ·have hB:Ctx.behind l (k+1)=none:=Xy (by have:=HN.out;omega);rw [hB];obtain rfl:n=k+1:=jO
  subst hcc;clear hB;go_enter func344,ntmps344;go_wp2;go_loopg [6,7,16] 1 (λgk _ _ i wr=>i=.int .i64 0/\0<gk/\w=wr)
  case atStart=>exact ⟨rfl,by omega,rfl⟩
  case round =>
   obtain ⟨rfl,hg0,rfl⟩:=hrel;go_wp2;go_ret;exact ⟨rfl,jan _ _⟩
 ·have hcz2:((c:Int) == (k:Int)+1)=false:=by rw [beq_eq_false_iff_ne];omega
  have hcc2:¬ c=k+1:=hcc;clear hcc;go_enter func344,ntmps344;go_wp2;go_loopg [6,7,16] (n+1) (λgk _ _ i wr=>∃ j:Nat,j<=n - (k+1)/\i=.int .i64 j/\n - j<gk/\Hid (Ctx.behind l (k+1)=Ctx.behind l (k+1+j)/\Below w.heap.size w wr))
  case atStart=>exact ⟨0,Nat.zero_le _,rfl,by omega,⟨rfl,jan _ w⟩⟩
  case round =>
   obtain ⟨j,hj,rfl,hg0,I⟩:=hrel;by_cases hlt:j<n - (k+1)
   ·obtain ⟨x,hxe⟩:∃ x,x=l[k+1+j]!:=⟨_,rfl⟩
    have hcell:w.cell? ⟨ad.block,ad.off+(k+1)+j,none⟩=some (.int .i32 x):=by
     have h:=HX.out (k+1+j) (by have:=HN.out;omega);rw [<- hxe] at h;rw [<- h];unfold Addr.add;rw [if_neg jO,Nat.add_assoc]
    have hcell':=(I.out.2.cell (p:=⟨ad.block,ad.off+(k+1)+j,none⟩) hb).trans hcell;obtain ⟨d0,d1,d2,d3⟩:=C0.out wr I.out.2;have hs:Ctx.behind l (k+1)=if Dt x=3 then Ctx.behind l (k+1+(j+1)) else some x:=by
     rw [I.out.1,Ah0 (show k+1+j<l.length by have:=HN.out;omega),<- hxe];rfl
    have hy:∃ y,y=Dt x:=⟨_,rfl⟩
    obtain ⟨y,hy⟩:=hy;have K:=KJ.out wr I.out.2 x;rw [<- hy] at K hs;have HY:=jH hy;have HS:=jH hs;have K:=jH K;have hjz:(j:Int)<((n - (k+1):Nat):Int):=jO
    clear hcell hxe hs hy;by_cases h3:y=3
    ·have R:=jH (show Ctx.behind l (k+1)=Ctx.behind l (k+1+(j+1)) by rw [HS.out,if_pos h3]);clear HY;subst h3;go_wp2_with fail;refine K.out.mono ?_;rintro e w5 ⟨rfl,hb5⟩;have B5:=jH (I.out.2.trans (hb5.mono I.out.2.size));clear hb5 d0 d1 d2 d3 hcell';go_wp2;go_roundg (n - j)
     case measure=>omega
     case rel=>exact ⟨j+1,by omega,by go_num,by omega,⟨R.out,B5.out⟩⟩
    ·have R:=jH (show Gt (Ctx.behind l (k+1))=y by rw [HS.out,if_neg h3];exact HY.out.symm);have e3:(y == 3)=false:=by simpa using h3
     clear h3;go_wp2_with fail;refine K.out.mono ?_;rintro e w5 ⟨rfl,hb5⟩;have B5:=jH (I.out.2.trans (hb5.mono I.out.2.size));clear hb5 d0 d1 d2 d3 hcell';go_wp2;go_ret;exact ⟨by rw [R.out];rfl,B5.out⟩
   ·have R:=jH (show Gt (Ctx.behind l (k+1))=0 by rw [I.out.1,Xy (by have:=HN.out;omega)];rfl);have hjz:¬ (j:Int)<((n - (k+1):Nat):Int):=jO
    go_wp2;go_ret;exact ⟨by rw [R.out];rfl,I.out.2⟩
end
section
open Go.RowKit Go.Shelf
attribute [local go_sem] Oper.semAt_some
def upto {α:Type} (f:Nat->α) (k:Nat):List α:=(List.range k).map f
theorem Vh {α:Type} (f:Nat->α) (k:Nat):upto f (k+1)=upto f k ++ [f k]:=by simp [upto,List.range_succ]
theorem Al1 {α:Type} (f:Nat->α) (k:Nat):(upto f k).length=k:=by simp [upto]
theorem Al2 {α:Type} (f:Nat->α) {k j:Nat} (h:j<k):f j ∈ upto f k:=List.mem_map.2 ⟨j,List.mem_range.2 h,rfl⟩
def Ex (l:List Int) (n:Nat) (j:Nat):Nat × Int:=(n - 1 - j,l[n - 1 - j]!)
theorem Axx (F:Fence) (n:Nat) (hF:F.fn 356) (hro:F.round=none) (hn:1<=n) (l Bs n₀:Nat) (ad:Addr) (len cap:Nat) (zs:List Int) (hlen:len<=1000) (hBn:Bs<n₀) (hb:ad.block<n₀) (J Jx:List (Nat × Int)->World->Prop)
  (hY:∀ pre x W,J pre W->pre.length<len->YieldAt F (n - 1) prog l #[.int .i64 (x.1:Int),.int .i32 x.2] W λe W' =>
   (e=.returned (.bool true)/\J (pre ++ [x]) W'/\Below n₀ W W')\/(e=.returned (.bool false)/\Jx (pre ++ [x]) W'))
  (W:World) (hBs:W.cell? ⟨Bs,0,none⟩=some (.slice (some ad) len cap)) (hc:∀ j,j<len->W.cell? (ad.add j)=some (.int .i32 zs[j]!)) (h0:J [] W) :
  CallsIn F n prog 356 #[.func (.yield l) #[] #[],.pointer (some ⟨Bs,0,none⟩)] W λe W'=>(∃ v,e=.returned v) /\
   ((∃ ys,ys=upto (Ex zs len) len/\J ys W')\/(∃ pre,(∃ k,k<=len/\pre=upto (Ex zs len) k)/\Jx pre W')):=by
 refine callsIn_of_wp func356 rfl hF ?_ hro;simp only [ntmps356,List.size_toArray,jac,List.length_nil,Nat.reduceAdd,Nat.reduceSub,Array.replicate_succ,Array.replicate_zero,List.push_toArray,List.append_toArray,List.nil_append,jah];have HC:=jH hc;have HBs:=jH hBs;have hl1:(0:Int)<=(len:Int):=jO
 have hl2:(len:Int)<=1000:=jO
 clear hc
 gi_wp2
 clear hBs
 gi_loopw [3] (λi wr=>∃ m:Nat,m<=len/\i=.int .i64 ((m:Int) - 1)/\J (upto (Ex zs len) (len - m)) wr/\Below n₀ W wr)
  (λi _=>(intOf i+1).toNat)
 case atStart=>exact ⟨len,jaa _,rfl,by rw [Nat.sub_self];exact h0,jan _ _⟩
 case round =>
  obtain ⟨m,hm,rfl,hJs,hnx⟩:=hrel;cases m with
  | zero =>
   gi_wp2
   go_end0;exact ⟨⟨_,rfl⟩,.inl ⟨_,rfl,hJs⟩⟩
  | succ m =>
   rw [show ((m+1:Nat):Int) - 1=(m:Int) by omega];have hlt:m<len:=jO
   have hx:=(hnx.cell (p:=ad.add m) (by rw [Bf];exact hb)).trans (HC.out m hlt);have hs:=(hnx.cell (p:=⟨Bs,0,none⟩) hBn).trans HBs.out;obtain ⟨x,hxe⟩:∃ x,x=zs[m]!:=⟨_,rfl⟩
   rw [<- hxe] at hx;obtain ⟨fn,tmps,assign,body,hy,hR⟩:=hY _ (m,x) wr hJs (by rw [Al1];omega);dsimp only at hy;have e1:Ex zs len (len - (m+1))=(m,x):=by
    unfold Ex;rw [show len - 1 - (len - (m+1))=m by omega,hxe]
   have E1:=jH e1;clear e1 hxe;have hmz:(m:Int)<(len:Int):=jO
   gi_wp2
   refine hR.mono ?_;rintro e W3 (⟨rfl,hJ3,hk3⟩ | ⟨rfl,hJx3⟩)
   ·gi_wp2
    go_roundw
    case rel=>exact ⟨m,by omega,by simp,by rw [show len - m=len - (m+1)+1 by omega,Vh,E1.out];exact hJ3,hnx.trans hk3⟩
    case measure=>simp [intOf]
   ·gi_wp2
    refine bodyPost_ret (results_none rfl _ _ _) rfl ?_;exact ⟨⟨_,rfl⟩,.inr ⟨_,⟨len - (m+1)+1,by omega,by rw [Vh,E1.out]⟩,hJx3⟩⟩
theorem A2v (F:Fence) (n:Nat) (hF:F.fn 353) (hro:F.round=none) (a:Option Addr) (len cap:Nat) (w:World) :
  CallsIn F n prog 353 #[.slice a len cap] w λe w'=>e=.returned (.func (.func 356) #[] #[.pointer (some ⟨w.heap.size,0,none⟩)])/\w'=w.alloc (.cells #[.slice a len cap] 157):=by
 refine callsIn_of_wp func353 rfl hF ?_ hro;simp only [ntmps353,List.size_toArray,jac,List.length_nil,Nat.reduceAdd,Nat.reduceSub,Array.replicate_succ,Array.replicate_zero,List.push_toArray,List.append_toArray,List.nil_append,jah]
 gi_wp2
 go_ret;exact ⟨rfl,rfl⟩
theorem Amv (F:Fence) (n:Nat) (hF:F.fn 356) (hro:F.round=none) (hn:1<=n) (Bs:Nat) (ad:Addr) (len cap:Nat) (zs:List Int) (hlen:len<=1000) (w:World) (hBs:Bs<w.heap.size) (hb:ad.block<w.heap.size)
  (hc:w.cell? ⟨Bs,0,none⟩=some (.slice (some ad) len cap)) (hcs:∀ j,j<len->w.cell? (ad.add j)=some (.int .i32 zs[j]!)) :
  SeqStopsK F n prog 356 #[.pointer (some ⟨Bs,0,none⟩)] (λx:Nat × Int=>#[Value.int .i64 (x.1:Int),Value.int .i32 x.2]) (Below w.heap.size) (λys=>ys=upto (Ex zs len) len)
   (λpre=>∃ k,k<=len/\pre=upto (Ex zs len) k) len w:=λl J Jx W hW _ _ hY h0 =>
 Axx F n hF hro hn l Bs w.heap.size ad len cap zs hlen hBs hb J Jx hY W ((hW.cell (p:=⟨Bs,0,none⟩) hBs).trans hc) (λj hj=>(hW.cell (p:=ad.add j) (by rw [Bf];exact hb)).trans (hcs j hj)) h0
theorem Amk {l:List Int} {k:Nat} (hk:k<=l.length) (h:∀ p ∈ upto (Ex l k) k,Dt p.2=3):Ctx.ahead l k=none:=by
 unfold Ctx.ahead;rw [List.find?_eq_none];intro x hx;rw [List.mem_reverse] at hx;obtain ⟨j,hj,rfl⟩:=List.getElem_of_mem hx;rw [jak] at hj;have:=h _ (Al2 (Ex l k) (show k - 1 - j<k by omega));unfold Ex at this;rw [show k - 1 - (k - 1 - j)=j by omega] at this;simp only at this;rw [List.getElem_take,<- getElem!_pos l j jO];unfold Ctx.Yu;rw [this];decide
theorem Aml {l:List Int} {k j:Nat} (hk:k<=l.length) (hj:j<k) (h:∀ p ∈ upto (Ex l k) j,Dt p.2=3) (hx:Dt (Ex l k j).2 ≠ 3):Ctx.ahead l k=some (Ex l k j).2:=by
 unfold Ctx.ahead;have hl:(l.take k).reverse.length=k:=by rw [List.length_reverse,jak];omega
 have at_:∀ i,i<k->(l.take k).reverse[i]! = (Ex l k i).2:=λi hi=>by
  unfold Ex;rw [getElem!_pos _ i (by rw [hl];exact hi),List.getElem_reverse,List.getElem_take,getElem!_pos l (k - 1 - i) jO];congr 1;rw [jak];omega
 rw [<- at_ j hj];refine R9 Ctx.Yu _ j (by rw [hl];exact hj) (λi hi=>?_) ?_
 ·rw [at_ i jO];unfold Ctx.Yu;rw [h _ (Al2 _ hi)];decide
 ·rw [at_ j hj];unfold Ctx.Yu;exact bne_iff_ne.2 hx
theorem KeepsOthers.below {W W':World} (hb:Below W.heap.size W W'):KeepsOthers W W':=⟨hb.size,λk _ hk _=>(hb.block k (Array.getElem?_eq_some_iff.1 hk).1).trans hk⟩
theorem Abp (g:Nat) (t v:Value) (l:List Int) (k:Nat) (w:World) (hR:E6 g t v l w) (hn:l.length<=1000) (hk:k<l.length) :
  Calls prog 345 #[.pointer (some ⟨g,0,none⟩),.int .i64 k] w λe w'=>e=.returned (.int .i64 (Gt (Ctx.ahead l k)))/\Below w.heap.size w w':=by
 have HR:=jH hR;have KJ:=jH (λW (h:Below w.heap.size w W) x=>Ajg t x W (hR.1.below h));obtain ⟨b0,b1,b2,b3,A,c,rfl,rfl,hc,hg,⟨c0,c1,c2,c3,c4⟩,hx⟩:=hR.form;obtain ⟨ad,rfl,hb,-⟩:=hx k hk;have HX:Hid (∀ j,j<l.length->w.cell? (ad.add j)=some (.int .i32 l[j]!)):=jH (λj hj=>by obtain ⟨ad',e,-,h⟩:=hx j hj;obtain rfl:ad=ad':=(by injection e);exact h);clear hR hx;have C0:=jH (show ∀ W,Below w.heap.size w W->W.cell? ⟨g,0,none⟩=some (.slice (some ⟨b0,0,none⟩) 74 74)/\W.cell? ⟨g,1,none⟩=some (.slice (some ⟨b1,0,none⟩) 10 10)/\W.cell? ⟨g,2,none⟩=some (.slice (some ⟨b2,0,none⟩) 11 11)/\W.cell? ⟨g,3,none⟩=some (.slice (some ⟨b3,0,none⟩) 42 42) from λW h=>⟨(h.cell (p:=⟨g,0,none⟩) hg).trans c0,(h.cell (p:=⟨g,1,none⟩) hg).trans c1,(h.cell (p:=⟨g,2,none⟩) hg).trans c2,(h.cell (p:=⟨g,3,none⟩) hg).trans c3⟩);obtain ⟨n,hnn⟩:∃ n,n=l.length:=⟨_,rfl⟩
 rw [<- hnn] at hn hk hc c4;have HN:=jH hnn;clear hnn;obtain ⟨r,hr⟩:∃ r,r=Gt (Ctx.ahead l k):=⟨_,rfl⟩
 rw [<- hr];have HRes:=jH hr;clear hr;have hkz:(k:Int)<(n:Int):=jO
 have hcz:(n:Int)<=(c:Int):=jO
 refine (callsIn_wide (n:=3)).1 ?_;refine callsIn_of_wp_marks func345 rfl trivial ?_ rfl;simp only [ntmps345,List.size_toArray,jac,List.length_nil,Nat.reduceAdd,Nat.reduceSub,Array.replicate_succ,Array.replicate_zero,List.push_toArray,List.append_toArray,List.nil_append,jah]
 gi_wp2_with (refine ⟨trivial,?_⟩;gi_at_call 353;refine (A2v Fence.wide _ trivial rfl _ _ _ _).mono ?_;rintro e w' ⟨rfl,rfl⟩)
 have h1:Below w.heap.size w (((w.alloc (.cells #[.pointer (some ⟨g,0,none⟩)] 351)).alloc (.cells #[.int .i64 0] 3)).alloc (.cells #[.slice (some ad) k c] 157)):=Dh _ _ _ _;have y0:(((w.alloc (.cells #[.pointer (some ⟨g,0,none⟩)] 351)).alloc (.cells #[.int .i64 0] 3)).alloc (.cells #[.slice (some ad) k c] 157)).cell? ⟨w.heap.size,0,none⟩=some (.pointer (some ⟨g,0,none⟩)):=by go_simp
 have y1:(((w.alloc (.cells #[.pointer (some ⟨g,0,none⟩)] 351)).alloc (.cells #[.int .i64 0] 3)).alloc (.cells #[.slice (some ad) k c] 157)).cell? ⟨w.heap.size+1,0,none⟩=some (.int .i64 0):=by go_simp
 have y2:(((w.alloc (.cells #[.pointer (some ⟨g,0,none⟩)] 351)).alloc (.cells #[.int .i64 0] 3)).alloc (.cells #[.slice (some ad) k c] 157)).cell? ⟨w.heap.size+1+1,0,none⟩=some (.slice (some ad) k c):=by go_simp
 have yf:(((w.alloc (.cells #[.pointer (some ⟨g,0,none⟩)] 351)).alloc (.cells #[.int .i64 0] 3)).alloc (.cells #[.slice (some ad) k c] 157)).frozen? ⟨w.heap.size+1,0,none⟩=false:=by go_simp
 obtain ⟨W0,hW0⟩:∃ W0,W0=(((w.alloc (.cells #[.pointer (some ⟨g,0,none⟩)] 351)).alloc (.cells #[.int .i64 0] 3)).alloc (.cells #[.slice (some ad) k c] 157)):=⟨_,rfl⟩
 have hS:W0.heap.size=w.heap.size+1+1+1:=by rw [hW0];simp
 rw [<- hW0] at h1 y0 y1 y2 yf ⊢;clear hW0;have hR0:=HR.out.Ac h1;have hst:=Amv Fence.wide 2 trivial rfl jO (w.heap.size+1+1) ad k c l jO W0 jO (jas hb h1.size) y2 (λj hj=>(h1.cell (p:=ad.add j) (by rw [Bf];exact hb)).trans (HX.out j (by have:=HN.out;omega)));refine wpIn_rangeFunc_ownG rfl jO (gf:=356) (lb:=#[.pointer (some ⟨w.heap.size+1+1,0,none⟩)]) rfl trivial (enters_of func356 jK rfl)
  hst belowK_t (belowK_b (jaa _)) (jan _ _) (λ_=>rfl)
  (λpre W=>(∀ p ∈ pre,Dt p.2=3)/\Below W0.heap.size W0 W)
  (λc pre W=>(c=.ret/\∃ ini last,pre=ini ++ [last]/\(∀ p ∈ ini,Dt p.2=3)/\Dt last.2 ≠ 3/\W.cell? ⟨w.heap.size+1,0,none⟩=some (.int .i64 (Dt last.2)))/\Below w.heap.size w W)
  (OwnFrom.and (Own.from (λs A B row hs hg hr=>hs) _) (ownFrom_below (jaa _) (jaa _)))
  (λc=>OwnFrom.and (Own.from (λs A B row hs hg hr=>by obtain ⟨hc,ini,last,e1,e2,e3,e4⟩:=hs;exact ⟨hc,ini,last,e1,e2,e3,Go.cell_kept e4 hg hr⟩) _) (ownFrom_below (jaa _) jO))
  ⟨by simp,jan _ _⟩
  (λx=>{ tmps:=#[.pointer (some ⟨g,0,none⟩),.int .i64 k,.pointer (some ⟨w.heap.size,0,none⟩),undef,.pointer (some ⟨w.heap.size+1,0,none⟩),undef,.int .i32 x.2,undef,.pointer (some ⟨g,0,none⟩),.pointer (some ⟨g,0,none⟩),.pointer (some ⟨g,4,none⟩),.slice (some ad) n c,.int .i64 k,.slice (some ad) k c,.func (.func 356) #[] #[.pointer (some ⟨w.heap.size+1+1,0,none⟩)],.int .i64 (x.1:Int),.int .i32 x.2,undef,undef,undef,undef,undef,undef,undef,undef,undef],defers:=[] }) ?assign ?body ?done ?stop
 case assign =>
  intro l x W K hK
  gi_wp2
  exact hK
 case body =>
  rintro l' pre ⟨p,x⟩ W ⟨hp,hB⟩ _;have hBw:=h1.trans (hB.mono h1.size);obtain ⟨d0,d1,d2,d3⟩:=C0.out W hBw;have z0:=(hB.cell (p:=⟨w.heap.size,0,none⟩) (show w.heap.size<W0.heap.size by omega)).trans y0;have K:=KJ.out W hBw x;obtain ⟨y,hy⟩:∃ y,y=Dt x:=⟨_,rfl⟩
  rw [<- hy] at K;have HY:=jH hy;have HP:=jH hp;have HB:=jH hB;have HBw:=jH hBw;have K:=jH K;have HS:=jH hS;have Y1:=jH y1;have YF:=jH yf;have H1:=jH h1;clear hy hp hB hBw hS y0 y1 y2 yf h1 hst hR0 c0 c1 c2 c3 c4;by_cases h3:y=3
  ·subst h3
   gi_wp2_with (refine ⟨trivial,?_⟩;gi_at_call 352;refine (CallsIn.inRound l' (callsIn_wide.2 K.out)).mono ?_;rintro e w5 ⟨rfl,hb5⟩;have HB5:=jH hb5;clear hb5)
   exact ⟨(KeepsOthers.below HB5.out).from _,HB5.out.mono HB.out.size,⟨λq hq=>(jap.1 hq).elim (HP.out q) (λe=>by simp at e;subst e;exact HY.out.symm),HB.out.trans (HB5.out.mono HB.out.size)⟩⟩
  ·have e3:(y == 3)=false:=by simpa using h3
   have H3:=jH h3;clear h3
   gi_wp2_with (refine ⟨trivial,?_⟩;gi_at_call 352;refine (CallsIn.inRound l' (callsIn_wide.2 K.out)).mono ?_;rintro e w5 ⟨rfl,hb5⟩;have HB5:=jH hb5;clear hb5;have z1:=((HB.out.trans (HB5.out.mono HB.out.size)).cell (p:=⟨w.heap.size+1,0,none⟩) (show w.heap.size+1<W0.heap.size by have:=HS.out;omega)).trans Y1.out;have zf:=((HB.out.trans (HB5.out.mono HB.out.size)).frozen (p:=⟨w.heap.size+1,0,none⟩) (show w.heap.size+1<W0.heap.size by have:=HS.out;omega)).trans YF.out)
   exact ⟨((KeepsOthers.below HB5.out).trans (KeepsOthers.setCell _ _ _)).from _,⟨rfl,pre,(p,x),rfl,HP.out,(λe=>H3.out (HY.out.trans e)),by rw [<- HY.out];exact World.cell?_setCell_same' _ _ _ (by rw [z1];rfl)⟩,(HBw.out.trans (HB5.out.mono HBw.out.size)).setCell (p:=⟨w.heap.size+1,0,none⟩) (by show w.heap.size<=w.heap.size+1;omega) _⟩
 case done =>
  rintro D ys W hD rfl ⟨hne,hB⟩ hK;have z1:=(hB.cell (p:=⟨w.heap.size+1,0,none⟩) (show w.heap.size+1<W0.heap.size by omega)).trans y1;have zf:=(hB.frozen (p:=⟨w.heap.size+1,0,none⟩) (show w.heap.size+1<W0.heap.size by omega)).trans yf;have R:r=0:=by rw [HRes.out,Amk (by have:=HN.out;omega) hne];rfl
  have hBw:=h1.trans (hB.mono h1.size);subst R;clear y0 y1 y2 yf c0 c1 c2 c3 c4
  gi_wp2
  have hK':=(KeepsOthers.setCell W ⟨w.heap.size+1,0,none⟩ (.int .i64 0)).same D _ hK rfl;refine ⟨by simp,.inl ⟨_,_,rfl,run_takeDeferred hK',?_⟩⟩;have hc5:=Go.cell_kept (World.cell?_setCell_same' W ⟨w.heap.size+1,0,none⟩ (.int .i64 0) (by rw [z1];rfl)) (grownBy_putObj' _ D (.deferred none)) (λr e=>by cases e;exact ⟨_,hK',rfl⟩);refine ⟨.int .i64 0,?_,rfl,(hBw.setCell (p:=⟨w.heap.size+1,0,none⟩) (by show w.heap.size<=w.heap.size+1;omega) _).trans (belowK_b (w:=w) (jaa _) _ D _ _ jO hK' rfl rfl)⟩;simp [results,results345,go_sem,hc5]
 case stop =>
  rintro D c' pre W hD ⟨j,hj,rfl⟩ ⟨⟨rfl,ini,last,e1,e2,e3,hcr⟩,hB⟩ hK;obtain ⟨j',rfl⟩:∃ j',j=j'+1:=by
   cases j with
   | zero=>simp [upto] at e1
   | succ j'=>exact ⟨j',rfl⟩
  rw [Vh] at e1;obtain ⟨rfl,e5⟩:=List.append_inj' e1 rfl;obtain rfl:Ex l k j'=last:=by simpa using e5
  have R:r=Dt (Ex l k j').2:=by rw [HRes.out,Aml (by have:=HN.out;omega) hj e2 e3];rfl
  subst R;clear y0 y1 y2 yf c0 c1 c2 c3 c4 e1 e5
  gi_wp2
  refine ⟨by simp,.inl ⟨_,_,rfl,run_takeDeferred hK,?_⟩⟩;have hc5:=Go.cell_kept hcr (grownBy_putObj' _ D (.deferred none)) (λr e=>by cases e;exact ⟨_,hK,rfl⟩);refine ⟨.int .i64 (Dt (Ex l k j').2),?_,rfl,hB.trans (belowK_b (w:=w) (jaa _) W D _ _ jO hK rfl rfl)⟩;simp [results,results345,go_sem,hc5]
end
section
open Go.RowKit
theorem Au3 (g:Nat) (t v:Value) (l:List Int) (k:Nat) (w:World) (hR:E6 g t v l w) (hn:l.length<=1000) (hk:k<l.length) :
  Calls prog 329 #[.pointer (some ⟨g,0,none⟩),.int .i64 k] w λe w'=>e=.returned (.bool (Ctx.Ir l k || Ctx.Uo l k))/\Below w.heap.size w w':=by
 have KJ:=jH (Adk g t v l k w hR hn hk);have KB:=jH (λW (h:Below w.heap.size w W)=>Y3 g t v l k W (hR.Ac h) hn hk);have KA:=jH (λW (h:Below w.heap.size w W)=>Abp g t v l k W (hR.Ac h) hn hk);rw [<- Atw];generalize Ctx.Ir l k=b at KJ ⊢;generalize Gt (Ctx.ahead l k)=x at KA ⊢;generalize Gt (Ctx.behind l (k+1))=y at KB ⊢;clear hR hn hk;cases b
 ·cases h1:(x == 1)
  ·go_enter func329,ntmps329;go_wp2_with fail;refine KJ.out.mono ?_;rintro e w2 ⟨rfl,hb2⟩;have B2:=jH hb2;clear hb2;go_wp2_with fail;refine (KB.out w2 B2.out).mono ?_;rintro e w3 ⟨rfl,hb3⟩;have B3:=jH (Aa B2.out hb3);clear hb3;go_wp2_with fail;refine (KA.out w3 B3.out).mono ?_;rintro e w4 ⟨rfl,hb4⟩;have B4:=jH (Aa B3.out hb4);clear hb4;go_wp2;go_ret;exact ⟨rfl,B4.out⟩
  ·cases h2:(y == 1)<;>cases h3:(y == 2)
   all_goals
    go_enter func329,ntmps329;go_wp2_with fail;refine KJ.out.mono ?_;rintro e w2 ⟨rfl,hb2⟩;have B2:=jH hb2;clear hb2;go_wp2_with fail;refine (KB.out w2 B2.out).mono ?_;rintro e w3 ⟨rfl,hb3⟩;have B3:=jH (Aa B2.out hb3);clear hb3;go_wp2_with fail;refine (KA.out w3 B3.out).mono ?_;rintro e w4 ⟨rfl,hb4⟩;have B4:=jH (Aa B3.out hb4);clear hb4;go_wp2;go_ret;exact ⟨rfl,B4.out⟩
 ·go_enter func329,ntmps329;go_wp2_with fail;refine KJ.out.mono ?_;rintro e w2 ⟨rfl,hb2⟩;have B2:=jH hb2;clear hb2;go_wp2;go_ret;exact ⟨rfl,B2.out⟩
def Ea (c g f:Nat) (b:Bool) (w:World):Prop :=
 ∃ a:Bool,w.heap[c]? = some (.cells #[.func (.func f) #[.pointer (some ⟨g,0,none⟩)] #[]] 28 (0,0))/\w.heap[c+1]? = some (.cells #[.bool a] 4 (0,0))/\w.heap[c+2]? = some (.cells #[.bool (a && b)] 4 (0,0))
theorem Ea.same {c g f:Nat} {b:Bool} {w w':World} (h:Ea c g f b w) (h0:w'.heap[c]? = w.heap[c]?) (h1:w'.heap[c+1]? = w.heap[c+1]?) (h2:w'.heap[c+2]? = w.heap[c+2]?):Ea c g f b w':=by
 obtain ⟨a,e0,e1,e2⟩:=h;exact ⟨a,h0.trans e0,h1.trans e1,h2.trans e2⟩
theorem Ea.lt {c g f:Nat} {b:Bool} {w:World} (h:Ea c g f b w):c+2<w.heap.size:=by
 obtain ⟨a,-,-,h⟩:=h;exact (Array.getElem?_eq_some_iff.1 h).1
theorem Ea.Ac {c g f:Nat} {b:Bool} {w w':World} (h:Ea c g f b w) (hb:Below w.heap.size w w'):Ea c g f b w':=by
 have:=h.lt;exact h.same (hb.block _ jO) (hb.block _ jO) (hb.block _ jO)
def Axk (c g f:Nat) (b:Bool) (w:World) (e:Ending) (w':World):Prop :=
 e=.returned (.bool b)/\Ea c g f b w'/\Below c w w'/\∀ j,c+2<j->j<w.heap.size->w'.heap[j]? = w.heap[j]?
theorem Qz (c g f:Nat) (b:Bool) (k:Int) (w:World) (hO:Ea c g f b w) (eg:∀ args w,(callFunc f args).run prog w=.ok (.enter f args) w)
  (hf:Calls prog f #[.pointer (some ⟨g,0,none⟩)] w λe w'=>e=.returned (.bool b)/\Below w.heap.size w w') :
  Calls prog 348 #[.int .i64 k,.pointer (some ⟨c+1,0,none⟩),.pointer (some ⟨c,0,none⟩),.pointer (some ⟨c+2,0,none⟩)] w (Axk c g f b w):=by
 have HO:=jH hO;have hlt:=hO.lt;obtain ⟨a,e0,e1,e2⟩:=hO;have c0:w.cell? ⟨c,0,none⟩=some (.func (.func f) #[.pointer (some ⟨g,0,none⟩)] #[]):=by simp [World.cell?,e0]
 have c1:w.cell? ⟨c+1,0,none⟩=some (.bool a):=by simp [World.cell?,e1]
 have c2:w.cell? ⟨c+2,0,none⟩=some (.bool (a && b)):=by simp [World.cell?,e2]
 have E0:=jH e0;have E1:=jH e1;have E2:=jH e2;have HF:=jH hf;clear e0 e1 e2 hf;cases a
 ·go_enter func348,ntmps348;go_wp2_with fail;refine HF.out.mono ?_;rintro e w2 ⟨rfl,hb⟩;have HB:=jH hb;have d1:=(hb.cell (p:=⟨c+1,0,none⟩) (show c+1<w.heap.size by omega)).trans c1;have d2:=(hb.cell (p:=⟨c+2,0,none⟩) hlt).trans c2;have f1:w2.frozen? ⟨c+1,0,none⟩=false:=by have:=(hb.block (c+1) jO).trans E1.out;simp [World.frozen?,this]
  have f2:w2.frozen? ⟨c+2,0,none⟩=false:=by have:=(hb.block (c+2) jO).trans E2.out;simp [World.frozen?,this]
  have HS:=jH hb.size;clear hb c0 c1 c2;go_wp2;go_ret;have hB:=HB.out;have g0:=(hB.block c jO).trans E0.out;have g1:=(hB.block (c+1) jO).trans E1.out;have g2:=(hB.block (c+2) jO).trans E2.out;refine ⟨rfl,⟨true,?_,?_,?_⟩,?_,λj hj hlt=>?_⟩
  ·simp [World.setCell,Array.getElem?_modify,g0]
  ·simp [World.setCell,Array.getElem?_modify,g1]
  ·simp [World.setCell,Array.getElem?_modify,g2]
  ·exact ((hB.mono (show c<=w.heap.size by omega)).setCell (p:=⟨c+1,0,none⟩) (show c<=c+1 by omega) _).setCell (p:=⟨c+2,0,none⟩) (show c<=c+2 by omega) _
  ·rw [<- hB.block j hlt];simp [World.setCell,Array.getElem?_modify,show c+1 ≠ j by omega,show c+2 ≠ j by omega]
 ·go_enter func348,ntmps348;go_wp2;go_ret;exact ⟨rfl,HO.out,jan _ _,λ_ _ _=>rfl⟩
def Axh (c g f:Nat) (w:World) (e:Ending) (w':World):Prop :=
 e=.returned (.func (.func 348) #[] #[.pointer (some ⟨c+1,0,none⟩),.pointer (some ⟨c,0,none⟩),.pointer (some ⟨c+2,0,none⟩)])/\w'.heap.size=c+3/\(∀ b,Ea c g f b w')/\Below w.heap.size w w'
theorem Zo (g f c:Nat) (w:World) (hc:c=w.heap.size) :
  Calls prog 334 #[.func (.func f) #[.pointer (some ⟨g,0,none⟩)] #[]] w (Axh c g f w):=by
 subst hc;go_enter func334,ntmps334;go_wp2;go_ret;refine ⟨rfl,by simp,λb=>⟨false,?_,?_,?_⟩,Dh _ _ _ _⟩
 ·exact (((jan _ _).alloc (jaa _) _).alloc jS _).block w.heap.size jS |>.trans (heap_alloc_new w _)
 ·have h:=heap_alloc_new (w.alloc (.cells #[.func (.func f) #[.pointer (some ⟨g,0,none⟩)] #[]] 28)) (.cells #[.bool false] 4);rw [World.size_alloc] at h;exact (((jan _ _).alloc (jaa _) _).block (w.heap.size+1) jS).trans h
 ·have h:=heap_alloc_new ((w.alloc (.cells #[.func (.func f) #[.pointer (some ⟨g,0,none⟩)] #[]] 28)).alloc (.cells #[.bool false] 4)) (.cells #[.bool false] 4);rw [World.size_alloc,World.size_alloc] at h;exact h
section
variable {P:Program}
theorem Aok (w:World) {T K E:TypeId} (hm:P.underlying T=some (.map K E)) (hk:P.underlying K=some (.int .i32)) {b n:Nat} {es:Array MapEntry} (hb:w.heap[b]? = some (.map es n)) (x:Int) (v:Value) (hf:Instr.findNow (.int .i32) (.int .i32 x) es.toList 0=some none) :
  (Instr.mapUpdate T (.map (some b)) (.int .i32 x) v).run P w=.ok () { w with heap:=w.heap.setIfInBounds b (.map (es.push { key:=.int .i32 x,val:=v,born:=n }) (n+1)) }:=by
 have hc:(Instr.checkKey false 10000 K (.int .i32 x)).run P w=.ok () w:=MapKept.run_checkKey hk (by simp [MapKept.IsKey]) false 9999;simp [Instr.mapUpdate,run_underlying hm,MapKept.run_getObj_map hb,hc,MapKept.run_findKey hk hf,MapKept.run_setObj_map _ hb,Result.andThen]
theorem Dj (w:World) {T K E:TypeId} (hm:P.underlying T=some (.map K E)) (hk:P.underlying K=some (.int .i32)) {b n:Nat} {es:Array MapEntry} (hb:w.heap[b]? = some (.map es n)) (x:Int) (v:Value) (hf:Instr.findNow (.int .i32) (.int .i32 x) es.toList 0=some none) :
  ∃ w',(Instr.mapUpdate T (.map (some b)) (.int .i32 x) v).run P w=.ok () w'/\w'.heap[b]? = some (.map (es.push { key:=.int .i32 x,val:=v,born:=n }) (n+1))/\w'.heap.size=w.heap.size/\(∀ j,j ≠ b->w'.heap[j]? = w.heap[j]?)/\Below b w w':=by
 have hs:=MapKept.heap_set (o':=.map (es.push { key:=.int .i32 x,val:=v,born:=n }) (n+1)) hb;exact ⟨_,Aok w hm hk hb x v hf,hs.1,by simp,hs.2,⟨rfl,rfl,rfl,by simp,λj hj=>hs.2 j jO⟩⟩
theorem Pf (w:World) {T K E:TypeId} (hm:P.underlying T=some (.map K E)) (hk:P.underlying K=some (.int .i32)) {b n i:Nat} {es:Array MapEntry} (hb:w.heap[b]? = some (.map es n)) (x:Int) (v:Value) (hf:Instr.findNow (.int .i32) (.int .i32 x) es.toList 0=some (some (i,v))) :
  (Instr.lookup T (.map (some b)) (.int .i32 x) true).run P w=.ok (.tuple #[v,.bool true]) w:=by
 have hc:(Instr.checkKey es.isEmpty 10000 K (.int .i32 x)).run P w=.ok () w:=MapKept.run_checkKey hk (by simp [MapKept.IsKey]) _ 9999;simp [Instr.lookup,run_underlying hm,MapKept.run_getObj_map hb,hc,MapKept.run_findKey hk hf,Result.andThen]
theorem Adp (w:World) {T K E:TypeId} (hm:P.underlying T=some (.map K E)) (hk:P.underlying K=some (.int .i32)) {z:Value} (hz:(zeroValue E).run P w=.ok z w) {b n:Nat} {es:Array MapEntry} (hb:w.heap[b]? = some (.map es n)) (x:Int) (hf:Instr.findNow (.int .i32) (.int .i32 x) es.toList 0=some none) :
  (Instr.lookup T (.map (some b)) (.int .i32 x) true).run P w=.ok (.tuple #[z,.bool false]) w:=by
 have hc:(Instr.checkKey es.isEmpty 10000 K (.int .i32 x)).run P w=.ok () w:=MapKept.run_checkKey hk (by simp [MapKept.IsKey]) _ 9999;simp [Instr.lookup,run_underlying hm,MapKept.run_getObj_map hb,hc,MapKept.run_findKey hk hf,hz,Result.andThen]
end
def A0k (c:Nat):Value:=.func (.func 348) #[] #[.pointer (some ⟨c+1,0,none⟩),.pointer (some ⟨c,0,none⟩),.pointer (some ⟨c+2,0,none⟩)]
def Aj8 (g f:Nat):Value:=.func (.func f) #[.pointer (some ⟨g,0,none⟩)] #[]
def Ta (g c1 c2 c3:Nat):List MapEntry:=[⟨.int .i32 8204,Aj8 g 329,0⟩,⟨.int .i32 8205,Aj8 g 330,1⟩,⟨.int .i32 183,Aj8 g 331,2⟩,⟨.int .i32 885,Aj8 g 332,3⟩,
 ⟨.int .i32 1523,Aj8 g 333,4⟩,⟨.int .i32 12539,A0k c1,5⟩,⟨.int .i32 1632,A0k c2,6⟩,⟨.int .i32 1776,A0k c3,7⟩]
def Aqq (B g c1 c2 c3:Nat) (w:World):Prop:=w.heap[B]? = some (.map (Ta g c1 c2 c3).toArray 8)
def Ab6 (g B:Nat) (w:World) (e:Ending) (w':World):Prop :=
 ∃ c1 c2 c3,e=.returned (.map (some B))/\Below w.heap.size w w'/\B<c1/\c1+2<c2/\c2+2<c3/\Aqq B g c1 c2 c3 w'/\(∀ b,Ea c1 g 335 b w')/\(∀ b,Ea c2 g 336 b w')/\∀ b,Ea c3 g 337 b w'
theorem Aee (g B:Nat) (w:World) (hB:B=w.heap.size) :
  Calls prog 314 #[.pointer (some ⟨g,0,none⟩)] w (Ab6 g B w):=by
 have hmm:=@run_makeMap prog;subst hB;have h0:(w.alloc (.map #[] 0)).heap[w.heap.size]? = some (.map #[] 0):=heap_alloc_new w _;have s0:(w.alloc (.map #[] 0)).heap.size=w.heap.size+1:=by simp
 have l0:Below w.heap.size w (w.alloc (.map #[] 0)):=Ab _ _;have H0:=jH h0;have S0:=jH s0;have L0:=jH l0;clear h0 s0 l0;obtain ⟨c1,hc1⟩:∃ c,c=w.heap.size+1:=⟨_,rfl⟩
 obtain ⟨c2,hc2⟩:∃ c,c=c1+3:=⟨_,rfl⟩
 obtain ⟨c3,hc3⟩:∃ c,c=c2+3:=⟨_,rfl⟩
 obtain ⟨c4,hc4⟩:∃ c,c=c3+3:=⟨_,rfl⟩
 have C1:=jH hc1;have C2:=jH hc2;have C3:=jH hc3;have C4:=jH hc4;have G1:=jH (show w.heap.size<c1 by omega);have G2:=jH (show w.heap.size<c2 by omega);have G3:=jH (show w.heap.size<c3 by omega);have S0:=jH (S0.out.trans hc1.symm);clear hc1 hc2 hc3 hc4;go_enter func314,ntmps314;obtain ⟨w1,r1,h1,s1,o1,l1⟩:=Dj _ underlying349 underlying21 H0.out 8204 (.func (.func 329) #[.pointer (some ⟨g,0,none⟩)] #[]) rfl;have H1:=jH h1;have S1:=jH (s1.trans S0.out);have L1:=jH (L0.out.trans l1);clear h1 s1 o1 l1;go_wp2_with fail;clear r1;obtain ⟨w2,r2,h2,s2,o2,l2⟩:=Dj _ underlying349 underlying21 H1.out 8205 (.func (.func 330) #[.pointer (some ⟨g,0,none⟩)] #[]) rfl;have H2:=jH h2;have S2:=jH (s2.trans S1.out);have L2:=jH (L1.out.trans l2);clear h2 s2 o2 l2;rw [r2];clear r2;go_wp2_with fail;obtain ⟨w3,r3,h3,s3,o3,l3⟩:=Dj _ underlying349 underlying21 H2.out 183 (.func (.func 331) #[.pointer (some ⟨g,0,none⟩)] #[]) rfl;have H3:=jH h3;have S3:=jH (s3.trans S2.out);have L3:=jH (L2.out.trans l3);clear h3 s3 o3 l3;rw [r3];clear r3;go_wp2_with fail;obtain ⟨w4,r4,h4,s4,o4,l4⟩:=Dj _ underlying349 underlying21 H3.out 885 (.func (.func 332) #[.pointer (some ⟨g,0,none⟩)] #[]) rfl;have H4:=jH h4;have S4:=jH (s4.trans S3.out);have L4:=jH (L3.out.trans l4);clear h4 s4 o4 l4;rw [r4];clear r4;go_wp2_with fail;obtain ⟨w5,r5,h5,s5,o5,l5⟩:=Dj _ underlying349 underlying21 H4.out 1523 (.func (.func 333) #[.pointer (some ⟨g,0,none⟩)] #[]) rfl;have H5:=jH h5;have S5:=jH (s5.trans S4.out)
 have L5:=jH (L4.out.trans l5);clear h5 s5 o5 l5;rw [r5];clear r5;go_wp2_with fail;have HO1:=jH (λW h=>Zo g 335 c1 W h);refine (HO1.out _ S5.out.symm).mono ?_;clear HO1;rintro e w6 ⟨rfl,s6,q6,b6⟩;have H6:=jH ((b6.block w.heap.size (by have:=G1.out;have:=S5.out;omega)).trans H5.out);have L6:=jH (L5.out.trans (b6.mono L5.out.size));have Q6_1:=jH q6;have S6:=jH (s6.trans C2.out.symm);clear s6 q6 b6;obtain ⟨w7,r7,h7,s7,o7,l7⟩:=Dj _ underlying349 underlying21 H6.out 12539 (.func (.func 348) #[] #[.pointer (some ⟨c1+1,0,none⟩),.pointer (some ⟨c1,0,none⟩),.pointer (some ⟨c1+2,0,none⟩)]) rfl;have H7:=jH h7;have S7:=jH (s7.trans S6.out);have L7:=jH (L6.out.trans l7);have Q7_1:=jH (λb=>(Q6_1.out b).same (o7 _ (by have:=G1.out;omega)) (o7 _ (by have:=G1.out;omega)) (o7 _ (by have:=G1.out;omega)));clear h7 s7 o7 l7;go_wp2_with fail;clear r7;have HO2:=jH (λW h=>Zo g 336 c2 W h);refine (HO2.out _ S7.out.symm).mono ?_;clear HO2;rintro e w8 ⟨rfl,s8,q8,b8⟩;have H8:=jH ((b8.block w.heap.size (by have:=G2.out;have:=S7.out;omega)).trans H7.out);have L8:=jH (L7.out.trans (b8.mono L7.out.size));have Q8_1:=jH (λb=>(Q7_1.out b).Ac b8);have Q8_2:=jH q8;have S8:=jH (s8.trans C3.out.symm);clear s8 q8 b8;obtain ⟨w9,r9,h9,s9,o9,l9⟩:=Dj _ underlying349 underlying21 H8.out 1632 (.func (.func 348) #[] #[.pointer (some ⟨c2+1,0,none⟩),.pointer (some ⟨c2,0,none⟩),.pointer (some ⟨c2+2,0,none⟩)]) rfl;have H9:=jH h9;have S9:=jH (s9.trans S8.out);have L9:=jH (L8.out.trans l9);have Q9_1:=jH (λb=>(Q8_1.out b).same (o9 _ (by have:=G1.out;omega)) (o9 _ (by have:=G1.out;omega)) (o9 _ (by have:=G1.out;omega)))
 have Q9_2:=jH (λb=>(Q8_2.out b).same (o9 _ (by have:=G2.out;omega)) (o9 _ (by have:=G2.out;omega)) (o9 _ (by have:=G2.out;omega)));clear h9 s9 o9 l9;go_wp2_with fail;clear r9;have HO3:=jH (λW h=>Zo g 337 c3 W h);refine (HO3.out _ S9.out.symm).mono ?_;clear HO3;rintro e w10 ⟨rfl,s10,q10,b10⟩;have H10:=jH ((b10.block w.heap.size (by have:=G3.out;have:=S9.out;omega)).trans H9.out);have L10:=jH (L9.out.trans (b10.mono L9.out.size));have Q10_1:=jH (λb=>(Q9_1.out b).Ac b10);have Q10_2:=jH (λb=>(Q9_2.out b).Ac b10);have Q10_3:=jH q10;have S10:=jH (s10.trans C4.out.symm);clear s10 q10 b10;obtain ⟨w11,r11,h11,s11,o11,l11⟩:=Dj _ underlying349 underlying21 H10.out 1776 (.func (.func 348) #[] #[.pointer (some ⟨c3+1,0,none⟩),.pointer (some ⟨c3,0,none⟩),.pointer (some ⟨c3+2,0,none⟩)]) rfl;have H11:=jH h11;have S11:=jH (s11.trans S10.out);have L11:=jH (L10.out.trans l11);have Q11_1:=jH (λb=>(Q10_1.out b).same (o11 _ (by have:=G1.out;omega)) (o11 _ (by have:=G1.out;omega)) (o11 _ (by have:=G1.out;omega)));have Q11_2:=jH (λb=>(Q10_2.out b).same (o11 _ (by have:=G2.out;omega)) (o11 _ (by have:=G2.out;omega)) (o11 _ (by have:=G2.out;omega)));have Q11_3:=jH (λb=>(Q10_3.out b).same (o11 _ (by have:=G3.out;omega)) (o11 _ (by have:=G3.out;omega)) (o11 _ (by have:=G3.out;omega)));clear h11 s11 o11 l11;go_wp2_with fail;clear r11;go_wp2;go_ret;exact ⟨c1,c2,c3,rfl,L11.out,G1.out,by have:=C2.out;omega,by have:=C3.out;omega,H11.out,Q11_1.out,Q11_2.out,Q11_3.out⟩
end
