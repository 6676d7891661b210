import Derived.Test.YthnhgmdlbfbhjaaGreatCtxAll
import Derived.Deep.DeepCutAuto
set_option maxRecDepth 100000
set_option maxHeartbeats 8000000
namespace Go.Proofs.YthnhgmdlbfbhjaaGreat
open Tryz
section
open Go.RowKit
namespace Ctx
theorem M8 (l:List Int) (k:Nat) (h:k<l.length):l.drop k=l[k]!::l.drop (k+1):=by
 rw [getElem!_pos l k h];exact List.drop_eq_getElem_cons h
theorem Am1 (l:List Int) (k:Nat) (h:k<l.length):(l.take (k+1)).reverse=l[k]!::(l.take k).reverse:=by
 rw [getElem!_pos l k h,List.take_succ_eq_append_getElem h,List.reverse_append];rfl
theorem Aqd {l:List Int} {k:Nat} {x:Int} (hx:l[k]! = x):met l k =
 if x=8205 then En l k else if x=8204 then En l k || Ee l k
 else if x=183 then at0 l ((k:Int) - 1) == 108 && at0 l ((k:Int)+1) == 108
 else if x=885 then Aq (at0 l ((k:Int)+1)) == 2
 else if x=1523\/x=1524 then Aq (at0 l ((k:Int) - 1)) == 4
 else if x=12539 then Ek l
 else if x<1700 then !Bo l 1776 1785 else !Bo l 1632 1641:=by unfold met;rw [hx]
theorem Adl (x:Int) (t:List Int) (lo hi:Int):Bo (x::t) lo hi=((decide (lo<=x) && decide (x<=hi)) || Bo t lo hi):=rfl
theorem Ads (x:Int) (t:List Int):Ek (x::t)=((Aq x == 7 || Aq x == 8) || Ek t):=rfl
end Ctx
theorem Lp (v:Value) (l:List Int) (i:Int) (w:World) (hl:Runes v l w) (hi:-1000000<=i/\i<=9223372036854775807) :
  Calls prog 157 #[v,.int .i64 i] w λe w'=>e=.returned (.int .i32 (Ctx.at0 l i))/\w=w':=by
 obtain ⟨A,c,rfl,-,hcell⟩:=hl.form;obtain ⟨hi0,hi1⟩:=hi;by_cases h0:i<0
 ·rw [Ctx.Gz (.inl h0)];clear hcell hl;go_enter func157,ntmps157;go_wp2;go_ret;exact ⟨rfl,rfl⟩
 ·by_cases h1:(l.length:Int)<=i
  ·rw [Ctx.Gz (.inr h1)];have h00:(0:Int)<=i:=jO
   clear hcell hl h0;go_enter func157,ntmps157;go_wp2;go_ret;exact ⟨rfl,rfl⟩
  ·obtain ⟨k,rfl⟩:∃ k:Nat,i=k:=⟨i.toNat,by omega⟩
   have hk:k<l.length:=jO
   have hkz:(k:Int)<(l.length:Int):=jO
   rw [Ctx.Kf hk];obtain ⟨ad,rfl,hb,hx⟩:=hcell k hk;generalize l[k]! = x at hx ⊢;clear hcell hl h0 h1;go_enter func157,ntmps157;go_wp2;go_ret;exact ⟨rfl,rfl⟩
theorem Uc (v:Value) (l:List Int) (lo hi:Int) (w:World) (hl:Runes v l w) (hn:l.length<=10000) :
  Calls prog 161 #[v,.int .i32 lo,.int .i32 hi] w λe w'=>e=.returned (.bool (Ctx.Bo l lo hi))/\Below w.heap.size w w':=by
 obtain ⟨A,c,rfl,-,hcell⟩:=hl.form;have HC:=jH hcell;clear hl hcell;go_enter func161,ntmps161;go_wp2;go_loopg [7] (l.length+1) (λgk i wr=>∃ k:Nat,k<=l.length/\i=.int .i64 k/\l.length - k<gk/\Hid (Ctx.Bo l lo hi=Ctx.Bo (l.drop k) lo hi/\Below w.heap.size w wr))
 case atStart=>exact ⟨0,Nat.zero_le _,rfl,by omega,⟨rfl,jan _ _⟩⟩
 case round =>
  obtain ⟨k,hk,rfl,hg,I⟩:=hrel;by_cases hlt:k<l.length
  ·obtain ⟨ad,rfl,hb,hx⟩:=HC.out k hlt;have hx':=(I.out.2.cell (by rw [Ah];exact hb)).trans hx;obtain ⟨x,hxe⟩:∃ x,x=l[k]!:=⟨_,rfl⟩
   rw [<- hxe] at hx';have hh:Ctx.Bo l lo hi=((decide (lo<=x) && decide (x<=hi)) || Ctx.Bo (l.drop (k+1)) lo hi):=by rw [I.out.1,Ctx.M8 l k hlt,<- hxe,Ctx.Adl]
   have hkz:(k:Int)<(l.length:Int):=jO
   clear hx hb hxe;rcases (show x<lo\/(lo<=x/\x<=hi)\/(lo<=x/\hi<x) by omega) with h1 | ⟨h1,h2⟩ | ⟨h1,h2⟩
   ·have I2:Hid (Ctx.Bo l lo hi=Ctx.Bo (l.drop (k+1)) lo hi/\Below w.heap.size w wr):=⟨by rw [hh,decide_eq_false jO];rfl,I.out.2⟩
    have d1:decide (lo<=x)=false:=decide_eq_false jO;clear hh I h1;go_wp2;go_roundg (l.length - k)
    case measure=>omega
    case rel=>exact ⟨k+1,by omega,by go_num,by omega,I2⟩
   ·have R:=jH (show Ctx.Bo l lo hi=true by rw [hh,decide_eq_true h1,decide_eq_true h2];rfl);clear hh;go_wp2;go_ret;exact ⟨by rw [R.out];rfl,I.out.2⟩
   ·have I2:Hid (Ctx.Bo l lo hi=Ctx.Bo (l.drop (k+1)) lo hi/\Below w.heap.size w wr):=⟨by rw [hh,decide_eq_false (p:=x<=hi) jO,Bool.and_false];rfl,I.out.2⟩
    have d1:decide (x<=hi)=false:=decide_eq_false jO;clear hh I h2;go_wp2;go_roundg (l.length - k)
    case measure=>omega
    case rel=>exact ⟨k+1,by omega,by go_num,by omega,I2⟩
  ·obtain rfl:k=l.length:=jO
   go_wp2;go_ret;have h:=I.out.1;rw [List.drop_of_length_le (jaa _)] at h;exact ⟨by rw [h];rfl,I.out.2⟩
theorem Adr (v:Value) (l:List Int) (w:World) (hl:Runes v l w) (hn:l.length<=10000) :
  Calls prog 160 #[v] w λe w'=>e=.returned (.bool (Ctx.Ek l))/\Below w.heap.size w w':=by
 obtain ⟨A,c,rfl,-,hcell⟩:=hl.form;have HC:=jH hcell;clear hl hcell;go_enter func160,ntmps160;go_wp2;go_loopg [3,4] (l.length+1) (λgk i _ wr=>∃ k:Nat,k<=l.length/\i=.int .i64 k/\l.length - k<gk/\Hid (Ctx.Ek l=Ctx.Ek (l.drop k)/\Below w.heap.size w wr))
 case atStart=>exact ⟨0,Nat.zero_le _,rfl,by omega,⟨rfl,jan _ _⟩⟩
 case round =>
  obtain ⟨k,hk,rfl,hg,I⟩:=hrel;by_cases hlt:k<l.length
  ·obtain ⟨ad,rfl,hb,hx⟩:=HC.out k hlt;have hx':=(I.out.2.cell (by rw [Ah];exact hb)).trans hx;obtain ⟨x,hxe⟩:∃ x,x=l[k]!:=⟨_,rfl⟩
   rw [<- hxe] at hx';have hh:Ctx.Ek l=((Aq x == 7 || Aq x == 8) || Ctx.Ek (l.drop (k+1))):=by rw [I.out.1,Ctx.M8 l k hlt,<- hxe,Ctx.Ads]
   have hkz:(k:Int)<(l.length:Int):=jO
   have K:=jH (Jm x wr);obtain ⟨b,hbe⟩:∃ b,b=Aq x:=⟨_,rfl⟩
   rw [<- hbe] at K hh;clear hx hb hxe hbe;rcases (show (b == 7)=true\/((b == 7)=false/\(b == 8)=true)\/((b == 7)=false/\(b == 8)=false) by cases (b == 7)<;>cases (b == 8)<;>simp) with h1 | ⟨h1,h2⟩ | ⟨h1,h2⟩
   ·have R:=jH (show Ctx.Ek l=true by rw [hh,h1];rfl);clear hh;go_wp2_with fail;refine K.out.mono ?_;rintro e w2 ⟨rfl,hb2⟩;have B2:=jH (I.out.2.trans (hb2.mono I.out.2.size));clear hb2 K;go_wp2;go_ret;exact ⟨by rw [R.out];rfl,B2.out⟩
   ·have R:=jH (show Ctx.Ek l=true by rw [hh,h2,Bool.or_true];rfl);clear hh;go_wp2_with fail;refine K.out.mono ?_;rintro e w2 ⟨rfl,hb2⟩;have B2:=jH (I.out.2.trans (hb2.mono I.out.2.size));clear hb2 K;go_wp2;go_ret;exact ⟨by rw [R.out];rfl,B2.out⟩
   ·have R:=jH (show Ctx.Ek l=Ctx.Ek (l.drop (k+1)) by rw [hh,h1,h2];rfl);clear hh;go_wp2_with fail;refine K.out.mono ?_;rintro e w2 ⟨rfl,hb2⟩;have I2:Hid (Ctx.Ek l=Ctx.Ek (l.drop (k+1))/\Below w.heap.size w w2):=⟨R.out,I.out.2.trans (hb2.mono I.out.2.size)⟩
    clear hb2 K;go_wp2;go_roundg (l.length - k)
    case measure=>omega
    case rel=>exact ⟨k+1,by omega,by go_num,by omega,I2⟩
  ·obtain rfl:k=l.length:=jO
   go_wp2;go_ret;have h:=I.out.1;rw [List.drop_of_length_le (jaa _)] at h;exact ⟨by rw [h];rfl,I.out.2⟩
theorem Ae1 (r:Int) (w:World):Calls prog 111 #[.int .i32 r] w λe w'=>e=.returned (.bool (Ctx.Cj r))/\w=w':=by
 obtain ⟨b,hb⟩:∃ b,b=Ctx.Cj r:=⟨_,rfl⟩
 rw [<- hb];unfold Ctx.Cj at hb;have HB:=jH hb;clear hb;go_enter func111,ntmps111;go_wp2
 all_goals
  go_ret;refine ⟨?_,rfl⟩;have h:=HB.out
  try simp only [*] at h
  first
   | (subst h;rfl)
   | (rw [h];simp;done)
   | (rw [h];simp;omega)
   | (rw [h,decide_eq_false (p:=1632<=r) jO,decide_eq_false (p:=1776<=r) jO];simp)
theorem Abv (v:Value) (l:List Int) (p:Nat) (w:World) (hl:Runes v l w) (hn:l.length<=10000) (hp:p<l.length) :
  Calls prog 158 #[v,.int .i64 (p:Int)] w λe w'=>e=.returned (.bool (Ctx.Ee l p))/\Below w.heap.size w w':=by
 obtain ⟨A,c,rfl,-,hcell⟩:=hl.form;have HC:=jH hcell;clear hl hcell;go_enter func158,ntmps158;go_wp2;go_loopg [5] (p+1) (λgk i wr=>∃ k:Nat,k<=p/\i=.int .i64 ((k:Int) - 1)/\k<gk/\Hid (Ctx.ahead l p=(l.take k).reverse.find? Ctx.Hj/\Below w.heap.size w wr))
 case atStart=>exact ⟨p,jaa _,rfl,by omega,⟨rfl,jan _ _⟩⟩
 case round =>
  obtain ⟨k,hk,rfl,hg,I⟩:=hrel;by_cases h0:k=0
  ·subst h0;simp only [Int.natCast_zero,Int.zero_sub];have hA:Ctx.ahead l p=none:=I.out.1;have HA:=jH hA;have B2:=jH I.out.2;clear hA I;go_wp2;go_loopg [6] (l.length+1) (λgk s6 wr=>∃ m:Nat,m<=l.length/\s6=.int .i64 m/\l.length - m<gk/\Hid (Ctx.behind l (p+1)=(l.drop m).find? Ctx.Hj/\Below w.heap.size w wr))
   case atStart=>exact ⟨p+1,by omega,by go_num,by omega,⟨rfl,B2.out⟩⟩
   case round =>
    obtain ⟨m,hm,rfl,hgm,I⟩:=hrel;by_cases hml:m<l.length
    ·obtain ⟨ad,rfl,hb3,hx3⟩:=HC.out m hml;have hx4:=(I.out.2.cell (by rw [Ah];exact hb3)).trans hx3;obtain ⟨y,hye⟩:∃ y,y=l[m]!:=⟨_,rfl⟩
     rw [<- hye] at hx4;have hh:=I.out.1;rw [Ctx.M8 l m hml,<- hye] at hh;have hmz:(m:Int)<(l.length:Int):=jO
     have K3:=jH (Hl y wr);obtain ⟨d,hde⟩:∃ d,d=Ck y:=⟨_,rfl⟩
     rw [<- hde] at K3;cases hc3:(d == 3) with
     | true =>
      have R:Ctx.behind l (p+1)=(l.drop (m+1)).find? Ctx.Hj:=by rw [hh,List.find?_cons_of_neg];unfold Ctx.Hj;rw [<- hde];simpa using hc3
      have HR3:=jH R;clear hh hx3 hb3 hye hde R;go_wp2_with fail;refine K3.out.mono ?_;rintro e w3 ⟨rfl,hb3⟩;have I2:Hid (Ctx.behind l (p+1)=(l.drop (m+1)).find? Ctx.Hj/\Below w.heap.size w w3):=⟨HR3.out,I.out.2.trans (hb3.mono I.out.2.size)⟩
      clear hb3 K3 I;go_wp2;go_roundg (l.length - m)
      case measure=>omega
      case rel=>exact ⟨m+1,by omega,by go_num,by omega,I2⟩
     | false =>
      have R:Ctx.behind l (p+1)=some y:=by rw [hh,List.find?_cons_of_pos];unfold Ctx.Hj;rw [<- hde,bne,hc3];rfl
      have HR3:=jH R;have HDE:=jH hde;have HX3:=jH hx3;have HB3Z:=jH hb3;clear hh hx3 hb3 hye hde R;go_wp2_with fail;refine K3.out.mono ?_;rintro e w3 ⟨rfl,hb3⟩;have B3:=jH (I.out.2.trans (hb3.mono I.out.2.size));have hy3:=(hb3.cell (p:=ad.add m) (by rw [Ah];exact jas HB3Z.out I.out.2.size)).trans hx4;clear hb3 K3 I;go_wp2;go_ret;exact ⟨by unfold Ctx.Ee;rw [HA.out];rfl,B3.out⟩
    ·obtain rfl:m=l.length:=jO
     have hB:Ctx.behind l (p+1)=none:=by rw [I.out.1,List.drop_of_length_le (jaa _)];rfl
     have HBN:=jH hB;clear hB;go_wp2;go_ret;exact ⟨by unfold Ctx.Ee;rw [HBN.out];unfold Ctx.both;cases Ctx.ahead l p<;>rfl,I.out.2⟩
  ·obtain ⟨j,rfl⟩:∃ j,k=j+1:=⟨k - 1,by omega⟩
   rw [show (((j+1:Nat):Int) - 1)=(j:Int) by omega];have hjl:j<l.length:=jO
   obtain ⟨ad,rfl,hb,hx⟩:=HC.out j hjl;have hx':=(I.out.2.cell (by rw [Ah];exact hb)).trans hx;obtain ⟨x,hxe⟩:∃ x,x=l[j]!:=⟨_,rfl⟩
   rw [<- hxe] at hx';have hh:=I.out.1;rw [Ctx.Am1 l j hjl,<- hxe] at hh;have hkz:(j:Int)<(l.length:Int):=jO
   have K:=jH (Hl x wr);obtain ⟨b,hbe⟩:∃ b,b=Ck x:=⟨_,rfl⟩
   rw [<- hbe] at K;cases hc:(b == 3) with
   | true =>
    have R:Ctx.ahead l p=(l.take j).reverse.find? Ctx.Hj:=by rw [hh,List.find?_cons_of_neg];unfold Ctx.Hj;rw [<- hbe];simpa using hc
    have HR:=jH R;clear hh hx hb hxe hbe R;go_wp2_with fail;refine K.out.mono ?_;rintro e w2 ⟨rfl,hb2⟩;have I2:Hid (Ctx.ahead l p=(l.take j).reverse.find? Ctx.Hj/\Below w.heap.size w w2):=⟨HR.out,I.out.2.trans (hb2.mono I.out.2.size)⟩
    clear hb2 K I;go_wp2;go_roundg (j+1)
    case measure=>omega
    case rel=>exact ⟨j,by omega,by go_num,by omega,I2⟩
   | false =>
    have R:Ctx.ahead l p=some x:=by rw [hh,List.find?_cons_of_pos];unfold Ctx.Hj;rw [<- hbe,bne,hc];rfl
    have HR:=jH R;have HXJ:=jH (show w.cell? (ad.add j)=some (.int .i32 x) by rw [hxe];exact hx);have HBE:=jH hbe;have hbz:=hb;clear hh hx hb hxe hbe R;go_wp2_with fail;refine K.out.mono ?_;rintro e w2 ⟨rfl,hb2⟩;have B2:=jH (I.out.2.trans (hb2.mono I.out.2.size));clear hb2 K I;go_wp2;go_loopg [6] (l.length+1) (λgk s6 wr=>∃ m:Nat,m<=l.length/\s6=.int .i64 m/\l.length - m<gk/\Hid (Ctx.behind l (p+1)=(l.drop m).find? Ctx.Hj/\Below w.heap.size w wr))
    case atStart=>exact ⟨p+1,by omega,by go_num,by omega,⟨rfl,B2.out⟩⟩
    case round =>
     obtain ⟨m,hm,rfl,hgm,I⟩:=hrel;by_cases hml:m<l.length
     ·obtain ⟨ad2,he2,hb3,hx3⟩:=HC.out m hml;obtain rfl:ad=ad2:=by injection he2
      clear he2;have hx4:=(I.out.2.cell (by rw [Ah];exact hb3)).trans hx3;obtain ⟨y,hye⟩:∃ y,y=l[m]!:=⟨_,rfl⟩
      rw [<- hye] at hx4;have hh:=I.out.1;rw [Ctx.M8 l m hml,<- hye] at hh;have hmz:(m:Int)<(l.length:Int):=jO
      have K3:=jH (Hl y wr);obtain ⟨d,hde⟩:∃ d,d=Ck y:=⟨_,rfl⟩
      rw [<- hde] at K3;cases hc3:(d == 3) with
      | true =>
       have R:Ctx.behind l (p+1)=(l.drop (m+1)).find? Ctx.Hj:=by rw [hh,List.find?_cons_of_neg];unfold Ctx.Hj;rw [<- hde];simpa using hc3
       have HR3:=jH R;clear hh hx3 hb3 hye hde R;go_wp2_with fail;refine K3.out.mono ?_;rintro e w3 ⟨rfl,hb3⟩;have I2:Hid (Ctx.behind l (p+1)=(l.drop (m+1)).find? Ctx.Hj/\Below w.heap.size w w3):=⟨HR3.out,I.out.2.trans (hb3.mono I.out.2.size)⟩
       clear hb3 K3 I;go_wp2;go_roundg (l.length - m)
       case measure=>omega
       case rel=>exact ⟨m+1,by omega,by go_num,by omega,I2⟩
      | false =>
       have R:Ctx.behind l (p+1)=some y:=by rw [hh,List.find?_cons_of_pos];unfold Ctx.Hj;rw [<- hde,bne,hc3];rfl
       have HR3:=jH R;have HDE:=jH hde;have HYE:=jH (show l[m]! = y from hye.symm);have HX3:=jH hx3;have HB3Z:=jH hb3;clear hh hx3 hb3 hye hde R;go_wp2_with fail;refine K3.out.mono ?_;rintro e w3 ⟨rfl,hb3⟩;have B3:=jH (I.out.2.trans (hb3.mono I.out.2.size));have hy3:=(hb3.cell (p:=ad.add m) (by rw [Ah];exact jas HB3Z.out I.out.2.size)).trans hx4;clear hb3 K3 I;have hx5:=(B3.out.cell (by rw [Ah];exact hbz)).trans HXJ.out;have KX:=jH (Hl x w3);rw [<- HBE.out] at KX;cases h1:(b == 1) with
       | false =>
        have hne:(b != 1)=true:=by rw [bne,h1];rfl
        have RJ:=jH (show Ctx.Ee l p=false by unfold Ctx.Ee;rw [HR.out,HR3.out];unfold Ctx.both;simp only;rw [<- HBE.out,h1];rfl);go_wp2_with fail;refine KX.out.mono ?_;rintro e w4 ⟨rfl,hb4⟩;have B4:=jH (B3.out.trans (hb4.mono B3.out.size));clear hb4 KX;go_wp2;go_ret;exact ⟨by rw [RJ.out];rfl,B4.out⟩
       | true =>
        have hne:(b != 1)=false:=by rw [bne,h1];rfl
        have RJ:=jH (show Ctx.Ee l p=(d == 1 || d == 2) by unfold Ctx.Ee;rw [HR.out,HR3.out];unfold Ctx.both;simp only;rw [<- HBE.out,<- HDE.out,h1,Bool.true_and]);go_wp2_with fail;refine KX.out.mono ?_;rintro e w4 ⟨rfl,hb4⟩;have B4:=jH (B3.out.trans (hb4.mono B3.out.size));have hy4:=(B4.out.cell (by rw [Ah];exact HB3Z.out)).trans HX3.out;rw [HYE.out] at hy4;have KY:=jH (Hl y w4);rw [<- HDE.out] at KY;clear hb4 KX;go_wp2_with fail;refine KY.out.mono ?_;rintro e w5 ⟨rfl,hb5⟩;have B5:=jH (B4.out.trans (hb5.mono B4.out.size));clear hb5 KY;cases h2:(d == 1)<;>cases h3:(d == 2)
        all_goals
         go_wp2;go_ret;exact ⟨by rw [RJ.out,h2,h3];rfl,B5.out⟩
     ·obtain rfl:m=l.length:=jO
      have hB:Ctx.behind l (p+1)=none:=by rw [I.out.1,List.drop_of_length_le (jaa _)];rfl
      have HBN:=jH hB;clear hB;go_wp2;go_ret;exact ⟨by unfold Ctx.Ee;rw [HBN.out];unfold Ctx.both;cases Ctx.ahead l p<;>rfl,I.out.2⟩
end
section
open Go.RowKit
theorem Al0 (v:Value) (l:List Int) (p:Nat) (w:World) (hl:Runes v l w) (hn:l.length<=10000) (hp:p<l.length) :
  Calls prog 112 #[v,.int .i64 (p:Int)] w λe w'=>e=.returned (.bool (Ctx.met l p))/\Below w.heap.size w w':=by
 have HL:=jH hl;obtain ⟨A,c,rfl,-,hcell⟩:=hl.form;obtain ⟨ad,hAd,hb0,hx⟩:=hcell p hp;obtain ⟨x,hxe⟩:∃ x,l[p]! = x:=⟨_,rfl⟩
 rw [hxe] at hx;have HM:=jH (Ctx.Aqd hxe);have hpz:(p:Int)<(l.length:Int):=jO
 subst hAd;clear hl hcell hxe;obtain ⟨vr,hvr⟩:∃ vr,vr=Ctx.En l p:=⟨_,rfl⟩
 have HVR:=jH hvr;rw [<- hvr] at HM;clear hvr;go_enter func112,ntmps112;go_upto_region 2 with (fail)
 go_cut [6] (λs6 wx=>s6=.bool vr/\Hid (Below w.heap.size w wx))
 case first =>
  by_cases h0:p=0
  ·have hv:vr=false:=by rw [HVR.out,h0];rfl
   subst hv;have d0:¬ (0:Int)<(p:Int):=jO
   clear h0;go_wp2;go_meet;exact ⟨rfl,jan _ _⟩
  ·have d0:(0:Int)<(p:Int):=jO
   have K1:=jH (Lp _ l ((p:Int) - 1) w HL.out jO);have hv:vr=(Ab (Ctx.at0 l ((p:Int) - 1)) == 9):=by rw [HVR.out];unfold Ctx.En;rw [decide_eq_true jO,Bool.true_and]
   generalize Ctx.at0 l ((p:Int) - 1)=y at hv K1;have HV:=jH hv;clear h0 hv;go_wp2_with fail;refine K1.out.mono ?_;rintro e w1 ⟨rfl,rfl⟩;go_wp2_with fail;refine (Gg y _).mono ?_;rintro e w2 ⟨rfl,hb2⟩;have B2:=jH hb2;clear hb2;go_wp2;go_meet;exact ⟨by rw [HV.out],B2.out⟩
 case rest =>
  obtain ⟨rfl,B1⟩:=hcut;have K1:=jH (Lp _ l ((p:Int) - 1) wc (HL.out.Af B1.out) jO);have K2:=jH (Lp _ l ((p:Int)+1) wc (HL.out.Af B1.out) jO);have HM2:=HM.out;generalize Ctx.at0 l ((p:Int) - 1)=y at K1 HM2;generalize Ctx.at0 l ((p:Int)+1)=z at K2 HM2;clear HM HVR;by_cases x1:x=8205
  ·rw [if_pos x1] at HM2;have R:=jH HM2;subst x1;clear HM2 K1 K2;go_wp2;go_ret;exact ⟨by rw [R.out];rfl,B1.out⟩
  rw [if_neg x1] at HM2;by_cases x2:x=8204
  ·rw [if_pos x2] at HM2;have KJ:=jH (Abv _ l p wc (HL.out.Af B1.out) hn hp);generalize Ctx.Ee l p=jj at KJ HM2;have R:=jH HM2;subst x2;clear HM2 K1 K2 x1;cases vr with
   | true =>
    go_wp2;go_ret;exact ⟨by rw [R.out];rfl,B1.out⟩
   | false =>
    go_wp2_with fail;refine KJ.out.mono ?_;rintro e w3 ⟨rfl,hb3⟩;have B3:=jH (Aa B1.out hb3);clear hb3;go_wp2;go_ret;exact ⟨by rw [R.out];rfl,B3.out⟩
  rw [if_neg x2] at HM2;by_cases x3:x=183
  ·rw [if_pos x3] at HM2;have R:=jH HM2;subst x3;clear HM2 x1 x2;go_wp2_with fail;refine K1.out.mono ?_;rintro e w3 ⟨rfl,rfl⟩;cases h1:(y == 108) with
   | false =>
    go_wp2;go_ret;exact ⟨by rw [R.out,h1];rfl,B1.out⟩
   | true =>
    go_wp2_with fail;refine K2.out.mono ?_;rintro e w4 ⟨rfl,rfl⟩;go_wp2;go_ret;exact ⟨by rw [R.out,h1,Bool.true_and];rfl,B1.out⟩
  rw [if_neg x3] at HM2;by_cases x4:x=885
  ·rw [if_pos x4] at HM2;have R:=jH HM2;subst x4;clear HM2 x1 x2 x3;go_wp2_with fail;refine K2.out.mono ?_;rintro e w3 ⟨rfl,rfl⟩;go_wp2_with fail;refine (Jm z _).mono ?_;rintro e w4 ⟨rfl,hb4⟩;have B4:=jH (Aa B1.out hb4);clear hb4;go_wp2;go_ret;exact ⟨by rw [R.out];rfl,B4.out⟩
  rw [if_neg x4] at HM2;by_cases x5:x=1523\/x=1524
  ·rw [if_pos x5] at HM2;have R:=jH HM2;clear HM2 x1 x2 x3 x4;rcases x5 with rfl | rfl
   all_goals
    go_wp2_with fail;refine K1.out.mono ?_;rintro e w3 ⟨rfl,rfl⟩;go_wp2_with fail;refine (Jm y _).mono ?_;rintro e w4 ⟨rfl,hb4⟩;have B4:=jH (Aa B1.out hb4);clear hb4;go_wp2;go_ret;exact ⟨by rw [R.out];rfl,B4.out⟩
  rw [if_neg x5] at HM2;by_cases x6:x=12539
  ·rw [if_pos x6] at HM2;have KA:=jH (Adr _ l wc (HL.out.Af B1.out) hn);generalize Ctx.Ek l=aa at KA HM2;have R:=jH HM2;subst x6;clear HM2 x1 x2 x3 x4 x5;go_wp2_with fail;refine KA.out.mono ?_;rintro e w4 ⟨rfl,hb4⟩;have B4:=jH (Aa B1.out hb4);clear hb4;go_wp2;go_ret;exact ⟨by rw [R.out];rfl,B4.out⟩
  rw [if_neg x6] at HM2;have y1:(x == 8205)=false:=beq_eq_false_iff_ne.2 x1;have y2:(x == 8204)=false:=beq_eq_false_iff_ne.2 x2;have y3:(x == 183)=false:=beq_eq_false_iff_ne.2 x3;have y4:(x == 885)=false:=beq_eq_false_iff_ne.2 x4;have y5:(x == 1523)=false:=beq_eq_false_iff_ne.2 (λe=>x5 (.inl e));have y6:(x == 1524)=false:=beq_eq_false_iff_ne.2 (λe=>x5 (.inr e));have y7:(x == 12539)=false:=beq_eq_false_iff_ne.2 x6;clear x1 x2 x3 x4 x5 x6 K1 K2;by_cases x7:x<1700
  ·rw [if_pos x7] at HM2;have KA:=jH (Uc _ l 1776 1785 wc (HL.out.Af B1.out) hn);generalize Ctx.Bo l 1776 1785=aa at KA HM2;have R:=jH HM2;clear HM2;go_wp2_with fail;refine KA.out.mono ?_;rintro e w4 ⟨rfl,hb4⟩;have B4:=jH (Aa B1.out hb4);clear hb4;go_wp2;go_ret;exact ⟨by rw [R.out];rfl,B4.out⟩
  ·rw [if_neg x7] at HM2;have KA:=jH (Uc _ l 1632 1641 wc (HL.out.Af B1.out) hn);generalize Ctx.Bo l 1632 1641=aa at KA HM2;have R:=jH HM2;clear HM2;go_wp2_with fail;refine KA.out.mono ?_;rintro e w4 ⟨rfl,hb4⟩;have B4:=jH (Aa B1.out hb4);clear hb4;go_wp2;go_ret;exact ⟨by rw [R.out];rfl,B4.out⟩
theorem Aiq (v:Value) (l:List Int) (i:Int) (w:World) (hl:Runes v l w) (hn:l.length<=10000) :
  Calls prog 76 #[v,.int .i64 i] w λe w'=>e=.returned (.int .i64 (Ctx.Gt l i))/\Below w.heap.size w w':=by
 have HL:=jH hl;obtain ⟨A,c,rfl,-,hcell⟩:=hl.form;have HC:=jH hcell;clear hl hcell;by_cases h0:i<0
 ·have R:=jH (show Ctx.Gt l i=0 by unfold Ctx.Gt;rw [if_neg jO]);go_enter func76,ntmps76;go_wp2;go_ret;exact ⟨by rw [R.out];rfl,jan _ _⟩
 ·by_cases h1:i<(l.length:Int)
  ·obtain ⟨k,rfl⟩:∃ k:Nat,i=k:=⟨i.toNat,by omega⟩
   have hk:k<l.length:=jO
   obtain ⟨ad,rfl,hb,hx⟩:=HC.out k hk;obtain ⟨x,hxe⟩:∃ x,l[k]! = x:=⟨_,rfl⟩
   have hN:=Ctx.G9 hk;rw [hxe] at hx hN;have KN:=Ae1 x w;cases hnd:Ctx.Cj x with
   | false =>
    rw [hnd] at KN hN;have R:=jH hN;have HKN:=jH KN;clear hN KN hnd hb hxe h0;go_enter func76,ntmps76;go_wp2_with fail;refine HKN.out.mono ?_;rintro e w1 ⟨rfl,rfl⟩;go_wp2;go_ret;exact ⟨by rw [R.out];rfl,jan _ _⟩
   | true =>
    rw [hnd,if_pos rfl] at hN;rw [hnd] at KN;have KM:=Al0 _ l k w HL.out hn hk;have HKN:=jH KN;cases hm:Ctx.met l k with
    | false =>
     rw [hm] at KM hN;have R:=jH hN;have HKM:=jH KM;clear hN KN hnd hb hxe h0 KM hm;go_enter func76,ntmps76;go_wp2_with fail;refine HKN.out.mono ?_;rintro e w1 ⟨rfl,rfl⟩;go_wp2_with fail;refine HKM.out.mono ?_;rintro e w2 ⟨rfl,hb2⟩;have B2:=jH hb2;clear hb2;go_wp2;go_ret;exact ⟨by rw [R.out];rfl,B2.out⟩
    | true =>
     rw [hm] at KM hN;have R:=jH hN;have HKM:=jH KM;clear hN KN hnd hb hxe h0 KM hm;go_enter func76,ntmps76;go_wp2_with fail;refine HKN.out.mono ?_;rintro e w1 ⟨rfl,rfl⟩;go_wp2_with fail;refine HKM.out.mono ?_;rintro e w2 ⟨rfl,hb2⟩;have B2:=jH hb2;clear hb2;go_wp2;go_ret;exact ⟨by rw [R.out];rfl,B2.out⟩
  ·have R:=jH (show Ctx.Gt l i=0 by unfold Ctx.Gt;rw [if_neg jO]);have h2:(l.length:Int)<=i:=jO
   go_enter func76,ntmps76;go_wp2;go_ret;exact ⟨by rw [R.out];rfl,jan _ _⟩
namespace Ctx
def Akh (l:List Int) (k:Nat):Bool:=(List.range k).all λi=>Gt l (i:Nat) != 2
theorem Apf (l:List Int) (k:Nat):Akh l (k+1)=(Akh l k && Gt l (k:Nat) != 2):=by
 unfold Akh;rw [List.range_succ,List.all_append];simp
theorem Aq6 {l:List Int} {k:Nat} (hk:k<l.length) (h:Gt l (k:Nat)=2):all l=false:=by
 unfold all;rw [List.all_eq_false];exact ⟨k,List.mem_range.2 hk,by rw [h];decide⟩
end Ctx
end
section
open Go.RowKit
theorem Ao8 {ad:Addr} {n c:Nat} {l:List Int} {w:World} (h:Runes (.slice (some ad) n c) l w) (m:Nat) (hm:m<=l.length) (h0:0<l.length):Runes (.slice (some ad) m c) (l.take m) w:=by
 obtain ⟨A,c',e,hc,-,ha⟩:=h;injection e with e1 e2 e3
 subst e1 e3;rw [jai] at hc ha;obtain ⟨ad',e4,hlt,hcell⟩:=ha h0;obtain rfl:ad=ad':=by injection e4
 refine ⟨some ad,c,by rw [jai,jak,Nat.min_eq_left hm],by rw [jai,jak];omega,λe=>(by cases e),λ_=>⟨ad,rfl,hlt,λj u hu=>?_⟩⟩;have hj:j<(l.take m).length:=by have:=(List.getElem?_eq_some_iff.1 hu).1;simpa using this
 rw [jak] at hj;rw [List.getElem?_map,List.getElem?_take_of_lt jO,<- List.getElem?_map] at hu;exact hcell j u hu
end
section
open Go.RowKit
def isKind (d:Int):Bool:=d == 8204 || d == 8205 || d == 183 || d == 885 || d == 1523 || d == 12539 || d == 1632 || d == 1776
def Ef (l:List Int) (k:Nat) (d:Int):Bool :=
 if d=8205 then Ctx.En l k else if d=8204 then Ctx.En l k || Ctx.Ee l k
 else if d=183 then Ctx.at0 l ((k:Int) - 1) == 108 && Ctx.at0 l ((k:Int)+1) == 108
 else if d=885 then Aq (Ctx.at0 l ((k:Int)+1)) == 2
 else if d=1523 then Aq (Ctx.at0 l ((k:Int) - 1)) == 4
 else if d=12539 then Ctx.Ek l
 else if d=1632 then !Ctx.Bo l 1776 1785 else !Ctx.Bo l 1632 1641
theorem Ve (r:Int):(r=1524/\kindOf r=1523)\/(r ≠ 1524/\1632<=r/\r<=1641/\kindOf r=1632)\/(r ≠ 1524/\1776<=r/\r<=1785/\kindOf r=1776)\/(r ≠ 1524/\¬ (1632<=r/\r<=1641)/\¬ (1776<=r/\r<=1785)/\kindOf r=r):=by
 unfold kindOf;by_cases h1:r=1524
 ·exact .inl ⟨h1,by rw [if_pos h1]⟩
 ·rw [if_neg h1];by_cases h2:1632<=r/\r<=1641
  ·exact .inr (.inl ⟨h1,h2.1,h2.2,by rw [if_pos h2]⟩)
  ·rw [if_neg h2];by_cases h3:1776<=r/\r<=1785
   · exact .inr (.inr (.inl ⟨h1,h3.1,h3.2,by rw [if_pos h3]⟩))
   · exact .inr (.inr (.inr ⟨h1,h2,h3,by rw [if_neg h3]⟩))
theorem Ob (r:Int):Ctx.Cj r=isKind (kindOf r):=by
 rw [Bool.eq_iff_iff];unfold Ctx.Cj isKind;rcases Ve r with ⟨rfl,h⟩ | ⟨h1,h2,h3,h⟩ | ⟨h1,h2,h3,h⟩ | ⟨h1,h2,h3,h⟩<;>rw [h]
 ·decide
 ·simp [h2,h3]
 ·simp [h2,h3]
 ·simp only [Bool.or_eq_true,jag,beq_iff_eq,decide_eq_true_eq];omega
theorem Al1 (l:List Int) (k:Nat) (hn:Ctx.Cj l[k]! = true):Ctx.met l k=Ef l k (kindOf l[k]!):=by
 rw [Ob] at hn;unfold Ctx.met Ef;generalize l[k]! = r at hn ⊢;rcases Ve r with ⟨rfl,h⟩ | ⟨h1,h2,h3,h⟩ | ⟨h1,h2,h3,h⟩ | ⟨h1,h2,h3,h⟩
 ·rw [h];rfl
 ·rw [h,if_neg (show ¬ r=8205 by omega),if_neg (show ¬ r=8204 by omega),if_neg (show ¬ r=183 by omega),if_neg (show ¬ r=885 by omega),if_neg (show ¬ (r=1523\/r=1524) by omega),if_neg (show ¬ r=12539 by omega),if_pos (show r<1700 by omega)];rfl
 ·rw [h,if_neg (show ¬ r=8205 by omega),if_neg (show ¬ r=8204 by omega),if_neg (show ¬ r=183 by omega),if_neg (show ¬ r=885 by omega),if_neg (show ¬ (r=1523\/r=1524) by omega),if_neg (show ¬ r=12539 by omega),if_neg (show ¬ r<1700 by omega)];rfl
 ·rw [h] at hn ⊢;unfold isKind at hn;simp only [Bool.or_eq_true,beq_iff_eq] at hn;have hc:r=8204\/r=8205\/r=183\/r=885\/r=1523\/r=12539:=jO
  rcases hc with rfl | rfl | rfl | rfl | rfl | rfl<;>rfl
structure He (B g c1 c2 c3:Nat) (t v:Value) (l:List Int) (w0 w:World):Prop where
 below:Below B w0 w
 base:B=w0.heap.size
 row:E5 g t v l w0
 o1:B<c1
 o2:c1+2<c2
 o3:c2+2<c3
 rules:Agb B g c1 c2 c3 w
 q1:Ei c1 g 224 (Ctx.Ek l) w
 q2:Ei c2 g 225 (!Ctx.Bo l 1776 1785) w
 q3:Ei c3 g 226 (!Ctx.Bo l 1632 1641) w
section
variable {B g c1 c2 c3:Nat} {t v:Value} {l:List Int} {w0 w w':World}
theorem He.lt (h:He B g c1 c2 c3 t v l w0 w):B<w.heap.size:=(Array.getElem?_eq_some_iff.1 h.rules).1
theorem He.Af (h:He B g c1 c2 c3 t v l w0 w) (hb:Below w.heap.size w w'):He B g c1 c2 c3 t v l w0 w' :=
 ⟨h.below.trans (hb.mono (Nat.le_of_lt h.lt)),h.base,h.row,h.o1,h.o2,h.o3,(hb.block _ h.lt).trans h.rules,h.q1.Af hb,h.q2.Af hb,h.q3.Af hb⟩
theorem He.now (h:He B g c1 c2 c3 t v l w0 w):E5 g t v l w:=h.row.Af (by have:=h.below;rwa [h.base] at this)
theorem He.all (h:He B g c1 c2 c3 t v l w0 w):Below w0.heap.size w0 w:=by have:=h.below;rwa [h.base] at this
theorem He.asked (h:He B g c1 c2 c3 t v l w0 w) {c:Nat} (hc:c=c1\/c=c2\/c=c3) (hb:Below c w w') (hs:∀ j,c+2<j->j<w.heap.size->w'.heap[j]? = w.heap[j]?)
  (h1:c=c1->Ei c1 g 224 (Ctx.Ek l) w') (h2:c=c2->Ei c2 g 225 (!Ctx.Bo l 1776 1785) w') (h3:c=c3->Ei c3 g 226 (!Ctx.Bo l 1632 1641) w'):He B g c1 c2 c3 t v l w0 w':=by
 have p1:=h.o1;have p2:=h.o2;have p3:=h.o3;have l1:=h.q1.lt;have l2:=h.q2.lt;have l3:=h.q3.lt;refine ⟨h.below.trans (hb.mono jO),h.base,h.row,p1,p2,p3,(hb.block B jO).trans h.rules,?_,?_,?_⟩
 ·by_cases e:c=c1
  ·exact h1 e
  ·exact h.q1.same (hb.block _ jO) (hb.block _ jO) (hb.block _ jO)
 ·by_cases e:c=c2
  ·exact h2 e
  ·by_cases e3:c=c3
   · exact h.q2.same (hb.block _ jO) (hb.block _ jO) (hb.block _ jO)
   · exact h.q2.same (hs _ jO jO) (hs _ jO jO) (hs _ jO jO)
 ·by_cases e:c=c3
  ·exact h3 e
  ·exact h.q3.same (hs _ jO jO) (hs _ jO jO) (hs _ jO jO)
end
theorem Xx (g c1 c2 c3:Nat) {d:Int} (h:isKind d=false):Instr.findNow (.int .i32) (.int .i32 d) (Qf g c1 c2 c3) 0=some none:=by
 unfold isKind at h;simp only [Bool.or_eq_false_iff] at h;obtain ⟨⟨⟨⟨⟨⟨⟨h1,h2⟩,h3⟩,h4⟩,h5⟩,h6⟩,h7⟩,h8⟩:=h;simp [Qf,Instr.findNow,Instr.sameNow,h1,h2,h3,h4,h5,h6,h7,h8]
def Agd (B g c1 c2 c3:Nat) (t v:Value) (l:List Int) (w0:World) (d:Int) (f:Nat) (args:Int->Array Value):Prop :=
 ∀ (k:Nat) (w:World),k<l.length->He B g c1 c2 c3 t v l w0 w->Calls prog f (args k) w λe w'=>e=.returned (.bool (Ef l k d))/\He B g c1 c2 c3 t v l w0 w'
theorem Q9 (B g c1 c2 c3:Nat) (t v:Value) (l:List Int) (w0:World) (hn:l.length<=1000) {d:Int} (h:isKind d=true) :
  (∃ i f,Instr.findNow (.int .i32) (.int .i32 d) (Qf g c1 c2 c3) 0=some (some (i,.func (.func f) #[.pointer (some ⟨g,0,none⟩)] #[]))/\(∀ args w,(callFunc f args).run prog w=.ok (.enter f args) w)/\Agd B g c1 c2 c3 t v l w0 d f (λk=>#[.pointer (some ⟨g,0,none⟩),.int .i64 k])) \/
  (∃ i c,Instr.findNow (.int .i32) (.int .i32 d) (Qf g c1 c2 c3) 0=some (some (i,.func (.func 237) #[] #[.pointer (some ⟨c+1,0,none⟩),.pointer (some ⟨c,0,none⟩),.pointer (some ⟨c+2,0,none⟩)]))/\Agd B g c1 c2 c3 t v l w0 d 237 (λk=>#[.int .i64 k,.pointer (some ⟨c+1,0,none⟩),.pointer (some ⟨c,0,none⟩),.pointer (some ⟨c+2,0,none⟩)])):=by
 unfold isKind at h;simp only [Bool.or_eq_true,beq_iff_eq] at h;rcases h with ((((((rfl | rfl) | rfl) | rfl) | rfl) | rfl) | rfl) | rfl
 ·exact .inl ⟨_,_,rfl,enters_of func218 jK rfl,λk w hk h=>(Aiy g t v l k w h.now hn hk).mono λe w' ⟨h1,h2⟩=>⟨h1,h.Af h2⟩⟩
 ·exact .inl ⟨_,_,rfl,enters_of func219 jK rfl,λk w hk h=>(X8 g t v l k w h.now hn hk).mono λe w' ⟨h1,h2⟩=>⟨h1,h.Af h2⟩⟩
 ·exact .inl ⟨_,_,rfl,enters_of func220 jK rfl,λk w hk h=>(Wy g t v l k w h.now hn hk).mono λe w' ⟨h1,h2⟩=>⟨h1,h.Af h2⟩⟩
 ·exact .inl ⟨_,_,rfl,enters_of func221 jK rfl,λk w hk h=>(N8 g t v l k w h.now hn hk).mono λe w' ⟨h1,h2⟩=>⟨h1,h.Af h2⟩⟩
 ·exact .inl ⟨_,_,rfl,enters_of func222 jK rfl,λk w hk h=>(N9 g t v l k w h.now hn hk).mono λe w' ⟨h1,h2⟩=>⟨h1,h.Af h2⟩⟩
 ·exact .inr ⟨_,c1,rfl,λk w hk h=>(Od c1 g _ _ k w h.q1 (enters_of func224 jK rfl) (Re g t v l w h.now hn)).mono λe w' ⟨h1,h2,h3,h4⟩=>⟨h1,h.asked (.inl rfl) h3 h4 (λ_=>h2) (λe=>absurd e (by have:=h.o2;omega)) (λe=>absurd e (by have:=h.o2;have:=h.o3;omega))⟩⟩
 ·exact .inr ⟨_,c2,rfl,λk w hk h=>(Od c2 g _ _ k w h.q2 (enters_of func225 jK rfl) (Rf g t v l w h.now hn)).mono λe w' ⟨h1,h2,h3,h4⟩=>⟨h1,h.asked (.inr (.inl rfl)) h3 h4 (λe=>absurd e (by have:=h.o2;omega)) (λ_=>h2) (λe=>absurd e (by have:=h.o3;omega))⟩⟩
 ·exact .inr ⟨_,c3,rfl,λk w hk h=>(Od c3 g _ _ k w h.q3 (enters_of func226 jK rfl) (Th g t v l w h.now hn)).mono λe w' ⟨h1,h2,h3,h4⟩=>⟨h1,h.asked (.inr (.inr rfl)) h3 h4 (λe=>absurd e (by have:=h.o2;have:=h.o3;omega)) (λe=>absurd e (by have:=h.o3;omega)) (λ_=>h2)⟩⟩
theorem Ade (w:World):(zeroValue 143).run prog w=.ok .nilFunc w:=by kernel_rfl
theorem Ab5 (r:Int) (w:World):Calls prog 165 #[.int .i32 r] w λe w'=>e=.returned (.bool (Ctx.Cj r))/\Below w.heap.size w w':=by
 rw [Ob];have KK:=λW=>Abx r W;generalize kindOf r=d at KK ⊢;have KK:=jH KK;have KR:=jH (λB W h=>Yt w.heap.size B W h);have hw:Below w.heap.size w (w.alloc (.cells #[.slice none 0 0,.slice none 0 0,.slice none 0 0,.slice none 0 0,.slice none 0 0] 185)):=Ac _ _;have HW:=jH hw;clear hw;cases hd:isKind d
 ·have HD:=jH hd;clear hd;go_enter func165,ntmps165;go_wp2_with fail;refine (KR.out (w.heap.size+1) _ jS).mono ?_;rintro e w2 ⟨c1,c2,c3,rfl,hb,-,-,-,hr,-,-,-⟩;have hl:=Yb w2 underlying181 underlying21 (Ade w2) hr d (Xx _ _ _ _ HD.out);have HB:=jH (Aa HW.out hb);clear hb hr;go_wp2_with fail;refine (KK.out w2).mono ?_;rintro e w3 ⟨rfl,rfl⟩;go_wp2;go_ret;exact ⟨rfl,HB.out⟩
 ·have HD:=jH hd;clear hd;go_enter func165,ntmps165;go_wp2_with fail;refine (KR.out (w.heap.size+1) _ jS).mono ?_;rintro e w2 ⟨c1,c2,c3,rfl,hb,-,-,-,hr,-,-,-⟩;have hl:∃ V,(Instr.lookup 181 (.map (some (w.heap.size+1))) (.int .i32 d) true).run prog w2=.ok (.tuple #[V,.bool true]) w2:=by
   rcases Q9 0 w.heap.size c1 c2 c3 .nilFunc .nilFunc [] w jS HD.out with ⟨i,f,hf,-⟩ | ⟨i,f,hf,-⟩
   · exact ⟨_,Io w2 underlying181 underlying21 hr d _ hf⟩
   · exact ⟨_,Io w2 underlying181 underlying21 hr d _ hf⟩
  obtain ⟨V,hl⟩:=hl;have HB:=jH (Aa HW.out hb);clear hb hr;go_wp2_with fail;refine (KK.out w2).mono ?_;rintro e w3 ⟨rfl,rfl⟩;go_wp2;go_ret;exact ⟨rfl,HB.out⟩
theorem Ai9 {t v:Value} {l:List Int} {W:World} (g:Nat) (hg:g=W.heap.size) (hT:Table W t) (hl:Runes v l W) {b0 b1 b2 b3 c:Nat} {A:Option Addr} (e1:t=.agg #[.slice (some ⟨b0,0,none⟩) 74 74,.slice (some ⟨b1,0,none⟩) 10 10,.slice (some ⟨b2,0,none⟩) 11 11,.slice (some ⟨b3,0,none⟩) 42 42]) (e2:v=.slice A l.length c) :
  E5 g t v l (W.alloc (.cells #[.slice (some ⟨b0,0,none⟩) 74 74,.slice (some ⟨b1,0,none⟩) 10 10,.slice (some ⟨b2,0,none⟩) 11 11,.slice (some ⟨b3,0,none⟩) 42 42,.slice A l.length c] 185)):=by
 subst hg;exact ⟨hT.below (Ac W _),hl.Af (Ac W _),b0,b1,b2,b3,A,c,e1,e2,heap_alloc_new W _⟩
theorem Ajn {B g:Nat} {t v:Value} {l:List Int} {w0:World} {e:Ending} {w':World} (hB:B=w0.heap.size) (hR:E5 g t v l w0) (h:Xb g B w0 e w'):e=.returned (.map (some B))/\∃ c1 c2 c3,He B g c1 c2 c3 t v l w0 w':=by
 obtain ⟨c1,c2,c3,rfl,hb,h1,h2,h3,hr,q1,q2,q3⟩:=h;exact ⟨rfl,c1,c2,c3,hB ▸ hb,hB,hR,h1,h2,h3,hr,q1 _,q2 _,q3 _⟩
def Good (l:List Int) (k:Nat):Prop:=∀ j,j<k->Ctx.Cj l[j]! = true->Ctx.met l j=true
theorem Good.next {l:List Int} {k:Nat} (h:Good l k) (hx:Ctx.Cj l[k]! = true->Ctx.met l k=true):Good l (k+1):=λj hj=>by
 by_cases e:j=k
 · subst e;exact hx
 · exact h j jO
theorem Ahf (t v:Value) (l:List Int) (w:World) (hT:Table w t) (hl:Runes v l w) (hn:l.length<=1000) :
  Calls prog 167 #[t,v] w λe w'=>e=.returned (.bool (Ctx.all l))/\Below w.heap.size w w':=by
 have hT0:=hT;have hl0:=hl;obtain ⟨b0,b1,b2,b3,rfl,-,-,-,-⟩:=hT0;obtain ⟨A,c,rfl,hc,hx⟩:=hl0.form;have hB1:=Ac w (.cells #[.slice (some ⟨b0,0,none⟩) 74 74,.slice (some ⟨b1,0,none⟩) 10 10,.slice (some ⟨b2,0,none⟩) 11 11,.slice (some ⟨b3,0,none⟩) 42 42] 28);have hrow:=Ai9 (w.heap.size+1) jS (hT.below hB1) (hl.Af hB1) (b0:=b0) (b1:=b1) (b2:=b2) (b3:=b3) (c:=c) (A:=A) rfl rfl;have hB2:Below w.heap.size w ((w.alloc (.cells #[.slice (some ⟨b0,0,none⟩) 74 74,.slice (some ⟨b1,0,none⟩) 10 10,.slice (some ⟨b2,0,none⟩) 11 11,.slice (some ⟨b3,0,none⟩) 42 42] 28)).alloc (.cells #[.slice (some ⟨b0,0,none⟩) 74 74,.slice (some ⟨b1,0,none⟩) 10 10,.slice (some ⟨b2,0,none⟩) 11 11,.slice (some ⟨b3,0,none⟩) 42 42,.slice A l.length c] 185)):=Di _ _ _;have HX:=jH (λW (h:Below w.heap.size w W) k (hk:k<l.length)=>by
  obtain ⟨ad,e,hb,hcell⟩:=hx k hk;exact (⟨ad,e,(h.cell (p:=ad.add k) (by rw [Ah];exact hb)).trans hcell⟩:∃ ad,A=some ad/\W.cell? (ad.add k)=some (.int .i32 l[k]!)))
 have KK:=jH (λr W=>Abx r W);have hra:=Yt (w.heap.size+1) (w.heap.size+1+1) ((w.alloc (.cells #[.slice (some ⟨b0,0,none⟩) 74 74,.slice (some ⟨b1,0,none⟩) 10 10,.slice (some ⟨b2,0,none⟩) 11 11,.slice (some ⟨b3,0,none⟩) 42 42] 28)).alloc (.cells #[.slice (some ⟨b0,0,none⟩) 74 74,.slice (some ⟨b1,0,none⟩) 10 10,.slice (some ⟨b2,0,none⟩) 11 11,.slice (some ⟨b3,0,none⟩) 42 42,.slice A l.length c] 185)) jS;have HR:=jH (λe w' h=>Ajn (e:=e) (w':=w') (show w.heap.size+1+1=((w.alloc (.cells #[.slice (some ⟨b0,0,none⟩) 74 74,.slice (some ⟨b1,0,none⟩) 10 10,.slice (some ⟨b2,0,none⟩) 11 11,.slice (some ⟨b3,0,none⟩) 42 42] 28)).alloc (.cells #[.slice (some ⟨b0,0,none⟩) 74 74,.slice (some ⟨b1,0,none⟩) 10 10,.slice (some ⟨b2,0,none⟩) 11 11,.slice (some ⟨b3,0,none⟩) 42 42,.slice A l.length c] 185)).heap.size by simp) hrow h);generalize hW0:(w.alloc (.cells #[.slice (some ⟨b0,0,none⟩) 74 74,.slice (some ⟨b1,0,none⟩) 10 10,.slice (some ⟨b2,0,none⟩) 11 11,.slice (some ⟨b3,0,none⟩) 42 42] 28)).alloc (.cells #[.slice (some ⟨b0,0,none⟩) 74 74,.slice (some ⟨b1,0,none⟩) 10 10,.slice (some ⟨b2,0,none⟩) 11 11,.slice (some ⟨b3,0,none⟩) 42 42,.slice A l.length c] 185)=W0 at *;have HA:=jH hra;have HB2:=jH hB2;have HW0:=jH hW0;obtain ⟨r,hr⟩:∃ r,r=Ctx.all l:=⟨_,rfl⟩
 rw [<- hr];have HRes:=jH hr;have HN:=jH hn;clear hT hl hx hc hB1 hrow hB2 hra hW0 hr;go_enter func167,ntmps167;go_wp2_with fail;rw [HW0.out];refine HA.out.mono ?_;rintro e w2 hpost;obtain ⟨rfl,c1,c2,c3,hru⟩:=HR.out e w2 hpost;have HRu:=jH hru;have FS:=jH (λd h=>Q9 (w.heap.size+1+1) (w.heap.size+1) c1 c2 c3 (.agg #[.slice (some ⟨b0,0,none⟩) 74 74,.slice (some ⟨b1,0,none⟩) 10 10,.slice (some ⟨b2,0,none⟩) 11 11,.slice (some ⟨b3,0,none⟩) 42 42]) (.slice A l.length c) l W0 hn (d:=d) h);clear hpost hru HA HR;go_wp2;go_loopg [6,7,8,9,17] (l.length+1) (λgk _ _ _ _ i wr=>∃ k:Nat,k<=l.length/\i=.int .i64 k/\l.length - k<gk/\Hid (Good l k/\He (w.heap.size+1+1) (w.heap.size+1) c1 c2 c3 (.agg #[.slice (some ⟨b0,0,none⟩) 74 74,.slice (some ⟨b1,0,none⟩) 10 10,.slice (some ⟨b2,0,none⟩) 11 11,.slice (some ⟨b3,0,none⟩) 42 42]) (.slice A l.length c) l W0 wr))
 case atStart=>exact ⟨0,Nat.zero_le _,rfl,by omega,⟨λj hj=>absurd hj (Nat.not_lt_zero _),HRu.out⟩⟩
 case round =>
  obtain ⟨k,hk,rfl,hg0,I⟩:=hrel;by_cases hlt:k<l.length
  ·have BW:=jH (Aa HB2.out I.out.2.all);obtain ⟨ad,rfl,hcell⟩:=HX.out wr BW.out k hlt;obtain ⟨x,hxe⟩:∃ x,x=l[k]!:=⟨_,rfl⟩
   rw [<- hxe] at hcell;have hnk:=Ob x;have hmk:Ctx.Cj x=true->Ctx.met l k=Ef l k (kindOf x):=λh=>by rw [hxe] at h ⊢;exact Al1 l k h
   have K:=KK.out x wr;generalize kindOf x=d at hnk hmk K;have HXE:=jH hxe;have HNK:=jH hnk;have HMK:=jH hmk;have K:=jH K;have hkz:(k:Int)<(l.length:Int):=jO
   clear hxe hnk hmk;cases hd:isKind d
   ·have hl:=Yb wr underlying181 underlying21 (Ade wr) I.out.2.rules d (Xx _ _ _ _ hd);have I2:=jH (show Good l (k+1) from I.out.1.next (λh=>by rw [<- HXE.out,HNK.out,hd] at h;cases h));clear hd;go_wp2_with fail;refine K.out.mono ?_;rintro e w3 ⟨rfl,rfl⟩;go_wp2;go_roundg (l.length - k)
    case measure=>omega
    case rel=>exact ⟨k+1,by omega,by go_num,by omega,⟨I2.out,I.out.2⟩⟩
   ·have HD:=jH hd;clear hd;have hneed:Hid (Ctx.Cj l[k]! = true):=jH (by rw [<- HXE.out,HNK.out,HD.out]);have hmet:Hid (Ctx.met l k=Ef l k d):=jH (HMK.out (by rw [HNK.out,HD.out]));rcases FS.out d HD.out with ⟨i,f,hf,eg,ht⟩ | ⟨i,c',hf,ht⟩
    ·have hl:=Io wr underlying181 underlying21 I.out.2.rules d _ hf;have HC:=ht k wr hlt I.out.2;generalize Ef l k d=b at HC hmet;have HC:=jH HC;clear hf ht;cases b
     ·have R:=jH (HRes.out.trans (Ctx.Ub hlt hneed.out hmet.out));go_wp2_with fail;refine K.out.mono ?_;rintro e w3 ⟨rfl,rfl⟩;go_wp2_with fail;refine HC.out.mono ?_;rintro e w4 ⟨rfl,hru4⟩;have B4:=jH (Aa HB2.out hru4.all);clear hru4 hcell hl;go_wp2;go_ret;exact ⟨by rw [R.out];rfl,B4.out⟩
     ·have I2:=jH (show Good l (k+1) from I.out.1.next (λ_=>hmet.out));go_wp2_with fail;refine K.out.mono ?_;rintro e w3 ⟨rfl,rfl⟩;go_wp2_with fail;refine HC.out.mono ?_;rintro e w4 ⟨rfl,hru4⟩;have HR4:=jH hru4;clear hru4 hcell hl;go_wp2;go_roundg (l.length - k)
      case measure=>omega
      case rel=>exact ⟨k+1,by omega,by go_num,by omega,⟨I2.out,HR4.out⟩⟩
    ·have hl:=Io wr underlying181 underlying21 I.out.2.rules d _ hf;have HC:=ht k wr hlt I.out.2;generalize Ef l k d=b at HC hmet;have HC:=jH HC;clear hf ht;cases b
     ·have R:=jH (HRes.out.trans (Ctx.Ub hlt hneed.out hmet.out));go_wp2_with fail;refine K.out.mono ?_;rintro e w3 ⟨rfl,rfl⟩;go_wp2_with fail;refine HC.out.mono ?_;rintro e w4 ⟨rfl,hru4⟩;have B4:=jH (Aa HB2.out hru4.all);clear hru4 hcell hl;go_wp2;go_ret;exact ⟨by rw [R.out];rfl,B4.out⟩
     ·have I2:=jH (show Good l (k+1) from I.out.1.next (λ_=>hmet.out));go_wp2_with fail;refine K.out.mono ?_;rintro e w3 ⟨rfl,rfl⟩;go_wp2_with fail;refine HC.out.mono ?_;rintro e w4 ⟨rfl,hru4⟩;have HR4:=jH hru4;clear hru4 hcell hl;go_wp2;go_roundg (l.length - k)
      case measure=>omega
      case rel=>exact ⟨k+1,by omega,by go_num,by omega,⟨I2.out,HR4.out⟩⟩
  ·obtain rfl:k=l.length:=jO
   have R:=jH (HRes.out.trans ((Ctx.Hw l).2 I.out.1));have hkz:¬ (l.length:Int)<(l.length:Int):=jO
   go_wp2;go_ret;exact ⟨by rw [R.out];rfl,Aa HB2.out I.out.2.all⟩
def Anc (B g c1 c2 c3:Nat) (t v:Value) (l:List Int) (w0:World) (d:Int) (V:Value):Prop :=
 (∃ f,V=.func (.func f) #[.pointer (some ⟨g,0,none⟩)] #[]/\(∀ args w,(callFunc f args).run prog w=.ok (.enter f args) w)/\Agd B g c1 c2 c3 t v l w0 d f (λk=>#[.pointer (some ⟨g,0,none⟩),.int .i64 k])) \/
  (∃ c,V=.func (.func 237) #[] #[.pointer (some ⟨c+1,0,none⟩),.pointer (some ⟨c,0,none⟩),.pointer (some ⟨c+2,0,none⟩)]/\Agd B g c1 c2 c3 t v l w0 d 237 (λk=>#[.int .i64 k,.pointer (some ⟨c+1,0,none⟩),.pointer (some ⟨c,0,none⟩),.pointer (some ⟨c+2,0,none⟩)]))
theorem Are {B g c1 c2 c3:Nat} {t v:Value} {l:List Int} {w0 w:World} (h:He B g c1 c2 c3 t v l w0 w) (hn:l.length<=1000) {d:Int} (hd:isKind d=true) :
  ∃ V,(Instr.lookup 181 (.map (some B)) (.int .i32 d) true).run prog w=.ok (.tuple #[V,.bool true]) w/\Anc B g c1 c2 c3 t v l w0 d V:=by
 rcases Q9 B g c1 c2 c3 t v l w0 hn hd with ⟨i,f,hf,eg,ht⟩ | ⟨i,c',hf,ht⟩
 ·exact ⟨_,Io w underlying181 underlying21 h.rules d _ hf,.inl ⟨f,rfl,eg,ht⟩⟩
 ·exact ⟨_,Io w underlying181 underlying21 h.rules d _ hf,.inr ⟨c',rfl,ht⟩⟩
theorem Arq {l:List Int} {i:Int} (h:i<0\/l.length<=i):Ctx.Gt l i=0:=by unfold Ctx.Gt;rw [if_neg jO]
end
