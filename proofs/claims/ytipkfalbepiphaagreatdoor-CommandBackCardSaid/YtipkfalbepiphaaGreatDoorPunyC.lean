import Derived.Test.YtipkfalbepiphaaGreatDoorPunyA
import Derived.BigRegion
import Derived.Deep.DeepCutAuto
set_option maxRecDepth 100000
set_option maxHeartbeats 8000000
namespace Go.Proofs.YtipkfalbepiphaaGreatDoor
open Tryz
section
open Go.RowKit Utf
theorem Anb (n:Int) (w:World) (h:0<=n/\n<=35):Calls prog 354 #[.int .i64 n] w λe w'=>e=.returned (.tuple #[.int .u8 (Puny.Qm n),.bool true])/\w=w':=by
 obtain ⟨h0,h1⟩:=h;by_cases h2:n<26
 ·have e:Puny.Qm n=97+n:=by unfold Puny.Qm;rw [if_pos h2]
  rw [e];clear e h1;go_enter func354,ntmps354;go_wp2;go_ret2;exact ⟨rfl,rfl⟩
 ·have e:Puny.Qm n=48+(n - 26):=by unfold Puny.Qm;rw [if_neg h2];omega
  rw [e];have h3:26<=n:=jO
  clear e h2;go_enter func354,ntmps354;go_wp2;go_ret2;exact ⟨rfl,rfl⟩
theorem Ap6 (n:Int) (w:World) (h:0<=n/\n<=255):Calls prog 298 #[.int .u8 n] w λe w'=>e=.returned (.tuple #[.int .i64 ((Puny.valOf n).getD 0),.bool (Puny.valOf n).isSome])/\w=w':=by
 obtain ⟨h0,h1⟩:=h;go_enter func298,ntmps298;go_wp2
 all_goals
  go_ret2;refine ⟨?_,rfl⟩;unfold Puny.valOf
  first
   | (rw [if_pos jO];rfl)
   | (rw [if_neg jO,if_pos jO];rfl)
   | (rw [if_neg jO,if_neg jO,if_pos jO];rfl)
   | (rw [if_neg jO,if_neg jO,if_neg jO];rfl)
theorem Aaw (k b:Int) (w:World) (h:-1000000000000<=k/\k<=1000000000000/\-1000000000000<=b/\b<=1000000000000):Calls prog 299 #[.int .i64 k,.int .i64 b] w λe w'=>e=.returned (.int .i64 (Puny.thr k b))/\w=w':=by
 obtain ⟨h0,h1,h2,h3⟩:=h;go_enter func299,ntmps299;go_wp2
 all_goals
  go_ret;refine ⟨?_,rfl⟩;unfold Puny.thr
  first
   | (rw [show max 1 (min 26 (k - b))=k - b by omega];rfl)
   | (rw [show max 1 (min 26 (k - b))=26 by omega];rfl)
   | (rw [show max 1 (min 26 (k - b))=1 by omega];rfl)
theorem Xt (delta count:Int) (first:Bool) (w:World) (hd:0<=delta/\delta<=2147483647) (hc:1<=count/\count<=9223372036854775807):Calls prog 265 #[.int .i64 delta,.int .i64 count,.bool first] w λe w'=>e=.returned (.int .i64 (Puny.adapt delta count first))/\w=w':=by
 obtain ⟨d0,d1⟩:=hd;obtain ⟨c0,c1⟩:=hc;unfold Puny.adapt;obtain ⟨d,hdd⟩:∃ d,d=(if first then delta / 700 else delta / 2):=⟨_,rfl⟩
 rw [<- hdd];have hb:0<=d/\d<=2147483647:=by rw [hdd];split<;>omega
 have hq0:0<=d / count:=Int.ediv_nonneg hb.1 jO;have hq1:d / count<=d:=Int.ediv_le_self _ hb.1;obtain ⟨q,hq⟩:∃ q,d / count=q:=⟨_,rfl⟩
 rw [hq];rw [hq] at hq0 hq1;obtain ⟨b0,b1⟩:=hb;have n0:¬ delta<0:=jO
 have n1:¬ count<1:=jO
 cases first
 all_goals
  simp only [Bool.false_eq_true,if_false,if_true] at hdd;have hdd':=hdd.symm;clear hdd;go_enter func265,ntmps265;go_wp2;go_loopg [7,8] ((d+q).toNat+1) (λgk s7 s8 wr=>∃ x y:Int,s7=.int .i64 x/\s8=.int .i64 y/\0<=x/\0<=y/\x+y<=4294967294/\x.toNat<gk/\Hid (Puny.Wq (d+q) 0=Puny.Wq x y/\w=wr))
  case atStart=>exact ⟨d+q,0,rfl,rfl,by omega,by omega,by omega,by omega,⟨rfl,rfl⟩⟩
  case round =>
   obtain ⟨x,y,rfl,rfl,hx,hy,hxy,hg,I⟩:=hrel;by_cases hlt:455<x
   ·have J:Hid (Puny.Wq (d+q) 0=Puny.Wq (x / 35) (y+36)/\w=wr):=⟨by rw [I.out.1,Puny.Ass hlt],I.out.2⟩
    clear I;go_wp2;go_roundg (x.toNat)
    case measure=>omega
    case rel=>exact ⟨x / 35,y+36,rfl,rfl,by omega,by omega,by omega,by omega,J⟩
   ·have R:=jH (show Puny.Wq (d+q) 0=y+36*x / (x+38) by rw [I.out.1,Puny.Asr hlt]);have hlt':x<=455:=jO
    have hq2:0<=36*x / (x+38)/\36*x / (x+38)<=36*x:=⟨Int.ediv_nonneg jO jO,Int.ediv_le_self _ jO⟩
    obtain ⟨z,hz⟩:∃ z,36*x / (x+38)=z:=⟨_,rfl⟩
    rw [hz] at hq2 R;obtain ⟨z0,z1⟩:=hq2;clear hlt;go_wp2;go_ret;exact ⟨by rw [R.out];rfl,I.out.2⟩
theorem Ain (n:Int) (w:World) (h:0<=n/\n<=35):Calls prog 350 #[.int .i64 n] w λe w'=>e=.returned (.int .u8 ((Puny.J6 n).toNat:Int))/\w=w':=by
 have K:=jH (Anb n w h);rw [<- Puny.Rv h] at K;go_enter func350,ntmps350;go_wp2_with fail;refine K.out.mono ?_;rintro e w1 ⟨rfl,rfl⟩;go_wp2;go_ret;exact ⟨rfl,rfl⟩
namespace Puny
theorem Rw:∀ (f:Nat) (n k b:Int),0<=n->n<2 ^ f->(digits n k b).length<=f+1
 | 0,n,k,b,h0,h1=>by
  have:=Kv k b;rw [Fb jO];simp
 | f+1,n,k,b,h0,h1=>by
  have ht:=Kv k b;by_cases h:n<thr k b
  ·rw [Fb h];simp
  ·rw [Gf jO,jac];have hl:=less n (thr k b) ht.1 ht.2 jO;have hh:(n - thr k b) / (36 - thr k b)<2 ^ f:=by
    apply Int.ediv_lt_of_lt_mul jO;have h2:(2:Int) ^ (f+1)=2 ^ f*2:=Int.pow_succ _ _;have h3:(0:Int)<2 ^ f:=Int.pow_pos jD;have h4:(2:Int) ^ f*2<=2 ^ f*(36 - thr k b):=Int.mul_le_mul_of_nonneg_left jO jO;omega
   have:=Rw f _ (k+36) b hl.1 hh;omega
theorem Pt {n:Int} (k b:Int) (h:0<=n/\n<=2147483647):(Cc n k b).length<=32:=by
 unfold Cc;rw [jai];exact Rw 31 n k b h.1 (by have:(2:Int) ^ 31=2147483648:=jD;omega)
end Puny
def A6p (base:Nat) (v:Value) (x:List UInt8) (w:World) (e:Ending) (w':World):Prop:=∃ v',e=.returned v'/\Bu base v' x w'/\Cq v v' w w'
theorem Axe (base:Nat) (v:Value) (bs:List UInt8) (n b:Int) (w:World) (ho:Bu base v bs w) (hbase:base<=w.heap.size) (hl:bs.length<=100000) (hn:0<=n/\n<=2147483647) (hb:0<=b/\b<=100000000000) :
  Calls prog 340 #[v,.int .i64 n,.int .i64 b] w (A6p base v (bs ++ Puny.Cc n 36 b) w):=by
 have hsh:=Puny.Pt 36 b hn;obtain ⟨n0,n1⟩:=hn;obtain ⟨b0,b1⟩:=hb;have HO:=jH ho;have HBS:=jH hbase;have K0:=jH (Aaw 36 b w jO);clear ho hbase;go_enter func340,ntmps340;go_wp2_with fail;refine K0.out.mono ?_;rintro e w1 ⟨rfl,rfl⟩;go_wp2;go_loopg [0,1,7,8] (n.toNat+1) (λgk s0 s1 s7 s8 wr=>∃ (x k:Int),s1=.int .i64 x/\s7=.int .i64 k/\s8=.int .i64 (Puny.thr k b)/\0<=x/\36<=k/\k+36*x<=36+36*n/\x.toNat<gk/\Hid (∃ o:List UInt8,Bu base s0 (bs ++ o) wr/\Puny.Cc n 36 b=o ++ Puny.Cc x k b/\Cq v s0 w wr))
 case atStart=>exact ⟨n,36,rfl,rfl,rfl,n0,by omega,by omega,by omega,⟨[],by rw [List.append_nil];exact HO.out,rfl,Cq.refl _ _⟩⟩
 case round =>
  obtain ⟨x,k,rfl,rfl,rfl,hx,hk,hkx,hg,I⟩:=hrel;obtain ⟨o,I1,I2,I3⟩:=I.out;have hol:o.length<=32:=by rw [I2,jab] at hsh;omega
  have hle:(bs ++ o).length<=1000000:=by rw [jab];omega
  have IO:=jH I1;have IG:=jH I3;have KT:=jH (λW=>Aaw (k+36) b W jO);have ht:=Puny.Kv k b;have hL:=λh=>Puny.Afn (n:=x) (k:=k) (b:=b) h;have hM:=λh=>Puny.Afo (n:=x) (k:=k) (b:=b) h;have hBS:Hid (base<=wr.heap.size):=jH (Nat.le_trans HBS.out I3.size);clear I I1 I3;generalize Puny.thr k b=t at ht hL hM;obtain ⟨t0,t1⟩:=ht;by_cases hlt:x<t
  ·have KD:=jH (λW=>Ain x W jO);have T:=jH (show Puny.Cc n 36 b=o ++ [Puny.J6 x] by rw [I2,hL hlt]);obtain ⟨u,hu⟩:∃ u,u=Puny.J6 x:=⟨_,rfl⟩
   rw [<- hu] at KD T;have hub:u.toNat<256:=u.toNat_lt;have hnl:¬ t<=x:=jO
   clear hL hM hu I2;go_wp2_with fail;refine (KD.out _).mono ?_;rintro e w2 ⟨rfl,rfl⟩;go_wp2_with (at_builtin;refine Bw wr 45 5 (.int .u8 0) 1 underlying45 E4 rfl jO base _ _ _ IO.out hBS.out hle 1 jO _ rfl rfl _ rfl rfl _ _ rfl rfl rfl ?_;intro v3 w3 ho3 hg3;have HO3:=jH ho3;have HG3:=jH hg3;clear ho3 hg3);go_ret;refine ⟨_,rfl,?_,IG.out.trans HG3.out⟩;rw [T.out,<- jaq];exact Bu.more HO3.out rfl rfl
  ·have hge:t<=x:=jO
   obtain ⟨q0,q1⟩:=Puny.less x t t0 t1 hge;obtain ⟨p1,p2,p3⟩:=Puny.parts x t t0 t1;have KD:=jH (λW=>Ain (t+(x - t) % (36 - t)) W jO);obtain ⟨u,hu⟩:∃ u,u=Puny.J6 (t+(x - t) % (36 - t)):=⟨_,rfl⟩
   have T:=jH (show Puny.Cc n 36 b=(o ++ [u]) ++ Puny.Cc ((x - t) / (36 - t)) (k+36) b by rw [I2,hM hge,hu,jaq];rfl);rw [<- hu] at KD;have hub:u.toNat<256:=u.toNat_lt;obtain ⟨r,hr⟩:∃ r,(x - t) % (36 - t)=r:=⟨_,rfl⟩
   obtain ⟨q,hq⟩:∃ q,(x - t) / (36 - t)=q:=⟨_,rfl⟩
   rw [hr] at KD p2 p3;rw [hq] at T q0 q1;have r0:0<=r:=jO
   have r1:t+r<=35:=jO
   have q2:q<x:=jO
   clear hL hM hu p1 p2 p3 q1 I2;go_wp2_with fail;refine (KD.out _).mono ?_;rintro e w2 ⟨rfl,rfl⟩;go_wp2_with (first
    | (at_builtin;refine Bw wr 45 5 (.int .u8 0) 1 underlying45 E4 rfl jO base _ _ _ IO.out hBS.out hle 1 jO _ rfl rfl _ rfl rfl _ _ rfl rfl rfl ?_;intro v3 w3 ho3 hg3;have HO3:=jH ho3;have HG3:=jH hg3;clear ho3 hg3)
    | (go_at_call 299;refine (KT.out _).mono ?_;rintro e w4 ⟨rfl,rfl⟩))
   go_roundg (x.toNat)
   case measure=>omega
   case rel=>exact ⟨q,k+36,rfl,rfl,rfl,q0,by omega,by omega,by omega,⟨o ++ [u],by rw [<- jaq];exact Bu.more HO3.out rfl rfl,T.out,IG.out.trans HG3.out⟩⟩
end
section
open Go.RowKit Utf
theorem Bu.shape {base:Nat} {v:Value} {l:List UInt8} {w:World} (h:Bu base v l w):∃ (A:Option Addr) (c:Nat),v=.slice A l.length c:=by
 rcases h.2 with ⟨rfl,h0⟩ | ⟨g,cap,cur,rfl,hb,hg,hnc,hcm,hcs,hcur⟩
 · exact ⟨none,0,by rw [h0]⟩
 · exact ⟨some ⟨g,0,none⟩,cap,rfl⟩
theorem Akz (l:List Int) (x:Int):Puny.Bg (l ++ [x])=if x<128 then Puny.Bg l ++ [UInt8.ofNat x.toNat] else Puny.Bg l:=by
 unfold Puny.Bg;rw [Puny.A32];by_cases h:x<128
 · rw [if_pos h,if_pos h,List.map_append];rfl
 · rw [if_neg h,if_neg h]
def Ash (l:List Int) (w:World) (e:Ending) (w':World):Prop:=∃ v,e=.returned (.tuple #[v,.bool true])/\Bu w.heap.size v (Puny.Bg l) w'/\Below w.heap.size w w'
theorem Zz (l:List Int):(Puny.Bg l).length<=l.length:=by unfold Puny.Bg;rw [jai];exact Puny.Uu 128 l
theorem Ak0 (v:Value) (l:List Int) (w:World) (hl:Runes v l w) (hn:l.length<=10000) (hr:Ae l=true):Calls prog 293 #[v] w (Ash l w):=by
 obtain ⟨A,c,rfl,-,hcell⟩:=hl.form;have HC:=jH hcell;have HR:=jH hr;clear hl hcell hr;go_enter func293,ntmps293;go_wp2;go_loopg [4,6,9] (l.length+1) (λgk s4 _ i wr=>∃ k:Nat,k<=l.length/\i=.int .i64 k/\l.length - k<gk/\Hid (Bu w.heap.size s4 (Puny.Bg (l.take k)) wr/\Below w.heap.size w wr))
 case atStart=>exact ⟨0,Nat.zero_le _,rfl,by omega,⟨Bu.nil _ _,jan _ _⟩⟩
 case round =>
  obtain ⟨k,hk,rfl,hg,I⟩:=hrel;by_cases hlt:k<l.length
  ·obtain ⟨ad,rfl,hb,hx⟩:=HC.out k hlt;have hx':=(I.out.2.cell (by rw [Bf];exact hb)).trans hx;obtain ⟨x,hxe⟩:∃ x,x=l[k]!:=⟨_,rfl⟩
   have hrx:=Z9 hlt HR.out;rw [<- hxe] at hx' hrx;have hx0:=(An x).1 hrx;have ht:l.take (k+1)=l.take k ++ [x]:=by rw [Utf.Jj l k hlt,<- hxe]
   have KR:=jH (Lj x wr);rw [hrx] at KR;have hkz:(k:Int)<(l.length:Int):=jO
   have hle:(Puny.Bg (l.take k)).length<=1000000:=by have:=Zz (l.take k);rw [jak] at this;omega
   obtain ⟨x0,x1,-⟩:=hx0;have hs:=Akz (l.take k) x;rw [<- ht] at hs;clear hx hb hxe hrx ht;by_cases hp:x<128
   ·rw [if_pos hp] at hs;have HS:=jH hs;have hv:Hid ([Value.int .u8 x]=[UInt8.ofNat x.toNat].map Dn):=jH (by
     unfold Dn;rw [List.map_cons,List.map_nil,UInt8.toNat_ofNat_of_lt' (by show x.toNat<256;omega),Int.toNat_of_nonneg x0])
    clear hs;go_wp2_with fail;refine KR.out.mono ?_;rintro e w1 ⟨rfl,rfl⟩;go_wp2_with (at_builtin;refine Db wr 45 5 (.int .u8 0) 1 underlying45 E4 rfl jO w.heap.size _ _ _ I.out.1 I.out.2.size hle 1 jO _ rfl rfl rfl _ _ rfl rfl rfl ?_;intro v3 w3 ho3 hb3;have HO:=jH ho3;have HB3:=jH hb3;clear ho3 hb3);have J:Hid (Bu w.heap.size v3 (Puny.Bg (l.take (k+1))) w3/\Below w.heap.size w w3):=by
     refine ⟨?_,I.out.2.trans HB3.out⟩;rw [HS.out];exact Bu.more HO.out hv.out rfl
    go_roundg (l.length - k)
    case measure=>omega
    case rel=>exact ⟨k+1,by omega,by go_num,by omega,J⟩
   ·rw [if_neg hp] at hs;have J:Hid (Bu w.heap.size u4 (Puny.Bg (l.take (k+1))) wr/\Below w.heap.size w wr):=⟨by rw [hs];exact I.out.1,I.out.2⟩
    clear hs I;go_wp2_with fail;refine KR.out.mono ?_;rintro e w1 ⟨rfl,rfl⟩;go_wp2;go_roundg (l.length - k)
    case measure=>omega
    case rel=>exact ⟨k+1,by omega,by go_num,by omega,J⟩
  ·obtain rfl:k=l.length:=jO
   have h:=I.out;rw [List.take_length] at h;have H:=jH h;clear h I;go_wp2;go_ret2;exact ⟨_,rfl,H.out.1,H.out.2⟩
theorem An7 (v:Value) (l:List Int) (n:Int) (w:World) (hl:Runes v l w) (hn:l.length<=10000) (hr:Ae l=true) (hn0:0<=n/\n<=1114112) :
  Calls prog 295 #[v,.int .i32 n] w λe w'=>(Puny.least n l 1114112 ≠ 1114112->e=.returned (.int .i32 (Puny.least n l 1114112)))/\Below w.heap.size w w':=by
 obtain ⟨A,c,rfl,-,hcell⟩:=hl.form;obtain ⟨n0,n1⟩:=hn0;have HC:=jH hcell;have HR:=jH hr;clear hl hcell hr;go_enter func295,ntmps295;go_wp2;go_loopg [5,7,10] (l.length+1) (λgk s5 _ i wr=>∃ (k:Nat) (m z:Int),k<=l.length/\i=.int .i64 k/\s5=.int .i32 m/\l.length - k<gk/\0<=z/\z<=1114112/\-1<=m/\(m<0->z=1114112)/\(0<=m->z=m)/\Hid (Puny.least n l 1114112=Puny.least n (l.drop k) z/\Below w.heap.size w wr))
 case atStart=>exact ⟨0,-1,1114112,Nat.zero_le _,rfl,rfl,by omega,by omega,by omega,by omega,λ_=>rfl,λh=>by omega,⟨rfl,jan _ _⟩⟩
 case round =>
  obtain ⟨k,m,z,hk,rfl,rfl,hg,z0,z1,m0,hm1,hm2,I⟩:=hrel;by_cases hlt:k<l.length
  ·obtain ⟨ad,rfl,hb,hx⟩:=HC.out k hlt;have hx':=(I.out.2.cell (by rw [Bf];exact hb)).trans hx;obtain ⟨x,hxe⟩:∃ x,x=l[k]!:=⟨_,rfl⟩
   have hrx:=Z9 hlt HR.out;rw [<- hxe] at hx' hrx;have hx0:=(An x).1 hrx;obtain ⟨x0,x1,-⟩:=hx0;have hd:l.drop k=x::l.drop (k+1):=by rw [hxe,getElem!_pos l k hlt];exact List.drop_eq_getElem_cons hlt
   have hL:Puny.least n l 1114112=Puny.least n (l.drop (k+1)) (if n<=x/\x<z then x else z):=by rw [I.out.1,hd,Puny.An8]
   have hkz:(k:Int)<(l.length:Int):=jO
   have BI:=jH I.out.2;have M1:=jH hm1;have M2:=jH hm2;clear hx hb hxe hrx hd I hm1 hm2;by_cases q1:n<=x
   ·by_cases q2:m<0
    ·have hz:=M1.out q2;rw [if_pos ⟨q1,by omega⟩] at hL;have I2:Hid (Puny.least n l 1114112=Puny.least n (l.drop (k+1)) x/\Below w.heap.size w wr):=⟨hL,BI.out⟩
     clear hL hz;go_wp2;go_roundg (l.length - k)
     case measure=>omega
     case rel=>exact ⟨k+1,x,x,by omega,by go_num,rfl,by omega,by omega,by omega,by omega,λh=>by omega,λ_=>rfl,I2⟩
    ·have hz:=M2.out jO;subst hz;by_cases q3:x<z
     ·rw [if_pos ⟨q1,q3⟩] at hL;have I2:Hid (Puny.least n l 1114112=Puny.least n (l.drop (k+1)) x/\Below w.heap.size w wr):=⟨hL,BI.out⟩
      clear hL;go_wp2;go_roundg (l.length - k)
      case measure=>omega
      case rel=>exact ⟨k+1,x,x,by omega,by go_num,rfl,by omega,by omega,by omega,by omega,λh=>by omega,λ_=>rfl,I2⟩
     ·rw [if_neg (λh=>q3 h.2)] at hL;have I2:Hid (Puny.least n l 1114112=Puny.least n (l.drop (k+1)) z/\Below w.heap.size w wr):=⟨hL,BI.out⟩
      clear hL;go_wp2;go_roundg (l.length - k)
      case measure=>omega
      case rel=>exact ⟨k+1,z,z,by omega,by go_num,rfl,by omega,by omega,by omega,by omega,λh=>by omega,λ_=>rfl,I2⟩
   ·rw [if_neg (λh=>q1 h.1)] at hL;have I2:Hid (Puny.least n l 1114112=Puny.least n (l.drop (k+1)) z/\Below w.heap.size w wr):=⟨hL,BI.out⟩
    clear hL;go_wp2;go_roundg (l.length - k)
    case measure=>omega
    case rel=>exact ⟨k+1,m,z,by omega,by go_num,rfl,by omega,by omega,by omega,by omega,M1.out,M2.out,I2⟩
  ·obtain rfl:k=l.length:=jO
   have h1:=I.out.1;rw [List.drop_length] at h1;have h1':Puny.least n l 1114112=z:=h1;have H1:=jH h1';have BI:=jH I.out.2;have M1:=jH hm1;have M2:=jH hm2;clear h1 h1' I hm1 hm2;go_wp2;go_ret;refine ⟨λhne=>?_,BI.out⟩;rw [H1.out] at hne ⊢;have:¬ m<0:=λh=>hne (M1.out h);rw [M2.out jO];rfl
end
section
open Go.RowKit Utf
def WAt (B:Nat) (v:Value) (p h d b:Int) (w:World):Prop:=w.heap[B]? = some (.cells #[v,.int .i64 p,.int .i64 h,.int .i64 d,.int .i64 b] 331 (0,0))
theorem WAt.lt {B:Nat} {v:Value} {p h d b:Int} {w:World} (H:WAt B v p h d b w):B<w.heap.size:=(Array.getElem?_eq_some_iff.1 H).1
theorem WAt.c0 {B:Nat} {v:Value} {p h d b:Int} {w:World} (H:WAt B v p h d b w):w.cell? ⟨B,0,none⟩=some v:=by unfold WAt at H;simp [World.cell?,H]
theorem WAt.c1 {B:Nat} {v:Value} {p h d b:Int} {w:World} (H:WAt B v p h d b w):w.cell? ⟨B,1,none⟩=some (.int .i64 p):=by unfold WAt at H;simp [World.cell?,H]
theorem WAt.c2 {B:Nat} {v:Value} {p h d b:Int} {w:World} (H:WAt B v p h d b w):w.cell? ⟨B,2,none⟩=some (.int .i64 h):=by unfold WAt at H;simp [World.cell?,H]
theorem WAt.c3 {B:Nat} {v:Value} {p h d b:Int} {w:World} (H:WAt B v p h d b w):w.cell? ⟨B,3,none⟩=some (.int .i64 d):=by unfold WAt at H;simp [World.cell?,H]
theorem WAt.c4 {B:Nat} {v:Value} {p h d b:Int} {w:World} (H:WAt B v p h d b w):w.cell? ⟨B,4,none⟩=some (.int .i64 b):=by unfold WAt at H;simp [World.cell?,H]
theorem WAt.fr {B:Nat} {v:Value} {p h d b:Int} {w:World} (H:WAt B v p h d b w) (k:Nat):w.frozen? ⟨B,k,none⟩=false:=by unfold WAt at H;simp [World.frozen?,H]
theorem WAt.A4m {B:Nat} {v:Value} {p h d b:Int} {w:World} (H:WAt B v p h d b w) (x:Value):WAt B x p h d b (w.setCell ⟨B,0,none⟩ x):=by
 unfold WAt at H ⊢;simp [World.setCell,Array.getElem?_modify,H]
theorem WAt.A4n {B:Nat} {v:Value} {p h d b:Int} {w:World} (H:WAt B v p h d b w) (x:Int):WAt B v p x d b (w.setCell ⟨B,2,none⟩ (.int .i64 x)):=by
 unfold WAt at H ⊢;simp [World.setCell,Array.getElem?_modify,H]
theorem WAt.Aae {B:Nat} {v:Value} {p h d b:Int} {w:World} (H:WAt B v p h d b w) (x:Int):WAt B v p h x b (w.setCell ⟨B,3,none⟩ (.int .i64 x)):=by
 unfold WAt at H ⊢;simp [World.setCell,Array.getElem?_modify,H]
theorem WAt.Awd {B:Nat} {v:Value} {p h d b:Int} {w:World} (H:WAt B v p h d b w) (x:Int):WAt B v p h d x (w.setCell ⟨B,4,none⟩ (.int .i64 x)):=by
 unfold WAt at H ⊢;simp [World.setCell,Array.getElem?_modify,H]
theorem WAt.A6w {B:Nat} {u v v':Value} {p h d b:Int} {w w':World} (H:WAt B u p h d b w) (hg:Cq v v' w w') (hne:some B ≠ v.ownBlock):WAt B u p h d b w':=(hg.block B H.lt hne).trans H
theorem Bu.set {base B:Nat} {v:Value} {bs:List UInt8} {w:World} (h:Bu base v bs w) (hne:some B ≠ v.ownBlock) (k:Nat) (x:Value):Bu base v bs (w.setCell ⟨B,k,none⟩ x):=by
 refine ⟨h.1,?_⟩;rcases h.2 with h0 | ⟨g,cap,cur,rfl,h1,hg,h2⟩
 ·exact .inl h0
 ·refine .inr ⟨g,cap,cur,rfl,h1,?_,h2⟩;rw [<- hg];exact Below.heap_setCell _ _ _ _ (λe=>hne (by rw [show (⟨B,k,none⟩:Addr).block=B from rfl] at e;rw [e];rfl))
structure Writer (base B:Nat) (bs:List UInt8) (p h:Nat) (d b:Int) (w:World):Prop where
 low:base<=B
 has:∃ v,Bu base v bs w/\some B ≠ v.ownBlock/\WAt B v p h d b w
theorem Writer.lt {base B:Nat} {bs:List UInt8} {p h:Nat} {d b:Int} {w:World} (H:Writer base B bs p h d b w):B<w.heap.size:=by
 obtain ⟨-,v,-,-,h⟩:=H;exact h.lt
theorem Writer.Aae {base B:Nat} {bs:List UInt8} {p h:Nat} {d b:Int} {w:World} (H:Writer base B bs p h d b w) (x:Int):Writer base B bs p h x b (w.setCell ⟨B,3,none⟩ (.int .i64 x)):=by
 obtain ⟨hl,v,h1,h2,h3⟩:=H;exact ⟨hl,v,h1.set h2 _ _,h2,h3.Aae x⟩
theorem Writer.Ac {base B:Nat} {bs:List UInt8} {p h:Nat} {d b:Int} {w w':World} (H:Writer base B bs p h d b w) (hb:Below w.heap.size w w'):Writer base B bs p h d b w':=by
 obtain ⟨hl,v,h1,h2,h3⟩:=H;exact ⟨hl,v,h1.Ac hb,h2,(hb.block B h3.lt).trans h3⟩
theorem Writer.drew {base B:Nat} {bs:List UInt8} {p h:Nat} {d b:Int} {w:World} (H:Writer base B bs p h d b w):Writer base B bs p h d b w.drew:=by
 obtain ⟨hl,v,h1,h2,h3⟩:=H;exact ⟨hl,v,h1,h2,h3⟩
theorem Bu.form {base:Nat} {v:Value} {l:List UInt8} {w:World} (h:Bu base v l w):∃ (A:Option Addr) (n c:Nat),v=.slice A n c:=by
 obtain ⟨A,c,h⟩:=h.shape;exact ⟨A,_,c,h⟩
def Qk (bs:List UInt8):List UInt8:=if bs.length=0 then [] else [45]
theorem Abr (base:Nat) (v:Value) (bs:List UInt8) (w:World) (ho:Bu base v bs w) (hbase:base<=w.heap.size) (hl:bs.length<=100000) :
  Calls prog 294 #[v] w λe w'=>e=.returned (.pointer (some ⟨w.heap.size,0,none⟩))/\Writer base w.heap.size (bs ++ Qk bs) bs.length bs.length 0 72 w'/\Below base w w':=by
 obtain ⟨A,c,rfl⟩:=ho.shape;have hund:=ho.under (jaa _);have HO:=jH ho;have HU:=jH hund;have HB:=jH hbase;have hat:WAt w.heap.size (.slice A bs.length c) bs.length bs.length 0 72 (w.alloc (.cells #[.slice A bs.length c,.int .i64 bs.length,.int .i64 bs.length,.int .i64 0,.int .i64 72] 331)):=heap_alloc_new w _;have HAT:=jH hat;clear ho hund hbase hat;by_cases h0:bs.length=0
 ·have hz:¬ (0:Int)<(bs.length:Int):=jO
  have hd:Qk bs=[]:=by unfold Qk;rw [if_pos h0]
  have HD:=jH hd;clear hd h0;go_enter func294,ntmps294;go_wp2;go_ret;refine ⟨rfl,⟨HB.out,_,?_,HU.out,HAT.out⟩,(jan _ _).alloc HB.out _⟩;rw [HD.out,List.append_nil];exact World.ownsRow.alloc HO.out _
 ·have hz:(0:Int)<(bs.length:Int):=jO
  have hd:Qk bs=[45]:=by unfold Qk;rw [if_neg h0]
  have HD:=jH hd;have hle:bs.length<=1000000:=jO
  clear hd h0;go_enter func294,ntmps294;go_wp2_with (at_builtin;refine Bw (w.alloc (.cells #[.slice A bs.length c,.int .i64 bs.length,.int .i64 bs.length,.int .i64 0,.int .i64 72] 331)) 45 5 (.int .u8 0) 1 underlying45 E4 rfl jO base _ _ _ (World.ownsRow.alloc HO.out _) (by simp;have:=HB.out;omega) hle 1 jO _ rfl rfl _ jS rfl _ _ rfl rfl rfl ?_;intro v3 w3 ho3 hg3;obtain ⟨A3,n3,c3,rfl⟩:=(Bu.more (ns:=[45]) ho3 rfl rfl).form;have HO3:=jH ho3;have HG3:=jH hg3;have hw3:=HAT.out.A6w hg3 HU.out;have HW3:=jH hw3;have g0:=hw3.c0;have gf:=hw3.fr 0;clear ho3 hg3 hw3);go_ret;have hown:=Bu.more (ns:=[45]) HO3.out rfl rfl;have hne:some w.heap.size ≠ (Value.slice A3 n3 c3).ownBlock:=λe=>by
   rcases HG3.out.place _ e.symm with h | h
   · exact HU.out h.symm
   · simp at h;omega
  refine ⟨rfl,⟨HB.out,_,?_,hne,HW3.out.A4m _⟩,?_⟩
  ·rw [HD.out];exact hown.set hne _ _
  ·have hb3:Below base (w.alloc (.cells #[.slice A bs.length c,.int .i64 bs.length,.int .i64 bs.length,.int .i64 0,.int .i64 72] 331)) w3:=HG3.out.below (by simp;have:=HB.out;omega) (λk hk=>HO.out.off k hk);exact (((jan _ _).alloc HB.out _).trans hb3).setCell (p:=⟨w.heap.size,0,none⟩) HB.out _
theorem Aou {base B n3 k3:Nat} {A3:Option Addr} {v:Value} {bs cs:List UInt8} {p h d b:Int} {w w3:World} (HO3:Bu base (.slice A3 n3 k3) cs w3) (HG3:Cq v (.slice A3 n3 k3) w.drew w3) (HO:Bu base v bs w) (HNE:some B ≠ v.ownBlock) (HAT:WAt B v p h d b w) (HB:base<=w.heap.size) (HLW:base<=B) (HW3:WAt B v p h d b w3) :
  Hid (∃ v3,Bu base v3 cs (w3.setCell ⟨B,0,none⟩ (.slice A3 n3 k3))/\some B ≠ v3.ownBlock/\WAt B v3 p h d b (w3.setCell ⟨B,0,none⟩ (.slice A3 n3 k3))/\Below base w (w3.setCell ⟨B,0,none⟩ (.slice A3 n3 k3))):=by
 have hne:some B ≠ (Value.slice A3 n3 k3).ownBlock:=λe=>by
  rcases HG3.place _ e.symm with h1 | h1
  ·exact HNE h1.symm
  ·have h2:=HAT.lt;have h3:w.heap.size<=B:=h1;omega
 have hb3:Below base w.drew w3:=HG3.below HB (λk hk=>HO.off k hk);have hb4:Below base w w3:=⟨hb3.os,hb3.tape,hb3.output,hb3.size,hb3.block⟩
 exact ⟨_,HO3.set hne _ _,hne,HW3.A4m _,hb4.setCell (p:=⟨B,0,none⟩) HLW _⟩
theorem Akj (base B:Nat) (bs:List UInt8) (p h:Nat) (d b:Int) (w:World) (hW:Writer base B bs p h d b w) (hbase:base<=w.heap.size) (hl:bs.length<=100000) (hh:h<=100000) (hd:0<=d/\d<=2147483647) (hb:0<=b/\b<=100000000000) :
  Calls prog 318 #[.pointer (some ⟨B,0,none⟩)] w λe w'=>e=.returned (.tuple #[])/\Writer base B (bs ++ Puny.Cc d 36 b) p (h+1) 0 (Puny.adapt d ((h:Int)+1) ((h:Int) == (p:Int))) w'/\Below base w w':=by
 obtain ⟨hlow,v,ho,hne,hat⟩:=hW;have c0:=hat.c0;have c1:=hat.c1;have c2:=hat.c2;have c3:=hat.c3;have c4:=hat.c4;have K1:=jH (Axe base v bs d b w.drew (show Bu base v bs w.drew from ho) hbase hl hd hb);have K2:=jH (λW=>Xt d ((h:Int)+1) ((h:Int) == (p:Int)) W hd jO);obtain ⟨d0,d1⟩:=hd;obtain ⟨b0,b1⟩:=hb;have HO:=jH ho;have HNE:=jH hne;have HAT:=jH hat;have HB:=jH hbase;have HLW:=jH hlow;obtain ⟨nb,hnb⟩:∃ nb,nb=Puny.adapt d ((h:Int)+1) ((h:Int) == (p:Int)):=⟨_,rfl⟩
 obtain ⟨dg,hdg⟩:∃ dg,dg=Puny.Cc d 36 b:=⟨_,rfl⟩
 rw [<- hnb] at K2 ⊢;rw [<- hdg] at K1 ⊢;clear ho hne hat hbase hlow hnb hdg;go_enter func318,ntmps318;go_upto_region 0 with (fail)
 go_cut [2] (λ_ wx=>Hid (∃ v3,Bu base v3 (bs ++ dg) wx/\some B ≠ v3.ownBlock/\WAt B v3 p h d b wx/\Below base w wx))
 case first =>
  go_region_with (go_at_call 340;(with_reducible refine K1.out.mono ?_);rintro e1 w3 ⟨v3,rfl,ho3,hg3⟩;obtain ⟨A3,n3,k3,rfl⟩:=ho3.form;have HO3:=jH ho3;have HG3:=jH hg3;have hw3:=HAT.out.A6w (w:=w.drew) hg3 HNE.out;have HW3:=jH hw3;have q0:=hw3.c0;have q3:=hw3.c3;have q4:=hw3.c4;have gf:=hw3.fr 0;clear ho3 hg3 hw3)
  all_goals
   go_wp2_with fail;go_meet;exact Aou HO3.out HG3.out HO.out HNE.out HAT.out HB.out HLW.out HW3.out
 case rest =>
  obtain ⟨v3,ho3,hne3,hw3,hb3⟩:=hcut.out;have HO3:=jH ho3;have HN3:=jH hne3;have HW3:=jH hw3;have HB3:=jH hb3;have q1:=hw3.c1;have q2:=hw3.c2;have q3:=hw3.c3;have q4:=hw3.c4;have qf:=hw3.fr 4;have qf3:=hw3.fr 3;have qf2:=hw3.fr 2;have hwrap:IntKind.i64.wrap ((h:Int)+1)=(h:Int)+1:=by rw [IntKind.wrap_i64];omega
  clear ho3 hne3 hw3 hb3 hcut c0 c1 c2 c3 c4;go_wp2;go_region_held3 (λw'=>w'.cell? ⟨B,1,none⟩=some (.int .i64 p)/\w'.cell? ⟨B,2,none⟩=some (.int .i64 h)/\w'.cell? ⟨B,3,none⟩=some (.int .i64 d)) (first | exact ⟨HW3.out.c1,HW3.out.c2,HW3.out.c3⟩ | exact ⟨(HW3.out.Awd nb).c1,(HW3.out.Awd nb).c2,(HW3.out.Awd nb).c3⟩) ((go_at_call 265;(with_reducible refine (K2.out _).mono ?_);rintro e1 w4 ⟨rfl,rfl⟩))
  go_wp2;go_end0;exact ⟨rfl,⟨HLW.out,v3,((HO3.out.set HN3.out _ _).set HN3.out _ _).set HN3.out _ _,HN3.out,((HW3.out.Awd nb).Aae 0).A4n _⟩,(((HB3.out.setCell (p:=⟨B,4,none⟩) HLW.out _).setCell (p:=⟨B,3,none⟩) HLW.out _).setCell (p:=⟨B,2,none⟩) HLW.out _).drew⟩
end
section
open Go.RowKit Utf
def A2p (base B:Nat) (p:Nat) (l ms:List Int) (m:Int) (X:List UInt8) (w:World) (e:Ending) (w':World):Prop :=
 ∃ (bs:List UInt8) (h:Nat) (d b:Int),e=.returned (.tuple #[])/\Writer base B bs p h d b w'/\Below base w w'/\h=(Puny.lt (m+1) l).length/\X=bs ++ Puny.Da (Puny.rows l ms (m+1) (d+1)) b h ((h:Int) == (p:Int))/\0<=d/\d<=520/\0<=b/\b<=5000000000/\bs.length<=200+40*h
theorem A4j (w0:World) (B:Nat) (v:Value) (l ms:List Int) (m:Int) (X bs:List UInt8) (p h:Nat) (d b:Int) (w:World) (hl:Runes v l w0) (hB:Below w0.heap.size w0 w) (hn:l.length<=520)
  (hW:Writer w0.heap.size B bs p h d b w) (hm:0<=m/\m<=1114111) (hph:p<=h) (hh:h=(Puny.lt m l).length) (hlow:h<(Puny.lt (m+1) l).length) (hd:0<=d/\d<=700000000) (hb:0<=b/\b<=5000000000) (hbs:bs.length<=200+40*h)
  (hX:X=bs ++ Puny.Da (Puny.Fs l ms m l d) b h ((h:Int) == (p:Int))) :
  Calls prog 296 #[.pointer (some ⟨B,0,none⟩),v,.int .i32 m] w (A2p w0.heap.size B p l ms m X w):=by
 obtain ⟨A,c,rfl,-,hcell⟩:=hl.form;have HC:=jH hcell;have HX:=jH hX;have HW:=jH hW;have HB:=jH hB;have HH:=jH hh;have HLOW:=jH hlow;have HD:=jH hd;have HBB:=jH hb;have HBS:=jH hbs;have hhl:h<=520:=by have:=Puny.Uu m l;omega
 obtain ⟨m0,m1⟩:=hm;clear hl hcell hX hW hB hh hlow hd hb hbs;go_enter func296,ntmps296;go_wp2;go_loopg [7,10] (l.length+1) (λgk _ i wr=>∃ k:Nat,k<=l.length/\i=.int .i64 k/\l.length - k<gk /\
  Hid (∃ (bs':List UInt8) (h':Nat) (d' b':Int),Writer w0.heap.size B bs' p h' d' b' wr/\Below w0.heap.size w wr/\h'=(Puny.le m (l.take k)).length+(Puny.lt m (l.drop k)).length/\X=bs' ++ Puny.Da (Puny.Fs l ms m (l.drop k) d') b' h' ((h':Int) == (p:Int))/\0<=d'/\d'<=700000000+k/\(h<h'->d'<=k)/\0<=b'/\b'<=5000000000/\bs'.length<=200+40*h'/\h<=h'))
 case atStart=>exact ⟨0,Nat.zero_le _,rfl,by omega,⟨bs,h,d,b,HW.out,jan _ _,by rw [HH.out];simp [Puny.le],HX.out,HD.out.1,by have:=HD.out.2;omega,λh=>by omega,HBB.out.1,HBB.out.2,HBS.out,jaa _⟩⟩
 case round =>
  obtain ⟨k,hk,rfl,hg,I⟩:=hrel;obtain ⟨bs',h',d',b',i1,i2,i3,i4,d0,d1,d2,b0,b1,i5,i6⟩:=I.out;have HW2:=jH i1;have BI:=jH i2;have I5:=jH i5;have D2:=jH d2;obtain ⟨v1,ho1,hne1,hat1⟩:=i1.has;have e3:=hat1.c3;have f3:=hat1.fr 3;clear ho1 hne1 hat1 i1 i2 I i5 d2;by_cases hlt:k<l.length
  ·obtain ⟨ad,rfl,hbk,hx⟩:=HC.out k hlt;have hx':=((HB.out.trans BI.out).cell (by rw [Bf];exact hbk)).trans hx;obtain ⟨x,hxe⟩:∃ x,x=l[k]!:=⟨_,rfl⟩
   rw [<- hxe] at hx';have ht:l.take (k+1)=l.take k ++ [x]:=by rw [Utf.Jj l k hlt,<- hxe]
   have hdr:l.drop k=x::l.drop (k+1):=by rw [hxe,getElem!_pos l k hlt];exact List.drop_eq_getElem_cons hlt
   have hle:Puny.le m (l.take (k+1))=if x<=m then Puny.le m (l.take k) ++ [x] else Puny.le m (l.take k):=by rw [ht,Puny.Xa]
   have hkz:(k:Int)<(l.length:Int):=jO
   rw [hdr,Puny.Ia] at i3;rw [hdr] at i4;clear hx hbk hxe ht hdr;rcases (show x<m\/x=m\/m<x by omega) with hc | hc | hc
   ·rw [if_pos hc] at i3;rw [if_pos jO] at hle;rw [Puny.Avq hc] at i4;have J2:Hid (Writer w0.heap.size B bs' p h' (d'+1) b' (wr.setCell ⟨B,3,none⟩ (.int .i64 (d'+1)))/\Below w0.heap.size w (wr.setCell ⟨B,3,none⟩ (.int .i64 (d'+1)))/\h'=(Puny.le m (l.take (k+1))).length+(Puny.lt m (l.drop (k+1))).length/\X=bs' ++ Puny.Da (Puny.Fs l ms m (l.drop (k+1)) (d'+1)) b' h' ((h':Int) == (p:Int))) :=
     ⟨HW2.out.Aae _,BI.out.setCell (p:=⟨B,3,none⟩) HW2.out.low _,by rw [hle,jab];simp only [jac,List.length_nil] at i3 ⊢;omega,i4⟩
    clear i3 i4 hle;go_wp2;go_roundg (l.length - k)
    case measure=>omega
    case rel=>exact ⟨k+1,by omega,by go_num,by omega,⟨bs',h',d'+1,b',J2.out.1,J2.out.2.1,J2.out.2.2.1,J2.out.2.2.2,by omega,by omega,λhq=>by have:=D2.out hq;omega,b0,b1,I5.out,i6⟩⟩
   ·subst hc;rw [if_neg jO] at i3;rw [if_pos jO] at hle;rw [Puny.Avs,Puny.Aen] at i4;have h1l:=Puny.A57 x (l.take (k+1));have h2l:=Puny.Uu x (l.drop (k+1));rw [jak] at h1l;rw [jaj] at h2l;have hh5:h'+1=(Puny.le x (l.take (k+1))).length+(Puny.lt x (l.drop (k+1))).length:=by rw [hle,jab];simp only [jac,List.length_nil];omega
    have hh6:h'+1<=l.length:=jO
    have hI5:=I5.out;have KN:=jH (Akj w0.heap.size B bs' p h' d' b' wr HW2.out (Nat.le_trans HB.out.size BI.out.size) jO jO jO jO);obtain ⟨n1,n2⟩:=Puny.Ahr (delta:=d') (count:=(h':Int)+1) ((h':Int) == (p:Int)) jO jO;have hds:=Puny.Pt (n:=d') 36 b' jO;obtain ⟨nb,hnb⟩:∃ nb,nb=Puny.adapt d' ((h':Int)+1) ((h':Int) == (p:Int)):=⟨_,rfl⟩
    obtain ⟨dg,hdg⟩:∃ dg,dg=Puny.Cc d' 36 b':=⟨_,rfl⟩
    rw [<- hnb] at KN n1 n2 i4;rw [<- hdg] at KN hds i4;have hfl:(((h'+1:Nat):Int) == (p:Int))=false:=by rw [beq_eq_false_iff_ne];omega
    have J2:Hid (h'+1=(Puny.le x (l.take (k+1))).length+(Puny.lt x (l.drop (k+1))).length/\X=(bs' ++ dg) ++ Puny.Da (Puny.Fs l ms x (l.drop (k+1)) 0) nb ((h'+1:Nat):Int) (((h'+1:Nat):Int) == (p:Int))/\(bs' ++ dg).length<=200+40*(h'+1)) :=
     ⟨hh5,by rw [i4,hfl,jaq];rfl,by rw [jab];omega⟩
    clear i3 i4 hle h1l h2l hh5 hfl hI5 hds hnb hdg;go_wp2_with fail;with_reducible refine KN.out.mono ?_
    rintro e9 w3 ⟨rfl,hw9,hb9⟩;have HW9:=jH hw9;have HB9:=jH hb9;clear hw9 hb9 KN;go_wp2;go_roundg (l.length - k)
    case measure=>omega
    case rel=>exact ⟨k+1,by omega,by go_num,by omega,⟨bs' ++ dg,h'+1,0,nb,HW9.out,BI.out.trans HB9.out,J2.out.1,J2.out.2.1,by omega,by omega,λ_=>by omega,n1,n2,J2.out.2.2,by omega⟩⟩
   ·rw [if_neg jO] at i3 hle;rw [Puny.Avr hc] at i4;have J2:Hid (h'=(Puny.le m (l.take (k+1))).length+(Puny.lt m (l.drop (k+1))).length/\X=bs' ++ Puny.Da (Puny.Fs l ms m (l.drop (k+1)) d') b' h' ((h':Int) == (p:Int))):=⟨by rw [hle];exact i3,i4⟩
    have hxne:(x == m)=false:=by rw [beq_eq_false_iff_ne];omega
    have hxl:¬ x<m:=jO
    clear i3 i4 hle;go_wp2;go_roundg (l.length - k)
    case measure=>omega
    case rel=>exact ⟨k+1,by omega,by go_num,by omega,⟨bs',h',d',b',HW2.out,BI.out,J2.out.1,J2.out.2,d0,by omega,λhq=>by have:=D2.out hq;omega,b0,b1,I5.out,i6⟩⟩
  ·obtain rfl:k=l.length:=jO
   rw [List.take_length,List.drop_length] at i3;rw [List.drop_length,Puny.A09] at i4;have hh3:h'=(Puny.lt (m+1) l).length:=by rw [i3,Puny.lt_next];rfl
   have hlow2:h<h':=by rw [hh3];exact HLOW.out
   have he5:=D2.out hlow2;have R:Hid (h'=(Puny.lt (m+1) l).length/\X=bs' ++ Puny.Da (Puny.rows l ms (m+1) (d'+1)) b' h' ((h':Int) == (p:Int))):=⟨hh3,i4⟩
   clear i3 i4 hh3;go_wp2;go_end0;exact ⟨bs',h',d',b',rfl,HW2.out,BI.out,R.out.1,R.out.2,d0,by omega,b0,b1,I5.out⟩
end
section
open Go.RowKit Utf
theorem As6 (l:List Int):Qk (Puny.Bg l)=Puny.La l:=by
 unfold Qk Puny.La Puny.Bg;rw [jai]
theorem Aiz (v:Value) (l:List Int) (w:World) (hl:Runes v l w) (hn:l.length<=520) (hr:Ae l=true) :
  Calls prog 261 #[v] w λe w'=>Axn (Puny.Bq l) true w e w'/\(Puny.Bq l).length<=200+40*l.length:=by
 have K:=jH (Ak0 v l w hl jO hr);have HRU:=jH hl;obtain ⟨A,c,rfl,-,-⟩:=hl.form;have HR:=jH hr;have LT:=jH (Ew hr);clear hl hr;go_enter func261,ntmps261;go_wp2_with fail;refine K.out.mono ?_;rintro e w1 ⟨v1,rfl,ho1,hb1⟩;have hpl:=Zz l;have hpq:(Puny.Bg l).length=(Puny.lt 128 l).length:=by unfold Puny.Bg;rw [jai]
 have K2:=Abr w.heap.size v1 (Puny.Bg l) w1 ho1 hb1.size jO;have B1:=jH hb1;rw [As6] at K2;obtain ⟨q,hq⟩:∃ q,q=(Puny.Bg l).length:=⟨_,rfl⟩
 rw [<- hq] at K2 hpl hpq;have HK2:=jH K2;have HPQ:=jH hpq;have HQ:=jH hq;clear K K2 hpq hq hb1 ho1;go_wp2_with fail;refine HK2.out.mono ?_;rintro e w2 ⟨rfl,hw2,hb2⟩;obtain ⟨B,hBe⟩:∃ B,B=w1.heap.size:=⟨_,rfl⟩
 rw [<- hBe] at hw2 ⊢;have HW2:=jH hw2;have B2:=jH (B1.out.trans hb2);clear hBe hw2 hb2 HK2;go_wp2;go_loopg [7,8] (l.length+1) (λgk s7 _ wr=>∃ n:Int,s7=.int .i32 n/\128<=n/\n<=1114112 /\
  Hid (∃ (bs:List UInt8) (h f:Nat) (d b:Int),Writer w.heap.size B bs q h d b wr/\Below w.heap.size w wr/\q<=h/\h<=l.length/\l.length - h<gk/\l.length - h<=f/\h=(Puny.lt n l).length/\Puny.Bq l=bs ++ Puny.Da (Puny.rows l (Puny.msF f l n) n d) b h ((h:Int) == (q:Int))/\0<=d/\d<=521/\0<=b/\b<=5000000000/\bs.length<=200+40*h))
 case atStart =>
  refine ⟨128,rfl,by omega,by omega,⟨_,q,l.length,0,72,HW2.out,B2.out,jaa _,by omega,by omega,by omega,HPQ.out,?_,by omega,by omega,by omega,by omega,?_⟩⟩
  ·rw [beq_self_eq_true,HPQ.out];rfl
  ·rw [jab];have h1:=HQ.out;have h2:(Puny.La l).length<=1:=by unfold Puny.La;split<;>simp
   omega
 case round =>
  obtain ⟨n,rfl,n0,n1,I⟩:=hrel;obtain ⟨bs,h,f,d,b,i1,i2,hqh,hhl,hg,hf,i3,i4,d0,d1,b0,b1,i5⟩:=I.out;have HW:=jH i1;have BI:=jH i2;have I5:=jH i5;obtain ⟨v3,ho3,hne3,hat3⟩:=i1.has;have e0:=hat3.c0;have e2:=hat3.c2;have e3:=hat3.c3;have f3:=hat3.fr 3;have HO3:=jH ho3;have HN3:=jH hne3;have HA3:=jH hat3;clear ho3 hne3 hat3 i1 i2 i5 I;by_cases hlt:h<l.length
  ·have hne:(Puny.lt n l).length ≠ l.length:=jO
   obtain ⟨f,rfl⟩:∃ f',f=f'+1:=⟨f - 1,by omega⟩
   obtain ⟨m1,m2,m3⟩:=Puny.Ajp LT.out hne;have hmx:=LT.out _ m1;have hlow:=Puny.Ny m2 l m1;have hls:=Puny.Arp m2 m3;have hnl:Puny.least n l 1114112 ≠ 1114112:=jO
   have KL:=An7 (.slice A l.length c) l n wr (HRU.out.Ac BI.out) jO HR.out jO;rw [Puny.Az7 hne,Puny.Apg] at i4;obtain ⟨m,hme⟩:∃ m,Puny.least n l 1114112=m:=⟨_,rfl⟩
   rw [hme] at m2 hmx hlow hls i4 KL hnl;obtain ⟨P,hP⟩:∃ P,(m - n)*((h:Int)+1)=P:=⟨_,rfl⟩
   rw [<- i3,hP] at i4;have hP0:0<=P:=by rw [<- hP];exact Int.mul_nonneg jO jO
   have hP1:P<=580452352:=by
    rw [<- hP];have a1:(m - n)*((h:Int)+1)<=(m - n)*521:=Int.mul_le_mul_of_nonneg_left jO jO;omega
   have KL2:Calls prog 295 #[.slice A l.length c,.int .i32 n] wr λe w'=>e=.returned (.int .i32 m)/\Below wr.heap.size wr w':=KL.mono λe w' hh=>⟨hh.1 hnl,hh.2⟩
   have HKL:=jH KL2;have HLOW:=jH (show h<(Puny.lt (m+1) l).length by omega);have HLS:=jH (show h=(Puny.lt m l).length by rw [hls];exact i3);have HEQ:=jH i4;have hlz:(h:Int)<(l.length:Int):=jO
   have hmn:0<=m - n:=jO
   have hmn2:m - n<=1114111:=jO
   have hw1:IntKind.i64.wrap ((h:Int)+1)=(h:Int)+1:=by rw [IntKind.wrap_i64];omega
   have hw2:IntKind.i32.wrap (m - n)=m - n:=by rw [IntKind.wrap_i32];omega
   have hw3:IntKind.i64.wrap (m - n)=m - n:=by rw [IntKind.wrap_i64];omega
   have hw4:IntKind.i64.wrap P=P:=by rw [IntKind.wrap_i64];omega
   have hw5:IntKind.i64.wrap (d+P)=d+P:=by rw [IntKind.wrap_i64];omega
   clear hne m1 m3 hlow hls i3 i4 hme KL KL2 hnl;go_wp2_with fail;refine HKL.out.mono ?_;rintro e w4 ⟨rfl,hb4⟩;have B4:=jH (BI.out.trans (hb4.mono BI.out.size));have hW4:=HW.out.Ac hb4;have HW4:=jH hW4;obtain ⟨v5,ho5,hne5,hat5⟩:=hW4.has;have g2:=hat5.c2;have g3:=hat5.c3;have gf:=hat5.fr 3;clear e0 e2 e3 f3 HO3 HN3 HA3 hW4 hb4 ho5 hne5 hat5 HKL HW;go_wp2;go_region;have KR:=jH (A4j w B (.slice A l.length c) l (Puny.msF f l (m+1)) m (Puny.Bq l) bs q h (d+P) b ((w4.setCell ⟨B,3,none⟩ (.int .i64 (d+P))).drew) HRU.out (B4.out.setCell (p:=⟨B,3,none⟩) HW4.out.low _).drew hn (HW4.out.Aae (d+P)).drew jO hqh HLS.out HLOW.out jO jO I5.out HEQ.out);have hsm:¬ 2147483647<d+P:=jO
   go_wp2_with fail;with_reducible refine KR.out.mono ?_
   rintro e w6 ⟨bs',h',d',b',rfl,hw6,hb6,j1,j2,j3,j4,j5,j6,j7⟩;have HW6:=jH hw6;have B6:=jH ((B4.out.setCell (p:=⟨B,3,none⟩) HW4.out.low (.int .i64 (d+P))).drew.trans hb6);have J1:=jH j1;have J2:=jH j2;have J7:=jH j7;have hh':h<h':=by rw [j1];exact HLOW.out
   have hhl':h'<=l.length:=by rw [j1];exact Puny.Uu _ _
   obtain ⟨v7,ho7,hne7,hat7⟩:=hw6.has;have k3:=hat7.c3;have kf:=hat7.fr 3;clear hw6 hb6 j1 j2 j7 ho7 hne7 hat7 KR;go_wp2;go_roundg (l.length - h)
   case measure=>omega
   case rel=>exact ⟨m+1,rfl,by omega,by omega,⟨bs',h',f,d'+1,b',HW6.out.Aae _,B6.out.setCell (p:=⟨B,3,none⟩) HW6.out.low _,by omega,hhl',by omega,by omega,J1.out,J2.out,by omega,by omega,j5,j6,J7.out⟩⟩
  ·obtain rfl:h=l.length:=jO
   have R:=jH (show Puny.Bq l=bs by rw [i4,Puny.Az6 i3.symm];show bs ++ []=_;rw [List.append_nil]);have hcv:=Hr HO3.out.bytes;clear i3 i4;go_wp2;go_ret2;refine ⟨⟨?_,BI.out⟩,by rw [R.out];exact I5.out⟩;rw [R.out];rfl
theorem Ai0 (v:Value) (l:List Int) (w:World) (hl:Runes v l w) (hn:l.length<=520) (hr:Ae l=true) :
 Calls prog 261 #[v] w (Axn (Puny.Bq l) true w):=(Aiz v l w hl hn hr).mono λ_ _ h=>h.1
end
section
open Go.RowKit Utf
namespace Puny
theorem As4 {bs:List UInt8} {k:Nat} (h:k<bs.length) (h1:(bs[k]).toNat=45) (h2:∀ c ∈ bs.drop (k+1),c.toNat ≠ 45):Bh bs=k:=by
 have e:bs=bs.take k ++ (bs[k]::bs.drop (k+1)):=by rw [<- List.drop_eq_getElem_cons h,List.take_append_drop]
 unfold Bh;rw [e,F2,Cb,Ie _ _ _ h2,if_pos h1,jak];omega
theorem As5 {bs:List UInt8} (h:∀ c ∈ bs,c.toNat ≠ 45):Bh bs=0:=Ie _ _ _ h
end Puny
def Ahm (bs:List UInt8) (w:World) (e:Ending) (w':World):Prop:=∃ r:Int,e=.returned (.int .i64 r)/\w=w'/\((r<=0/\Puny.Bh bs=0)\/(0<r/\r=Puny.Bh bs))
theorem Af4 (s:ByteArray) (w:World) (hs:s.size<=1000000):Calls prog 319 #[.string s,.int .u8 45] w (Ahm s.data.toList w):=by
 go_enter func319,ntmps319;go_wp2;go_loopg [5] (s.size+1) (λgk i wr=>∃ k:Nat,k<=s.size/\i=.int .i64 ((k:Int) - 1)/\k<gk/\Hid ((∀ c ∈ s.data.toList.drop k,c.toNat ≠ 45)/\w=wr))
 case atStart=>exact ⟨s.size,jaa _,rfl,by omega,⟨(λc hc=>by rw [List.drop_of_length_le jS] at hc;cases hc),rfl⟩⟩
 case round =>
  obtain ⟨k,hk,rfl,hg,I⟩:=hrel;rcases Nat.eq_zero_or_pos k with h0 | h0
  ·subst h0;go_wp2;go_ret;exact ⟨-1,rfl,I.out.2,.inl ⟨by decide,Puny.As5 I.out.1⟩⟩
  ·obtain ⟨j,rfl⟩:∃ j,k=j+1:=⟨k - 1,by omega⟩
   have hj:j<s.size:=jO
   have hjz:(j:Int)<(s.size:Int):=jO
   have hD:=As s j hj;have e:(((j+1:Nat):Int) - 1)=(j:Int):=jO
   rw [e];clear e;have hub:s[j].toNat<256:=s[j].toNat_lt;by_cases hc:s[j].toNat=45
   ·have hz:((s[j].toNat:Int) == 45)=true:=by simp;omega
    have HC:=jH (Puny.As4 (bs:=s.data.toList) (k:=j) (by simpa using hj) hc I.out.1);have HW:=jH I.out.2;clear hc hD I;go_wp2;go_ret;refine ⟨j,rfl,HW.out,?_⟩;have:=HC.out;omega
   ·have hz:((s[j].toNat:Int) == 45)=false:=by simp;omega
    have J:Hid ((∀ c ∈ s.data.toList.drop j,c.toNat ≠ 45)/\w=wr):=by
     refine ⟨λc hcm=>?_,I.out.2⟩;rw [hD] at hcm;rcases jal.1 hcm with rfl | hcm
     · exact hc
     · exact I.out.1 c hcm
    clear hc hD I;go_wp2;go_roundg (j+1)
    case measure=>omega
    case rel=>exact ⟨j,by omega,rfl,by omega,J⟩
theorem Abq (s:ByteArray) (w:World) (hs:s.size<=1000000):Calls prog 297 #[.string s,.int .u8 45] w (Ahm s.data.toList w):=by
 have K:=jH (Af4 s w hs);go_enter func297,ntmps297;go_wp2_with fail;refine K.out.mono ?_;rintro e w1 ⟨r,rfl,rfl,h⟩;have H:=jH h;clear h;go_wp2;go_ret;exact ⟨r,rfl,rfl,H.out⟩
def Amf (s:ByteArray) (w:World) (e:Ending) (w':World):Prop:=∃ a b:ByteArray,e=.returned (.tuple #[.string a,.string b])/\Below w.heap.size w w'/\a.data.toList=s.data.toList.take (Puny.Bh s.data.toList)/\b.data.toList=s.data.toList.drop (Puny.D5 s.data.toList)
theorem R8 (s:ByteArray) (k:Nat):(s.extract 0 k).data.toList=s.data.toList.take k:=by
 rw [ByteArray.data_extract,Array.toList_extract,List.extract_eq_take_drop,List.drop_zero,Nat.sub_zero]
theorem Anv (s:ByteArray) (w:World) (hs:s.size<=1000000):Calls prog 263 #[.string s] w (Amf s w):=by
 have K:=jH (Abq s w hs);go_enter func263,ntmps263;go_wp2_with fail;refine K.out.mono ?_;rintro e w1 ⟨r,rfl,rfl,h⟩;clear K;rcases h with ⟨h0,h1⟩ | ⟨h0,h1⟩
 ·have H1:=jH h1;clear h1;go_wp2;go_ret2;refine ⟨_,_,rfl,jan _ _,?_,?_⟩
  ·rw [H1.out];rfl
  ·unfold Puny.D5;rw [if_pos H1.out,List.drop_zero]
 ·have hl:=Puny.K9 s.data.toList;obtain ⟨k,hk⟩:∃ k,k=Puny.Bh s.data.toList:=⟨_,rfl⟩
  rw [<- hk] at hl h1;subst h1;have hks:k<s.size:=by
   have:k=0\/k<s.size:=by simpa using hl
   omega
  have hkz:(k:Int)<(s.size:Int):=jO
  have hw1:IntKind.i64.wrap ((k:Int)+1)=(k:Int)+1:=by rw [IntKind.wrap_i64];omega
  have HK:=jH hk;clear hk hl;go_wp2;go_region;go_wp2;go_ret2;refine ⟨_,_,rfl,(jan _ _).drew,?_,?_⟩
  ·rw [<- HK.out];exact R8 s k
  ·unfold Puny.D5;rw [<- HK.out,if_neg jO];exact extract_drop s (k+1)
theorem A04 (s:ByteArray) (b:Int) (w:World) (hs:s.size<=100000) (hb:0<=b/\b<=100000000000) :
  Calls prog 264 #[.string s,.int .i64 b] w λe w'=>e=.returned (Puny.Aot (Puny.Io b s.data.toList 36 1 0 0))/\w=w':=by
 obtain ⟨b0,b1⟩:=hb;go_enter func264,ntmps264;go_wp2;refine G7 0 rfl ?_;go_wp2;go_loopg [6,7,8,9,10,11,14] (s.size+1) (λgk s6 s7 _ _ _ _ s14 wr=>∃ (k:Nat) (sum x:Int),s6=.int .i64 sum/\s7=.int .i64 x/\s14=.int .i64 k/\k<=s.size/\0<=sum/\sum<=2147483647/\1<=x/\x<=75161927645/\s.size - k<gk/\Hid (Puny.Io b s.data.toList 36 1 0 0=Puny.Io b (s.data.toList.drop k) (36*((k:Int)+1)) x sum k/\w=wr))
 case atStart=>exact ⟨0,0,1,rfl,rfl,rfl,Nat.zero_le _,by omega,by omega,by omega,by omega,by omega,⟨rfl,rfl⟩⟩
 case round =>
  obtain ⟨k,sum,x,rfl,rfl,rfl,hk,hs0,hs1,hx0,hx1,hg,I⟩:=hrel;by_cases hlt:k<s.size
  ·have hkz:(k:Int)<(s.size:Int):=jO
   have hd:=As s k hlt;have hub:s[k].toNat<256:=s[k].toNat_lt;have KV:=jH (Ap6 (s[k].toNat:Int) wr jO);have hN:=I.out.1;rw [hd,Puny.Io,show Puny.Ep s[k]=(s[k].toNat:Int) from rfl] at hN;have HW:=jH I.out.2;clear I hd hub;cases hv:Puny.valOf (s[k].toNat:Int) with
   | none =>
    rw [hv] at KV hN;simp only at hN;have R:=jH hN;clear hv hN;go_wp2_with fail;refine KV.out.mono ?_;rintro e w1 ⟨rfl,rfl⟩;simp only [Option.getD_none,Option.isSome_none];go_wp2;go_step3;refine ⟨rfl,?_⟩;go_wp2;rw [Exit.noGoto_ret];go_ret2;exact ⟨by rw [R.out];rfl,HW.out⟩
   | some d =>
    obtain ⟨d0,d1⟩:=Puny.Aaz hv;rw [hv] at KV hN;simp only at hN;clear hv;by_cases hxl:2147483647<x
    ·rw [if_pos (.inl hxl)] at hN;have R:=jH hN;clear hN;go_wp2_with fail;refine KV.out.mono ?_;rintro e w1 ⟨rfl,rfl⟩;simp only [Option.getD_some,Option.isSome_some];go_wp2;go_step3;refine ⟨rfl,?_⟩;go_wp2;rw [Exit.noGoto_ret];go_ret2;exact ⟨by rw [R.out];rfl,HW.out⟩
    ·have hxl':x<=2147483647:=jO
     have hP0:0<=d*x:=Int.mul_nonneg d0 jO;have hP1:d*x<=75161927645:=by
      have a1:d*x<=35*x:=Int.mul_le_mul_of_nonneg_right d1 jO;omega
     obtain ⟨P,hP⟩:∃ P,d*x=P:=⟨_,rfl⟩
     rw [hP] at hP0 hP1 hN;by_cases hsl:2147483647<sum+P
     ·rw [if_pos (.inr hsl)] at hN;have R:=jH hN;clear hN;go_wp2_with fail;refine KV.out.mono ?_;rintro e w1 ⟨rfl,rfl⟩;simp only [Option.getD_some,Option.isSome_some];go_wp2;go_step3;refine ⟨rfl,?_⟩;go_wp2;rw [Exit.noGoto_ret];go_ret2;exact ⟨by rw [R.out];rfl,HW.out⟩
     ·rw [if_neg (show ¬ (Puny.Fp<x\/Puny.Fp<sum+P) by unfold Puny.Fp;omega)] at hN;have KT:=jH (λW=>Aaw (36*((k:Int)+1)) b W jO);have htb:=Puny.Kv (36*((k:Int)+1)) b;generalize Puny.thr (36*((k:Int)+1)) b=t at KT htb hN;obtain ⟨t0,t1⟩:=htb;have hsl':sum+P<=2147483647:=jO
      by_cases hdt:d<t
      ·rw [if_pos hdt] at hN;have R:=jH hN;clear hN hxl hsl;go_wp2_with fail;refine KV.out.mono ?_;rintro e w1 ⟨rfl,rfl⟩;simp only [Option.getD_some,Option.isSome_some];go_wp2_with fail;refine (KT.out _).mono ?_;rintro e w2 ⟨rfl,rfl⟩;go_wp2;rw [Sg];go_ret2;exact ⟨by rw [R.out];rfl,HW.out⟩
      ·rw [if_neg hdt] at hN;have hQ0:1<=x*(36 - t):=Int.mul_pos jO jO;have hQ1:x*(36 - t)<=75161927645:=by
        have a1:x*(36 - t)<=x*35:=Int.mul_le_mul_of_nonneg_left jO jO;omega
       obtain ⟨Q,hQ⟩:∃ Q,x*(36 - t)=Q:=⟨_,rfl⟩
       rw [hQ] at hQ0 hQ1 hN;have R:Hid (Puny.Io b s.data.toList 36 1 0 0=Puny.Io b (s.data.toList.drop (k+1)) (36*(((k+1:Nat):Int)+1)) Q (sum+P) (k+1)/\w=wr):=⟨by rw [hN,show 36*((k:Int)+1)+36=36*(((k+1:Nat):Int)+1) by omega],HW.out⟩
       clear hN hxl hsl;go_wp2_with fail;refine KV.out.mono ?_;rintro e w1 ⟨rfl,rfl⟩;simp only [Option.getD_some,Option.isSome_some];go_wp2_with fail;refine (KT.out _).mono ?_;rintro e w2 ⟨rfl,rfl⟩;go_wp2;go_roundg (s.size - k)
       case measure=>omega
       case rel=>exact ⟨k+1,sum+P,Q,rfl,rfl,by go_num,by omega,by omega,by omega,by omega,by omega,by omega,R⟩
  ·obtain rfl:k=s.size:=jO
   have R:=jH (show Puny.Io b s.data.toList 36 1 0 0=none by rw [I.out.1,List.drop_of_length_le jS];rfl);go_wp2;refine wp_label ?_;go_wp2;rw [Sg];go_ret2;exact ⟨by rw [R.out];rfl,I.out.2⟩
end
