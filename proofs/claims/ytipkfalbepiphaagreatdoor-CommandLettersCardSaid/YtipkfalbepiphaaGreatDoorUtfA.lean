import Derived.Test.YtipkfalbepiphaaGreatDoorUtfRow
set_option maxRecDepth 100000
set_option maxHeartbeats 4000000
namespace Go.Proofs.YtipkfalbepiphaaGreatDoor
open Tryz
section
open Go.RowKit
namespace Utf
def Aj (r:Int):Bool:=decide (0<=r) && right r.toNat
def J8 (r:Int):Nat:=if Aj r then lenOf r.toNat else 0
theorem An (r:Int):Aj r=true ↔ 0<=r/\r<=1114111/\(r<55296\/57343<r):=by
 unfold Aj;rw [jag,Dw,decide_eq_true_eq];omega
theorem U7 {r:Int} (h:¬ (0<=r/\r<=1114111/\(r<55296\/57343<r))):Aj r=false:=by
 cases e:Aj r with
 | false=>rfl
 | true=>exact absurd ((An r).1 e) h
end Utf
open Utf
theorem Lj (r:Int) (w:World):Calls prog 151 #[.int .i32 r] w λe w'=>e=.returned (.bool (Aj r))/\w=w':=by
 rcases (show r<0\/(0<=r/\r<55296)\/(55296<=r/\r<=57343)\/(57343<r/\r<=1114111)\/1114111<r by omega) with h | ⟨h1,h2⟩ | ⟨h1,h2⟩ | ⟨h1,h2⟩ | h
 ·rw [U7 jO];go_enter func151,ntmps151;go_wp2;go_ret;exact ⟨rfl,rfl⟩
 ·rw [(An r).2 jO];have h3:r<=1114111:=jO
  go_enter func151,ntmps151;go_wp2;go_ret;exact ⟨rfl,rfl⟩
 ·rw [U7 jO];have h3:r<=1114111:=jO
  have h4:0<=r:=jO
  have e1:decide (r<55296)=false:=by simp;omega
  have e2:decide (57343<r)=false:=by simp;omega
  go_enter func151,ntmps151;go_wp2;go_ret;exact ⟨rfl,rfl⟩
 ·rw [(An r).2 jO];have h4:0<=r:=jO
  go_enter func151,ntmps151;go_wp2;go_ret;exact ⟨rfl,rfl⟩
 ·rw [U7 jO];have h4:0<=r:=jO
  go_enter func151,ntmps151;go_wp2;go_ret;exact ⟨rfl,rfl⟩
theorem Pd (r:Int) (w:World):Calls prog 127 #[.int .i32 r] w λe w'=>e=.returned (.int .i64 (J8 r:Nat))/\w=w':=by
 have hr:=Lj r w;unfold J8;cases hz:Aj r with
 | false =>
  rw [hz] at hr;clear hz;go_enter func127,ntmps127;go_wp2_with fail;refine hr.mono ?_;rintro e w' ⟨rfl,rfl⟩;clear hr;go_wp2;go_ret;exact ⟨rfl,rfl⟩
 | true =>
  have hb:=(An r).1 hz;rw [hz] at hr;clear hz;obtain ⟨h1,h2,h3⟩:=hb;clear h3;rw [if_pos rfl];unfold lenOf;rcases (show r<128\/(128<=r/\r<=2047)\/(2047<r/\r<=65535)\/65535<r by omega) with h | ⟨h4,h5⟩ | ⟨h4,h5⟩ | h
  ·rw [if_pos jO];go_enter func127,ntmps127;go_wp2_with fail;refine hr.mono ?_;rintro e w' ⟨rfl,rfl⟩;clear hr;go_wp2;go_ret;exact ⟨rfl,rfl⟩
  ·rw [if_neg jO,if_pos jO];go_enter func127,ntmps127;go_wp2_with fail;refine hr.mono ?_;rintro e w' ⟨rfl,rfl⟩;clear hr;go_wp2;go_ret;exact ⟨rfl,rfl⟩
  ·rw [if_neg jO,if_neg jO,if_pos jO];have h6:128<=r:=jO
   go_enter func127,ntmps127;go_wp2_with fail;refine hr.mono ?_;rintro e w' ⟨rfl,rfl⟩;clear hr;go_wp2;go_ret;exact ⟨rfl,rfl⟩
  ·rw [if_neg jO,if_neg jO,if_neg jO];have h6:128<=r:=jO
   have h7:2047<r:=jO
   go_enter func127,ntmps127;go_wp2_with fail;refine hr.mono ?_;rintro e w' ⟨rfl,rfl⟩;clear hr;go_wp2;go_ret;exact ⟨rfl,rfl⟩
theorem Agt {k:IntKind} {a b:Int} (h:a=b):Ending.returned (.int k a)=.returned (.int k b):=by rw [h]
theorem Agu {k:IntKind} {a b:Int} {x:Value} (h:a=b):Ending.returned (.tuple #[.int k a,x])=.returned (.tuple #[.int k b,x]):=by rw [h]
def Utf.Ds (n:Nat):Int × Nat :=
 if n<128 then (n,1) else if n<192 then (0,0) else if n<224 then ((n % 32:Nat),2) else if n<240 then ((n % 16:Nat),3) else if n<248 then ((n % 8:Nat),4) else (0,0)
theorem Azd (n:Nat) (hn:n<256) (w:World):Calls prog 126 #[.int .u8 n] w λe w'=>e=.returned (.tuple #[.int .i32 (Ds n).1,.int .i64 (Ds n).2])/\w=w':=by
 unfold Ds;rcases (show n<128\/(128<=n/\n<192)\/(192<=n/\n<224)\/(224<=n/\n<240)\/(240<=n/\n<248)\/248<=n by omega) with h | ⟨h4,h5⟩ | ⟨h4,h5⟩ | ⟨h4,h5⟩ | ⟨h4,h5⟩ | h
 ·rw [if_pos jO];go_enter func126,ntmps126;go_wp2;go_ret2;exact ⟨rfl,rfl⟩
 ·rw [if_neg jO,if_pos jO];go_enter func126,ntmps126;go_wp2;go_ret2;exact ⟨rfl,rfl⟩
 ·rw [if_neg jO,if_neg jO,if_pos jO];go_enter func126,ntmps126;go_wp2;go_ret2;exact ⟨Agu jO,rfl⟩
 ·rw [if_neg jO,if_neg jO,if_neg jO,if_pos jO];go_enter func126,ntmps126;go_wp2;go_ret2;exact ⟨Agu jO,rfl⟩
 ·rw [if_neg jO,if_neg jO,if_neg jO,if_neg jO,if_pos jO];go_enter func126,ntmps126;go_wp2;go_ret2;exact ⟨Agu jO,rfl⟩
 ·rw [if_neg jO,if_neg jO,if_neg jO,if_neg jO,if_neg jO];go_enter func126,ntmps126;go_wp2;go_ret2;exact ⟨rfl,rfl⟩
theorem Tj (r:Int) (h0:0<=r) (h1:r<2147483648) (w:World):Calls prog 243 #[.int .i32 r] w λe w'=>e=.returned (.int .u8 (128+r % 64))/\w=w':=by
 go_enter func243,ntmps243;go_wp2;go_ret;refine ⟨Agt ?_,rfl⟩;have e:bits .and .i32 r 63=r % 64:=bits_mask .i32 31 jD wraps_i32 6 jD r h0 h1;rw [e,show r % 64 % 256=r % 64 by omega,u8_or128 _ jO jO]
end
section
namespace Utf
def Ez:Int->List UInt8->Option Int
 | acc,[]=>some acc
 | acc,b::t=>if cont b then Ez (acc*64+((b.toNat % 64:Nat):Int)) t else none
theorem Kz (b:UInt8):cont b=true ↔ 128<=b.toNat/\b.toNat<192:=by
 unfold cont;simp
theorem At1 (r:Nat):J8 (r:Int)=if right r then lenOf r else 0:=by
 unfold J8 Aj;simp
theorem Li (r:Nat):(lenOf r=1 ↔ r<128)/\(lenOf r=2 ↔ 128<=r/\r<2048)/\(lenOf r=3 ↔ 2048<=r/\r<65536)/\(lenOf r=4 ↔ 65536<=r):=by
 unfold lenOf;split
 ·omega
 ·split
  · omega
  · split<;>omega
theorem Sh (r n:Nat) (hn:1<=n):J8 (r:Int)=n ↔ right r=true/\lenOf r=n:=by
 rw [At1];cases right r with
 | false=>simp;omega
 | true=>simp
def Ap3 (a:UInt8) (t:List UInt8):Option (Nat × Nat) :=
 if (Ds a.toNat).2=0\/t.length+1<(Ds a.toNat).2 then none
 else match Ez (Ds a.toNat).1 (t.take ((Ds a.toNat).2 - 1)) with
  | none=>none
  | some r=>if J8 r=(Ds a.toNat).2 then some (r.toNat,(Ds a.toNat).2) else none
theorem Aww (a:UInt8) (t:List UInt8):Ap3 a t=dec (a::t):=by
 have ha:=Dq a;unfold Ap3 dec Ds;by_cases h1:a.toNat<128
 ·simp only [if_pos h1];have:J8 (a.toNat:Int)=1:=(Sh a.toNat 1 jO).2 ⟨(Dw _).2 jO,(Li _).1.2 h1⟩;simp [Ez,this]
 simp only [if_neg h1];by_cases h2:a.toNat<192
 ·simp only [if_pos h2,if_pos (show a.toNat<194 by omega)];simp
 simp only [if_neg h2];by_cases h3:a.toNat<224
 ·simp only [if_pos h3];match t with
  | [] =>
   simp
  | b::t =>
   have hb:=Dq b;simp only [jac,List.take_succ_cons,List.take_zero,Ez,Nat.reduceSub];rw [if_neg jO];by_cases cb:cont b=true
   ·have cb':=(Kz b).1 cb;simp only [cb,if_true];have e:((a.toNat % 32:Nat):Int)*64+((b.toNat % 64:Nat):Int)=(((a.toNat - 192)*64+(b.toNat - 128):Nat):Int):=jO
    rw [e,Int.toNat_natCast];by_cases h4:a.toNat<194
    ·rw [if_pos h4,if_neg];intro h;have:=((Sh _ 2 jO).1 h).2;have:=(Li ((a.toNat - 192)*64+(b.toNat - 128))).2.1.1 this;omega
    ·rw [if_neg h4,if_pos];exact (Sh _ 2 jO).2 ⟨(Dw _).2 jO,(Li _).2.1.2 jO⟩
   ·simp only [cb];simp
 simp only [if_neg h3];rw [if_neg (show ¬ a.toNat<194 by omega)];by_cases h4:a.toNat<240
 ·simp only [if_pos h4];match t with
  | []=>simp
  | [_]=>simp
  | b::c::t =>
   have hb:=Dq b;have hc:=Dq c;simp only [jac,List.take_succ_cons,List.take_zero,Ez,Nat.reduceSub];rw [if_neg jO];by_cases cb:cont b=true
   ·by_cases cc:cont c=true
    ·have cb':=(Kz b).1 cb;have cc':=(Kz c).1 cc;simp only [cb,cc,if_true,Bool.true_and];have e:(((a.toNat % 16:Nat):Int)*64+((b.toNat % 64:Nat):Int))*64+((c.toNat % 64:Nat):Int)=(((a.toNat - 224)*4096+(b.toNat - 128)*64+(c.toNat - 128):Nat):Int):=jO
     rw [e,Int.toNat_natCast];have hi:=Li ((a.toNat - 224)*4096+(b.toNat - 128)*64+(c.toNat - 128));have hz:=Sh ((a.toNat - 224)*4096+(b.toNat - 128)*64+(c.toNat - 128)) 3 jO;generalize hr:(a.toNat - 224)*4096+(b.toNat - 128)*64+(c.toNat - 128)=r at hi hz ⊢;by_cases hh:J8 (r:Int)=3
     ·have h5:=hz.1 hh;have h6:=hi.2.2.1.1 h5.2;rw [if_pos hh,if_pos (by simp only [jag,decide_eq_true_eq];exact ⟨h6.1,h5.1⟩)]
     ·rw [if_neg hh,if_neg];simp only [jag,decide_eq_true_eq];rintro ⟨h5,h6⟩;exact hh (hz.2 ⟨h6,hi.2.2.1.2 ⟨h5,by omega⟩⟩)
    ·simp [cb,cc]
   ·simp [cb]
 simp only [if_neg h4];by_cases h5:a.toNat<248
 ·simp only [if_pos h5];match t with
  | []=>simp
  | [_]=>simp
  | [_,_]=>simp
  | b::c::d::t =>
   have hb:=Dq b;have hc:=Dq c;have hd:=Dq d;simp only [jac,List.take_succ_cons,List.take_zero,Ez,Nat.reduceSub];rw [if_neg jO];by_cases cb:cont b=true
   ·by_cases cc:cont c=true
    ·by_cases cd:cont d=true
     ·have cb':=(Kz b).1 cb;have cc':=(Kz c).1 cc;have cd':=(Kz d).1 cd;simp only [cb,cc,cd,if_true,Bool.true_and];have e:((((a.toNat % 8:Nat):Int)*64+((b.toNat % 64:Nat):Int))*64+((c.toNat % 64:Nat):Int))*64+((d.toNat % 64:Nat):Int)=(((a.toNat - 240)*262144+(b.toNat - 128)*4096+(c.toNat - 128)*64+(d.toNat - 128):Nat):Int):=jO
      rw [e,Int.toNat_natCast];have hi:=Li ((a.toNat - 240)*262144+(b.toNat - 128)*4096+(c.toNat - 128)*64+(d.toNat - 128));have hz:=Sh ((a.toNat - 240)*262144+(b.toNat - 128)*4096+(c.toNat - 128)*64+(d.toNat - 128)) 4 jO;generalize hr:(a.toNat - 240)*262144+(b.toNat - 128)*4096+(c.toNat - 128)*64+(d.toNat - 128)=r at hi hz ⊢;by_cases hh:J8 (r:Int)=4
      ·have h5:=hz.1 hh;have h6:=hi.2.2.2.1 h5.2;rw [if_pos hh,if_pos (by simp only [jag,decide_eq_true_eq];exact ⟨h6,h5.1⟩)]
      ·rw [if_neg hh,if_neg];simp only [jag,decide_eq_true_eq];rintro ⟨h5,h6⟩;exact hh (hz.2 ⟨h6,hi.2.2.2.2 h5⟩)
     ·simp [cb,cc,cd]
    ·simp [cb,cc]
   ·simp [cb]
 simp only [if_neg h5];simp
end Utf
end
section
open Go.RowKit Utf
theorem Ht {n:Nat} {z:Int} (h:n<256) (e:z=n):Value.int .u8 z=Dn (u n):=by
 unfold Dn;rw [Bb h,e]
theorem Anj {r:Int} (h0:0<=r) (h:r<128):[Value.int .u8 r]=(enc r.toNat).map Dn:=by
 unfold enc;rw [if_pos jO,List.map_cons,List.map_nil,<- Ht (z:=r) jO jO]
theorem Ank {r:Int} (h0:128<=r) (h:r<=2047):[Value.int .u8 (192+r / 64),.int .u8 (128+r % 64)]=(enc r.toNat).map Dn:=by
 unfold enc;rw [if_neg jO,if_pos jO,List.map_cons,List.map_cons,List.map_nil,<- Ht (z:=192+r / 64) jO jO,<- Ht (z:=128+r % 64) jO jO]
theorem Anl {r:Int} (h0:2047<r) (h:r<=65535):[Value.int .u8 (224+r / 4096),.int .u8 (128+r / 64 % 64),.int .u8 (128+r % 64)]=(enc r.toNat).map Dn:=by
 unfold enc;rw [if_neg jO,if_neg jO,if_pos jO,List.map_cons,List.map_cons,List.map_cons,List.map_nil,<- Ht (z:=224+r / 4096) jO jO,<- Ht (z:=128+r / 64 % 64) jO jO,<- Ht (z:=128+r % 64) jO jO]
theorem Anm {r:Int} (h0:65535<r) (h:r<=1114111):[Value.int .u8 (240+r / 262144),.int .u8 (128+r / 4096 % 64),.int .u8 (128+r / 64 % 64),.int .u8 (128+r % 64)]=(enc r.toNat).map Dn:=by
 unfold enc;rw [if_neg jO,if_neg jO,if_neg jO,List.map_cons,List.map_cons,List.map_cons,List.map_cons,List.map_nil,<- Ht (z:=240+r / 262144) jO jO,<- Ht (z:=128+r / 4096 % 64) jO jO,<- Ht (z:=128+r / 64 % 64) jO jO,<- Ht (z:=128+r % 64) jO jO]
theorem Aiv {r:Int} (h0:0<=r) (h:r<128):J8 r=1/\(enc r.toNat).length=1:=by
 rw [Me];unfold J8 lenOf;rw [if_pos ((An r).2 jO),if_pos jO];exact ⟨rfl,rfl⟩
theorem Aiw {r:Int} (h0:128<=r) (h:r<=2047):J8 r=2/\(enc r.toNat).length=2:=by
 rw [Me];unfold J8 lenOf;rw [if_pos ((An r).2 jO),if_neg jO,if_pos jO];exact ⟨rfl,rfl⟩
theorem Aix {r:Int} (h0:2047<r) (h:r<=65535) (hr:Aj r=true):J8 r=3/\(enc r.toNat).length=3:=by
 rw [Me];unfold J8 lenOf;rw [if_pos hr,if_neg jO,if_neg jO,if_pos jO];exact ⟨rfl,rfl⟩
theorem Aiy {r:Int} (h0:65535<r) (h:r<=1114111):J8 r=4/\(enc r.toNat).length=4:=by
 rw [Me];unfold J8 lenOf;rw [if_pos ((An r).2 jO),if_neg jO,if_neg jO,if_neg jO];exact ⟨rfl,rfl⟩
def Rf (base:Nat) (bs:List UInt8) (r:Int) (w:World) (e:Ending) (w':World):Prop:=∃ v',e=.returned v'/\Bu base v' (bs ++ enc r.toNat) w'/\Below base w w'
theorem A67 (base:Nat) (v:Value) (bs:List UInt8) (r:Int) (w:World) (h1:0<=r) (h2:r<128) (hown:Bu base v bs w) (hbase:base<=w.heap.size) (hlen:bs.length<=100000) :
  Calls prog 215 #[v,.int .i32 r] w (Rf base bs r w):=by
 have hL:=Pd r w;rw [(Aiv h1 h2).1] at hL;have HO:=jH hown;clear hown;go_enter func215,ntmps215;go_wp2_with (first
  | (go_at_call 127;refine hL.mono ?_;rintro e w' ⟨rfl,rfl⟩)
  | (go_at_call 243;refine (Tj _ jO jO _).mono ?_;rintro e w' ⟨rfl,rfl⟩)
  | (at_builtin;refine Db w 45 5 (.int .u8 0) 1 underlying45 E4 rfl jO base v _ _ HO.out hbase jO 1 jO _ rfl rfl rfl _ _ rfl rfl rfl ?_;intro v' w1 ho hb))
 go_ret;exact ⟨v',rfl,Bu.more ho (Anj h1 h2) (Aiv h1 h2).2.symm,hb⟩
theorem A68 (base:Nat) (v:Value) (bs:List UInt8) (r:Int) (w:World) (h1:128<=r) (h2:r<=2047) (hown:Bu base v bs w) (hbase:base<=w.heap.size) (hlen:bs.length<=100000) :
  Calls prog 215 #[v,.int .i32 r] w (Rf base bs r w):=by
 have hL:=Pd r w;rw [(Aiw h1 h2).1] at hL;have HO:=jH hown;clear hown;go_enter func215,ntmps215;go_wp2_with (first
  | (go_at_call 127;refine hL.mono ?_;rintro e w' ⟨rfl,rfl⟩)
  | (go_at_call 243;refine (Tj _ jO jO _).mono ?_;rintro e w' ⟨rfl,rfl⟩)
  | (at_builtin;refine Db w 45 5 (.int .u8 0) 1 underlying45 E4 rfl jO base v _ _ HO.out hbase jO 2 jO _ rfl rfl rfl _ _ rfl rfl rfl ?_;intro v' w1 ho hb))
 go_ret;exact ⟨v',rfl,Bu.more ho (Ank h1 h2) (Aiw h1 h2).2.symm,hb⟩
theorem A69 (base:Nat) (v:Value) (bs:List UInt8) (r:Int) (w:World) (h1:2047<r) (h2:r<=65535) (hr:Aj r=true) (hown:Bu base v bs w) (hbase:base<=w.heap.size) (hlen:bs.length<=100000) :
  Calls prog 215 #[v,.int .i32 r] w (Rf base bs r w):=by
 have hL:=Pd r w;rw [(Aix h1 h2 hr).1] at hL;have HO:=jH hown;clear hown;go_enter func215,ntmps215;go_wp2_with (first
  | (go_at_call 127;refine hL.mono ?_;rintro e w' ⟨rfl,rfl⟩)
  | (go_at_call 243;refine (Tj _ jO jO _).mono ?_;rintro e w' ⟨rfl,rfl⟩)
  | (at_builtin;refine Db w 45 5 (.int .u8 0) 1 underlying45 E4 rfl jO base v _ _ HO.out hbase jO 3 jO _ rfl rfl rfl _ _ rfl rfl rfl ?_;intro v' w1 ho hb))
 go_ret;exact ⟨v',rfl,Bu.more ho (Anl h1 h2) (Aix h1 h2 hr).2.symm,hb⟩
theorem A7a (base:Nat) (v:Value) (bs:List UInt8) (r:Int) (w:World) (h1:65535<r) (h2:r<=1114111) (hown:Bu base v bs w) (hbase:base<=w.heap.size) (hlen:bs.length<=100000) :
  Calls prog 215 #[v,.int .i32 r] w (Rf base bs r w):=by
 have hL:=Pd r w;rw [(Aiy h1 h2).1] at hL;have HO:=jH hown;clear hown;go_enter func215,ntmps215;go_wp2_with (first
  | (go_at_call 127;refine hL.mono ?_;rintro e w' ⟨rfl,rfl⟩)
  | (go_at_call 243;refine (Tj _ jO jO _).mono ?_;rintro e w' ⟨rfl,rfl⟩)
  | (at_builtin;refine Db w 45 5 (.int .u8 0) 1 underlying45 E4 rfl jO base v _ _ HO.out hbase jO 4 jO _ rfl rfl rfl _ _ rfl rfl rfl ?_;intro v' w1 ho hb))
 go_ret;exact ⟨v',rfl,Bu.more ho (Anm h1 h2) (Aiy h1 h2).2.symm,hb⟩
theorem A4c (base:Nat) (v:Value) (bs:List UInt8) (r:Int) (w:World) (hr:Aj r=true) (hown:Bu base v bs w) (hbase:base<=w.heap.size) (hlen:bs.length<=100000) :
  Calls prog 215 #[v,.int .i32 r] w (Rf base bs r w):=by
 have hb:=(An r).1 hr;rcases (show r<128\/(128<=r/\r<=2047)\/(2047<r/\r<=65535)\/65535<r by omega) with h | ⟨h4,h5⟩ | ⟨h4,h5⟩ | h
 ·exact A67 base v bs r w hb.1 h hown hbase hlen
 ·exact A68 base v bs r w h4 h5 hown hbase hlen
 ·exact A69 base v bs r w h4 h5 hr hown hbase hlen
 ·exact A7a base v bs r w h hb.2.1 hown hbase hlen
end
section
open Go.RowKit Utf
namespace Utf
def Ah (l:List Int):List UInt8:=l.flatMap λr=>enc r.toNat
def Ae (l:List Int):Bool:=l.all Aj
theorem O7 (l:List Int) (r:Int):Ah (l ++ [r])=Ah l ++ enc r.toNat:=by simp [Ah]
theorem Agv (l:List Int) (r:Int):Ae (l ++ [r])=(Ae l && Aj r):=by simp [Ae]
theorem Gr (l:List Int):(Ah l).length<=4*l.length:=by
 induction l with
 | nil=>simp [Ah]
 | cons r l ih =>
  have:=Ayu r.toNat;simp only [Ah,jao,jab,jac] at ih ⊢;omega
theorem Jj (l:List Int) (k:Nat) (h:k<l.length):l.take (k+1)=l.take k ++ [l[k]!]:=by
 rw [List.take_succ_eq_append_getElem h,getElem!_pos l k h]
theorem Agw {l:List Int} {k:Nat} (h:k<l.length) (hr:Aj l[k]! = false):Ae l=false:=by
 unfold Ae;rw [List.all_eq_false];exact ⟨l[k]!,by rw [getElem!_pos l k h];exact List.getElem_mem h,by rw [hr];simp⟩
end Utf
def Aqr (l:List Int) (w:World) (e:Ending) (w':World):Prop :=
 e=.returned (if Ae l then .tuple #[.string ⟨(Ah l).toArray⟩,.bool true] else .tuple #[.string ⟨#[]⟩,.bool false])/\Below w.heap.size w w'
theorem Ap2 (v:Value) (l:List Int) (w:World) (hl:Runes v l w) (hn:l.length<=20000):Calls prog 180 #[v] w (Aqr l w):=by
 obtain ⟨A,c,rfl,hc,hcell⟩:=hl.form;have HC:=jH hcell;clear hl hcell;go_enter func180,ntmps180;go_wp2;refine G7 0 rfl ?_;go_wp2;go_loopg [4,9] (l.length+1) (λgk v i wr=>∃ k:Nat,k<=l.length/\i=.int .i64 k/\l.length - k<gk/\Hid (Ae (l.take k)=true/\Bu w.heap.size v (Ah (l.take k)) wr/\Below w.heap.size w wr))
 case atStart=>exact ⟨0,Nat.zero_le _,rfl,by omega,⟨rfl,Bu.nil _ _,jan _ _⟩⟩
 case round =>
  obtain ⟨k,hk,rfl,hg,I⟩:=hrel;by_cases hlt:k<l.length
  ·obtain ⟨ad,rfl,hb,hx⟩:=HC.out k hlt;have hx':=(I.out.2.2.cell (by rw [Bf];exact hb)).trans hx;obtain ⟨x,hxe⟩:∃ x,x=l[k]!:=⟨_,rfl⟩
   rw [<- hxe] at hx';have HX:=jH hxe;have hR:=Lj x wr;clear hx hb hxe;cases hr:Aj x with
   | false =>
    rw [hr] at hR;have HR:=jH hr;clear hr;go_wp2_with (go_at_call 151;((with_reducible refine hR.mono ?_);rintro e w' ⟨rfl,rfl⟩));go_step3;refine ⟨rfl,?_⟩;go_wp2;rw [Exit.noGoto_ret];go_ret2;exact ⟨by rw [Agw hlt (by rw [<- HX.out];exact HR.out)];rfl,I.out.2.2⟩
   | true =>
    rw [hr] at hR;have HR:=jH hr;clear hr;go_wp2_with (go_at_call 151;((with_reducible refine hR.mono ?_);rintro e w' ⟨rfl,rfl⟩));refine (A4c w.heap.size u4 _ x wr HR.out I.out.2.1 I.out.2.2.size (by have:=Gr (l.take k);rw [jak] at this;omega)).mono ?_;rintro e w2 ⟨v2,rfl,ho2,hb2⟩;have I2:Hid (Ae (l.take (k+1))=true/\Bu w.heap.size v2 (Ah (l.take (k+1))) w2/\Below w.heap.size w w2):=by
     refine ⟨?_,?_,I.out.2.2.trans hb2⟩
     · rw [Jj l k hlt,Agv,<- HX.out,I.out.1,HR.out];rfl
     · rw [Jj l k hlt,O7,<- HX.out];exact ho2
    clear hR ho2 hb2 hx' I HX;go_wp2;go_roundg (l.length - k)
    case measure=>omega
    case rel=>exact ⟨k+1,by omega,by go_num,by omega,I2⟩
  ·obtain rfl:k=l.length:=jO
   have hconv:=Hr I.out.2.1.bytes;go_wp2;go_ret2;refine ⟨?_,I.out.2.2⟩;have hr:=I.out.1;rw [List.take_length] at hr;rw [hr];rfl
end
section
open Go.RowKit Utf
end
section
open Go.RowKit Utf
namespace Utf
def Br:List UInt8->Nat->Int
 | [],_=>-1
 | b::t,k=>if b.toNat<128 then Br t (k+1) else k
def Ao (s:List UInt8):Int:=Br s 0
theorem As (s:ByteArray) (k:Nat) (h:k<s.size):s.data.toList.drop k=s[k]::s.data.toList.drop (k+1):=by
 rw [List.drop_eq_getElem_cons (by simpa using h)];rfl
theorem Ani (s:ByteArray) (k:Nat) (h:k<s.size):Br (s.data.toList.drop k) k=if s[k].toNat<128 then Br (s.data.toList.drop (k+1)) (k+1) else k:=by
 rw [As s k h];rfl
theorem Ath (s:ByteArray):Br (s.data.toList.drop s.size) s.size=-1:=by
 rw [List.drop_of_length_le jS];rfl
end Utf
theorem Hi (s:ByteArray) (w:World) (hs:s.size<=100000):Calls prog 11 #[.string s] w λe w'=>e=.returned (.int .i64 (Ao s.data.toList))/\w=w':=by
 go_enter func11,ntmps11;go_wp2;go_loop [6] (λi=>∃ k:Nat,k<=s.size/\i=.int .i64 k/\Hid (Br (s.data.toList.drop k) k=Ao s.data.toList)) (λi=>s.size - (intOf i).toNat)
 case atStart=>exact ⟨0,Nat.zero_le _,rfl,(rfl:Br (s.data.toList.drop 0) 0=Ao s.data.toList)⟩
 case round =>
  obtain ⟨k,hk,rfl,I⟩:=hrel;by_cases hlt:k<s.size
  ·have hst:=Ani s k hlt;by_cases hb:s[k].toNat<128
   ·have I2:Hid (Br (s.data.toList.drop (k+1)) (k+1)=Ao s.data.toList):=by
     rw [if_pos hb] at hst;exact hst.symm.trans I.out
    clear hst I;go_wp2;go_round
    case rel=>exact ⟨k+1,by omega,by go_num,I2⟩
    case measure=>simp [intOf];omega
   ·have I2:Hid ((k:Int)=Ao s.data.toList):=by
     rw [if_neg hb] at hst;exact hst.symm.trans I.out
    have hb':128<=s[k].toNat:=jO
    clear hst I hb;go_wp2;go_ret;exact ⟨Agt I2.out,rfl⟩
  ·obtain rfl:k=s.size:=jO
   have I2:Hid (-1=Ao s.data.toList):=(Ath s).symm.trans I.out;clear I;go_wp2;go_ret;exact ⟨Agt I2.out,rfl⟩
end
section
open Go.RowKit Utf
namespace Utf
def Au (s:List UInt8):List Nat × Int :=
 ((readAll s.length s).1,if (readAll s.length s).2.length=0 then -1 else ((s.length - (readAll s.length s).2.length:Nat):Int))
def ints (l:List Nat):List Int:=l.map Int.ofNat
def E5 (s:List UInt8) (l:List Nat) (k:Nat):Prop:=J3 l=true/\s=Ek l ++ s.drop k/\k<=s.length
theorem E5.nil (s:List UInt8):E5 s [] 0:=⟨rfl,rfl,Nat.zero_le _⟩
theorem E5.len {s:List UInt8} {l:List Nat} {k:Nat} (h:E5 s l k):(Ek l).length=k:=by
 have h1:=congrArg List.length h.2.1;rw [jab,jaj] at h1;have:=h.2.2;omega
theorem Ac4 (l:List Nat):l.length<=(Ek l).length:=by
 induction l with
 | nil=>simp
 | cons r l ih =>
  have:=Mf r;simp only [Ek,jao,jab,jac] at ih ⊢;omega
theorem E5.le {s:List UInt8} {l:List Nat} {k:Nat} (h:E5 s l k):l.length<=k:=by have:=Ac4 l;have:=h.len;omega
theorem E5.next {s:List UInt8} {l:List Nat} {k r n:Nat} (h:E5 s l k) (hd:dec (s.drop k)=some (r,n)):E5 s (l ++ [r]) (k+n)/\1<=n:=by
 obtain ⟨h1,h2,h3⟩:=Uc hd;have hp:=Mf r;have hl:=congrArg List.length h3;rw [jab,jaj,List.drop_drop,jaj] at hl;refine ⟨⟨?_,?_,?_⟩,by omega⟩
 ·simp only [J3,List.all_append,List.all_cons,List.all_nil,Bool.and_true,jag];exact ⟨h.1,h1⟩
 ·simp only [Ek,List.flatMap_append,jao,List.flatMap_nil,List.append_nil,jaq];rw [List.drop_drop] at h3;have e:=h.2.1;rw [h3] at e;exact e
 ·have:=h.2.2;omega
theorem E5.stop {s:List UInt8} {l:List Nat} {k:Nat} (h:E5 s l k) (hd:dec (s.drop k)=none) (hk:k<s.length):Au s=(l,(k:Int)):=by
 unfold Au;rw [My l s.length s (s.drop k) h.2.1 h.1 hd (jaa _)];simp only [jaj];rw [if_neg jO,show s.length - (s.length - k)=k by omega]
theorem E5.all {s:List UInt8} {l:List Nat} (h:E5 s l s.length):Au s=(l,-1):=by
 unfold Au;rw [My l s.length s (s.drop s.length) h.2.1 h.1 (by rw [List.drop_length];rfl) (jaa _)];simp
end Utf
def Tp (s:List UInt8) (w:World) (e:Ending) (w':World):Prop :=
 ∃ v,e=.returned (.tuple #[v,.int .i64 (Au s).2])/\Runes v (ints (Au s).1) w'/\Below w.heap.size w w'
theorem Ah8 (t:ByteArray) (w:World):∃ cap W1,(convert 9 45 (.string t)).run prog w=.ok (.slice (some ⟨w.heap.size,0,none⟩) t.size cap) W1 /\
  (∀ j (h:j<t.size),W1.cell? ⟨w.heap.size,j,none⟩=some (.int .u8 (t[j].toNat:Int)))/\Below w.heap.size w W1/\w.heap.size<W1.heap.size:=by
 refine ⟨_,_,run_bytes_of_string (P:=prog) w 9 45 5 t underlying9 underlying45 underlying5,λj h=>?_,((jan _ w).drew).alloc (jaa _) _,by simp⟩;have:=World.cell?_alloc_mark w.drew (bytesRow t (grownCap w t.size 0 5)) 5 ((bytesRow t (grownCap w t.size 0 5)).size,(bytesRow t (grownCap w t.size 0 5)).size+1) j;exact this.trans (bytesRow_at t _ j h)
theorem A3r (n:Nat):(Ds n).2<=4/\0<=(Ds n).1/\((Ds n).2=2->(Ds n).1<32)/\((Ds n).2=3->(Ds n).1<16)/\((Ds n).2=4->(Ds n).1<8)/\((Ds n).2=1->(Ds n).1<128):=by
 unfold Ds
 repeat' split
 all_goals simp
 all_goals omega
theorem A4u (s:ByteArray) (k n m:Nat) (hm:m+1=n) (hle:k+n<=s.size):(s.extract (k+1) (k+n)).size=m/\(s.extract (k+1) (k+n)).data.toList=(s.data.toList.drop (k+1)).take m:=by
 have e:(s.extract (k+1) (k+n)).data.toList=(s.data.toList.drop (k+1)).take m:=by
  rw [ByteArray.data_extract,Array.toList_extract,List.extract_eq_take_drop];congr 1;omega
 refine ⟨?_,e⟩;have:=congrArg List.length e;rw [jak,jaj] at this;simp only [Array.length_toList,ByteArray.size_data] at this;omega
theorem A5d (n:Nat) (h:n<256):bits .and .u8 (n:Int) 192=((n / 64*64:Nat):Int):=by
 have e:=u8_and_nat n 192 h jO;have e2:∀ m:Fin 256,m.val &&& 192=m.val / 64*64:=by decide +kernel
 have e3:=e2 ⟨n,h⟩;simp only at e3;rw [e3] at e;exact e
theorem As2 (b:UInt8):(bits .and .u8 (b.toNat:Int) 192 != 128)=!(cont b):=by
 rw [A5d _ (Dq b),Bool.eq_iff_iff];have:=Dq b;unfold cont;simp;omega
theorem Vb (s:ByteArray) (w:World) (hs:s.size<=100000):Calls prog 98 #[.string s] w (Tp s.data.toList w):=by
 go_enter func98,ntmps98;go_wp2;refine G7 0 rfl ?_;go_wp2;go_loopg [4,5] (s.size+1) (λgk v i wr=>∃ (l:List Nat) (k:Nat),k<=s.size/\i=.int .i64 k/\s.size - k<gk/\Hid (E5 s.data.toList l k/\Av w.heap.size v (ints l) wr/\Below w.heap.size w wr))
 case atStart=>exact ⟨[],0,Nat.zero_le _,rfl,by omega,⟨E5.nil _,Av.nil _ _,jan _ _⟩⟩
 case round =>
  obtain ⟨l,k,hk,rfl,hg,I⟩:=hrel;by_cases hlt:k<s.size
  ·have hH:=Azd s[k].toNat (Dq _) wr;have hD:=As s k hlt;have hT:=Aww s[k] (s.data.toList.drop (k+1));have hl4:=A3r s[k].toNat;unfold Ap3 at hT;rw [<- hD] at hT;generalize Ds s[k].toNat=p at hH hT hl4;obtain ⟨r0,n⟩:=p;simp only at hH hT hl4;have HT:=jH hT;clear hT hD;by_cases h0:n=0
   ·subst h0;have hN:dec (s.data.toList.drop k)=none:=by rw [<- HT.out,if_pos (.inl rfl)]
    have HN:=jH hN;clear hN hl4;go_wp2_with (go_at_call 126;((with_reducible refine hH.mono ?_);rintro e w' ⟨rfl,rfl⟩));go_step3;refine ⟨rfl,?_⟩;go_wp2;rw [Exit.noGoto_ret];go_ret2;have hr:=I.out.1.stop HN.out (by simpa using hlt);exact ⟨u4,by rw [hr];rfl,by rw [hr];exact I.out.2.1.Nc,I.out.2.2⟩
   ·have h0':((n:Int) == 0)=false:=by simpa using h0
    by_cases hle:n<=s.size - k
    ·have hdc:decide ((s.size:Int) - (k:Int)<(n:Int))=false:=by simp;omega
     have hle':(n:Int)<=(s.size:Int) - (k:Int):=jO
     obtain ⟨m,hm⟩:∃ m,m+1=n:=⟨n - 1,by omega⟩
     obtain ⟨hts,htl⟩:=A4u s k n m hm jO;obtain ⟨cap,W1,hconv,hcell,hbW,hsz⟩:=Ah8 (s.extract (k+1) (k+n)) wr;rw [hts] at hconv;have HC:=jH hcell;have HB:=jH hbW;have HTS:=jH hts;have HTL:=jH htl;have HM:=jH hm;have hm3:m<=3:=jO
     clear hcell hbW hts htl hm;go_wp2_with (go_at_call 126;((with_reducible refine hH.mono ?_);rintro e w' ⟨rfl,rfl⟩));go_loop [6,40] (λr i=>∃ (j:Nat) (acc:Int),j<=m/\r=.int .i32 acc/\i=.int .i64 j/\0<=acc/\(j=0->acc<128)/\(0<m->j=0->acc<32)/\(j=1->acc<2048)/\(j=2->acc<131072)/\(j=3->acc<8388608) /\
      Hid (Ez acc (((s.data.toList.drop (k+1)).take m).drop j)=Ez r0 ((s.data.toList.drop (k+1)).take m))) (λ_ i=>m - (intOf i).toNat)
     case atStart =>
      refine ⟨0,r0,Nat.zero_le _,rfl,rfl,hl4.2.1,λ_=>?_,λh _=>?_,λh=>jO,λh=>jO,λh=>jO,(rfl:Ez r0 (((s.data.toList.drop (k+1)).take m).drop 0)=_)⟩
      ·have:=HM.out;omega
      ·have:=HM.out;omega
     case round =>
      obtain ⟨j,acc,hj,rfl,rfl,ha0,b0,b0',b1,b2,b3,J⟩:=hrel;by_cases hjm:j<m
      ·have hja:j<(s.extract (k+1) (k+n)).size:=by rw [HTS.out];exact hjm
       have hc:=HC.out j hja;have hdn:((s.data.toList.drop (k+1)).take m).drop j=(s.extract (k+1) (k+n))[j]::((s.data.toList.drop (k+1)).take m).drop (j+1):=by
        rw [<- HTL.out];exact As _ j hja
       generalize (s.extract (k+1) (k+n))[j]=b at hc hdn;have hb:=Dq b;have hct:=As2 b;have hcv:Ez acc (((s.data.toList.drop (k+1)).take m).drop j)=if cont b then Ez (acc*64+((b.toNat % 64:Nat):Int)) (((s.data.toList.drop (k+1)).take m).drop (j+1)) else none:=by rw [hdn];rfl
       have hbz:(b.toNat:Int)<256:=jO
       have hjz:(j:Int)<(m:Int):=jO
       cases hco:cont b with
       | false =>
        rw [hco] at hct hcv;have hno:dec (s.data.toList.drop k)=none:=by
         rw [<- HT.out];split
         ·rfl
         ·rw [show n - 1=m by have:=HM.out;omega,<- J.out,hcv];rfl
        have HN:=jH hno;clear hno hcv hdn J hco;simp only [Bool.not_false] at hct;go_wp2;go_step3;refine ⟨rfl,?_⟩;go_wp2;rw [Exit.noGoto_ret];go_ret2;have hr:=I.out.1.stop HN.out (by simpa using hlt);exact ⟨u4,by rw [hr];rfl,by rw [hr];exact (I.out.2.1.Ac HB.out).Nc,I.out.2.2.trans (HB.out.mono I.out.2.2.size)⟩
       | true =>
        rw [hco] at hct hcv;have J2:Hid (Ez (acc*64+((b.toNat % 64:Nat):Int)) (((s.data.toList.drop (k+1)).take m).drop (j+1))=Ez r0 ((s.data.toList.drop (k+1)).take m)):=by
         rw [if_pos rfl] at hcv;exact hcv.symm.trans J.out
        clear hcv hdn J hco;simp only [Bool.not_true] at hct;have hacc:acc<131072:=jO
        go_wp2;go_round
        case rel=>exact ⟨j+1,acc*64+((b.toNat % 64:Nat):Int),by omega,by go_num,by go_num,by omega,λh=>jO,λ_ h=>jO,λh=>jO,λh=>jO,λh=>jO,J2⟩
        case measure=>simp [intOf];omega
      ·obtain rfl:j=m:=jO
       have hcv:Ez r0 ((s.data.toList.drop (k+1)).take j)=some acc:=by
        rw [<- J.out,List.drop_of_length_le (by rw [jak];omega)];rfl
       have hT:=HT.out;rw [if_neg (by simp;omega),show n - 1=j by have:=HM.out;omega,hcv] at hT;simp only at hT;have HT2:=jH hT;have hL:=Pd acc W1;clear hT hcv J HC HTS HTL HT hconv;by_cases hln:J8 acc=n
       ·rw [hln] at hL;have hne:((n:Int) != (n:Int))=false:=by simp
        have hdc2:dec (s.data.toList.drop k)=some (acc.toNat,n):=by rw [<- HT2.out,if_pos hln]
        have hnx:=I.out.1.next hdc2;have HX:=jH hnx;have hkn:k+n<=s.size:=jO
        have hll:(ints l).length<=1000000:=by have:=I.out.1.le;simp only [ints,jai];omega
        clear hdc2 hnx hln HT2;go_wp2_with (first
         | (go_at_call 127;((with_reducible refine hL.mono ?_);rintro e w' ⟨rfl,rfl⟩))
         | (at_builtin;refine Db W1 157 21 (.int .i32 0) 4 underlying157 Bt rfl jO w.heap.size u4 _ _ (I.out.2.1.Ac HB.out) (Nat.le_trans I.out.2.2.size HB.out.size) hll 1 jO _ rfl rfl rfl _ _ rfl rfl rfl ?_;intro v2 w2 ho2 hb2;have HO:=jH ho2;have HB2:=jH hb2;clear ho2 hb2))
        have I2:Hid (E5 s.data.toList (l ++ [acc.toNat]) (k+n)/\Av w.heap.size v2 (ints (l ++ [acc.toNat])) w2/\Below w.heap.size w w2):=by
         refine ⟨HX.out.1,?_,(I.out.2.2.trans (HB.out.mono I.out.2.2.size)).trans HB2.out⟩;have e:ints (l ++ [acc.toNat])=ints l ++ [acc]:=by
          simp only [ints,List.map_append,List.map_cons,List.map_nil];rw [show Int.ofNat acc.toNat=acc by simp;omega]
         rw [e];exact Av.more HO.out rfl rfl
        have hn1:=HX.out.2;go_roundg (s.size - k)
        case measure=>omega
        case rel=>exact ⟨l ++ [acc.toNat],k+n,by omega,by go_num,by omega,I2⟩
       ·have hne:((J8 acc:Int) != (n:Int))=true:=by simpa using (by omega:¬ (J8 acc:Int)=(n:Int))
        have hno:dec (s.data.toList.drop k)=none:=by rw [<- HT2.out,if_neg hln]
        have HN:=jH hno;clear hno hln HT2;go_wp2_with (go_at_call 127;((with_reducible refine hL.mono ?_);rintro e w' ⟨rfl,rfl⟩));go_step3;refine ⟨rfl,?_⟩;go_wp2;rw [Exit.noGoto_ret];go_ret2;have hr:=I.out.1.stop HN.out (by simpa using hlt);exact ⟨u4,by rw [hr];rfl,by rw [hr];exact (I.out.2.1.Ac HB.out).Nc,I.out.2.2.trans (HB.out.mono I.out.2.2.size)⟩
    ·have hdc:decide ((s.size:Int) - (k:Int)<(n:Int))=true:=by simp;omega
     have hle':(s.size:Int) - (k:Int)<(n:Int):=jO
     have hN:dec (s.data.toList.drop k)=none:=by rw [<- HT.out,if_pos (.inr (by simp;omega))]
     have HN:=jH hN;clear hN hl4;go_wp2_with (go_at_call 126;((with_reducible refine hH.mono ?_);rintro e w' ⟨rfl,rfl⟩));go_step3;refine ⟨rfl,?_⟩;go_wp2;rw [Exit.noGoto_ret];go_ret2;have hr:=I.out.1.stop HN.out (by simpa using hlt);exact ⟨u4,by rw [hr];rfl,by rw [hr];exact I.out.2.1.Nc,I.out.2.2⟩
  ·obtain rfl:k=s.size:=jO
   go_wp2;go_ret2;have hr:=E5.all (s:=s.data.toList) (l:=l) (by simpa using I.out.1);exact ⟨u4,by rw [hr];rfl,by rw [hr];exact I.out.2.1.Nc,I.out.2.2⟩
end
