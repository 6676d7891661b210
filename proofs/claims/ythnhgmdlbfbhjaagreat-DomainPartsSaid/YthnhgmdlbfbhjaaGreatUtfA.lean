import Derived.Test.YthnhgmdlbfbhjaaGreatUtfRow
set_option maxRecDepth 100000
set_option maxHeartbeats 4000000
namespace Go.Proofs.YthnhgmdlbfbhjaaGreat
open Tryz
section
open Go.RowKit
namespace Utf
def Ak (r:Int):Bool:=decide (0<=r) && right r.toNat
def Eo (r:Int):Nat:=if Ak r then lenOf r.toNat else 0
theorem An (r:Int):Ak r=true ↔ 0<=r/\r<=1114111/\(r<55296\/57343<r):=by
 unfold Ak;rw [jag,D7,decide_eq_true_eq];omega
theorem Iq {r:Int} (h:¬ (0<=r/\r<=1114111/\(r<55296\/57343<r))):Ak r=false:=by
 cases e:Ak r with
 | false=>rfl
 | true=>exact absurd ((An r).1 e) h
end Utf
open Utf
theorem Ir (r:Int) (w:World):Calls prog 61 #[.int .i32 r] w λe w'=>e=.returned (.bool (Ak r))/\w=w':=by
 rcases (show r<0\/(0<=r/\r<55296)\/(55296<=r/\r<=57343)\/(57343<r/\r<=1114111)\/1114111<r by omega) with h | ⟨h1,h2⟩ | ⟨h1,h2⟩ | ⟨h1,h2⟩ | h
 ·rw [Iq jO];go_enter func61,ntmps61;go_wp2;go_ret;exact ⟨rfl,rfl⟩
 ·rw [(An r).2 jO];have h3:r<=1114111:=jO
  go_enter func61,ntmps61;go_wp2;go_ret;exact ⟨rfl,rfl⟩
 ·rw [Iq jO];have h3:r<=1114111:=jO
  have h4:0<=r:=jO
  have e1:decide (r<55296)=false:=by simp;omega
  have e2:decide (57343<r)=false:=by simp;omega
  go_enter func61,ntmps61;go_wp2;go_ret;exact ⟨rfl,rfl⟩
 ·rw [(An r).2 jO];have h4:0<=r:=jO
  go_enter func61,ntmps61;go_wp2;go_ret;exact ⟨rfl,rfl⟩
 ·rw [Iq jO];have h4:0<=r:=jO
  go_enter func61,ntmps61;go_wp2;go_ret;exact ⟨rfl,rfl⟩
theorem Fh (r:Int) (w:World):Calls prog 47 #[.int .i32 r] w λe w'=>e=.returned (.bool (Ak r))/\w=w':=by
 rcases (show r<0\/(0<=r/\r<55296)\/(55296<=r/\r<=57343)\/(57343<r/\r<=1114111)\/1114111<r by omega) with h | ⟨h1,h2⟩ | ⟨h1,h2⟩ | ⟨h1,h2⟩ | h
 ·rw [Iq jO];go_enter func47,ntmps47;go_wp2;go_ret;exact ⟨rfl,rfl⟩
 ·rw [(An r).2 jO];have h3:r<=1114111:=jO
  go_enter func47,ntmps47;go_wp2;go_ret;exact ⟨rfl,rfl⟩
 ·rw [Iq jO];have h3:r<=1114111:=jO
  have h4:0<=r:=jO
  have e1:decide (r<55296)=false:=by simp;omega
  have e2:decide (57343<r)=false:=by simp;omega
  go_enter func47,ntmps47;go_wp2;go_ret;exact ⟨rfl,rfl⟩
 ·rw [(An r).2 jO];have h4:0<=r:=jO
  go_enter func47,ntmps47;go_wp2;go_ret;exact ⟨rfl,rfl⟩
 ·rw [Iq jO];have h4:0<=r:=jO
  go_enter func47,ntmps47;go_wp2;go_ret;exact ⟨rfl,rfl⟩
theorem Nf (r:Int) (w:World):Calls prog 42 #[.int .i32 r] w λe w'=>e=.returned (.int .i64 (Eo r:Nat))/\w=w':=by
 have hr:=Ir r w;unfold Eo;cases hz:Ak r with
 | false =>
  rw [hz] at hr;clear hz;go_enter func42,ntmps42;go_wp2_with fail;refine hr.mono ?_;rintro e w' ⟨rfl,rfl⟩;clear hr;go_wp2;go_ret;exact ⟨rfl,rfl⟩
 | true =>
  have hb:=(An r).1 hz;rw [hz] at hr;clear hz;obtain ⟨h1,h2,h3⟩:=hb;clear h3;rw [if_pos rfl];unfold lenOf;rcases (show r<128\/(128<=r/\r<=2047)\/(2047<r/\r<=65535)\/65535<r by omega) with h | ⟨h4,h5⟩ | ⟨h4,h5⟩ | h
  ·rw [if_pos jO];go_enter func42,ntmps42;go_wp2_with fail;refine hr.mono ?_;rintro e w' ⟨rfl,rfl⟩;clear hr;go_wp2;go_ret;exact ⟨rfl,rfl⟩
  ·rw [if_neg jO,if_pos jO];go_enter func42,ntmps42;go_wp2_with fail;refine hr.mono ?_;rintro e w' ⟨rfl,rfl⟩;clear hr;go_wp2;go_ret;exact ⟨rfl,rfl⟩
  ·rw [if_neg jO,if_neg jO,if_pos jO];have h6:128<=r:=jO
   go_enter func42,ntmps42;go_wp2_with fail;refine hr.mono ?_;rintro e w' ⟨rfl,rfl⟩;clear hr;go_wp2;go_ret;exact ⟨rfl,rfl⟩
  ·rw [if_neg jO,if_neg jO,if_neg jO];have h6:128<=r:=jO
   have h7:2047<r:=jO
   go_enter func42,ntmps42;go_wp2_with fail;refine hr.mono ?_;rintro e w' ⟨rfl,rfl⟩;clear hr;go_wp2;go_ret;exact ⟨rfl,rfl⟩
theorem E8 (r:Int) (w:World):Calls prog 72 #[.int .i32 r] w λe w'=>e=.returned (.int .i64 (Eo r:Nat))/\w=w':=by
 have hr:=Fh r w;unfold Eo;cases hz:Ak r with
 | false =>
  rw [hz] at hr;clear hz;go_enter func72,ntmps72;go_wp2_with fail;refine hr.mono ?_;rintro e w' ⟨rfl,rfl⟩;clear hr;go_wp2;go_ret;exact ⟨rfl,rfl⟩
 | true =>
  have hb:=(An r).1 hz;rw [hz] at hr;clear hz;obtain ⟨h1,h2,h3⟩:=hb;clear h3;rw [if_pos rfl];unfold lenOf;rcases (show r<128\/(128<=r/\r<=2047)\/(2047<r/\r<=65535)\/65535<r by omega) with h | ⟨h4,h5⟩ | ⟨h4,h5⟩ | h
  ·rw [if_pos jO];go_enter func72,ntmps72;go_wp2_with fail;refine hr.mono ?_;rintro e w' ⟨rfl,rfl⟩;clear hr;go_wp2;go_ret;exact ⟨rfl,rfl⟩
  ·rw [if_neg jO,if_pos jO];go_enter func72,ntmps72;go_wp2_with fail;refine hr.mono ?_;rintro e w' ⟨rfl,rfl⟩;clear hr;go_wp2;go_ret;exact ⟨rfl,rfl⟩
  ·rw [if_neg jO,if_neg jO,if_pos jO];have h6:128<=r:=jO
   go_enter func72,ntmps72;go_wp2_with fail;refine hr.mono ?_;rintro e w' ⟨rfl,rfl⟩;clear hr;go_wp2;go_ret;exact ⟨rfl,rfl⟩
  ·rw [if_neg jO,if_neg jO,if_neg jO];have h6:128<=r:=jO
   have h7:2047<r:=jO
   go_enter func72,ntmps72;go_wp2_with fail;refine hr.mono ?_;rintro e w' ⟨rfl,rfl⟩;clear hr;go_wp2;go_ret;exact ⟨rfl,rfl⟩
theorem Qc {k:IntKind} {a b:Int} (h:a=b):Ending.returned (.int k a)=.returned (.int k b):=by rw [h]
theorem Aac {k:IntKind} {a b:Int} {x:Value} (h:a=b):Ending.returned (.tuple #[.int k a,x])=.returned (.tuple #[.int k b,x]):=by rw [h]
def Utf.D1 (n:Nat):Int × Nat :=
 if n<128 then (n,1) else if n<192 then (0,0) else if n<224 then ((n % 32:Nat),2) else if n<240 then ((n % 16:Nat),3) else if n<248 then ((n % 8:Nat),4) else (0,0)
theorem Alm (n:Nat) (hn:n<256) (w:World):Calls prog 60 #[.int .u8 n] w λe w'=>e=.returned (.tuple #[.int .i32 (D1 n).1,.int .i64 (D1 n).2])/\w=w':=by
 unfold D1;rcases (show n<128\/(128<=n/\n<192)\/(192<=n/\n<224)\/(224<=n/\n<240)\/(240<=n/\n<248)\/248<=n by omega) with h | ⟨h4,h5⟩ | ⟨h4,h5⟩ | ⟨h4,h5⟩ | ⟨h4,h5⟩ | h
 ·rw [if_pos jO];go_enter func60,ntmps60;go_wp2;go_ret2;exact ⟨rfl,rfl⟩
 ·rw [if_neg jO,if_pos jO];go_enter func60,ntmps60;go_wp2;go_ret2;exact ⟨rfl,rfl⟩
 ·rw [if_neg jO,if_neg jO,if_pos jO];go_enter func60,ntmps60;go_wp2;go_ret2;exact ⟨Aac jO,rfl⟩
 ·rw [if_neg jO,if_neg jO,if_neg jO,if_pos jO];go_enter func60,ntmps60;go_wp2;go_ret2;exact ⟨Aac jO,rfl⟩
 ·rw [if_neg jO,if_neg jO,if_neg jO,if_neg jO,if_pos jO];go_enter func60,ntmps60;go_wp2;go_ret2;exact ⟨Aac jO,rfl⟩
 ·rw [if_neg jO,if_neg jO,if_neg jO,if_neg jO,if_neg jO];go_enter func60,ntmps60;go_wp2;go_ret2;exact ⟨rfl,rfl⟩
theorem Ql (r:Int) (h0:0<=r) (h1:r<2147483648) (w:World):Calls prog 98 #[.int .i32 r] w λe w'=>e=.returned (.int .u8 (128+r % 64))/\w=w':=by
 go_enter func98,ntmps98;go_wp2;go_ret;refine ⟨Qc ?_,rfl⟩;have e:bits .and .i32 r 63=r % 64:=bits_mask .i32 31 jD wraps_i32 6 jD r h0 h1;rw [e,show r % 64 % 256=r % 64 by omega,u8_or128 _ jO jO]
end
section
namespace Utf
def E3:Int->List UInt8->Option Int
 | acc,[]=>some acc
 | acc,b::t=>if cont b then E3 (acc*64+((b.toNat % 64:Nat):Int)) t else none
theorem Jt (b:UInt8):cont b=true ↔ 128<=b.toNat/\b.toNat<192:=by
 unfold cont;simp
theorem Aie (r:Nat):Eo (r:Int)=if right r then lenOf r else 0:=by
 unfold Eo Ak;simp
theorem Ff (r:Nat):(lenOf r=1 ↔ r<128)/\(lenOf r=2 ↔ 128<=r/\r<2048)/\(lenOf r=3 ↔ 2048<=r/\r<65536)/\(lenOf r=4 ↔ 65536<=r):=by
 unfold lenOf;split
 ·omega
 ·split
  · omega
  · split<;>omega
theorem Kr (r n:Nat) (hn:1<=n):Eo (r:Int)=n ↔ right r=true/\lenOf r=n:=by
 rw [Aie];cases right r with
 | false=>simp;omega
 | true=>simp
def Afx (a:UInt8) (t:List UInt8):Option (Nat × Nat) :=
 if (D1 a.toNat).2=0\/t.length+1<(D1 a.toNat).2 then none
 else match E3 (D1 a.toNat).1 (t.take ((D1 a.toNat).2 - 1)) with
  | none=>none
  | some r=>if Eo r=(D1 a.toNat).2 then some (r.toNat,(D1 a.toNat).2) else none
theorem Aj0 (a:UInt8) (t:List UInt8):Afx a t=dec (a::t):=by
 have ha:=Dp a;unfold Afx dec D1;by_cases h1:a.toNat<128
 ·simp only [if_pos h1];have:Eo (a.toNat:Int)=1:=(Kr a.toNat 1 jO).2 ⟨(D7 _).2 jO,(Ff _).1.2 h1⟩;simp [E3,this]
 simp only [if_neg h1];by_cases h2:a.toNat<192
 ·simp only [if_pos h2,if_pos (show a.toNat<194 by omega)];simp
 simp only [if_neg h2];by_cases h3:a.toNat<224
 ·simp only [if_pos h3];match t with
  | [] =>
   simp
  | b::t =>
   have hb:=Dp b;simp only [jac,List.take_succ_cons,List.take_zero,E3,Nat.reduceSub];rw [if_neg jO];by_cases cb:cont b=true
   ·have cb':=(Jt b).1 cb;simp only [cb,if_true];have e:((a.toNat % 32:Nat):Int)*64+((b.toNat % 64:Nat):Int)=(((a.toNat - 192)*64+(b.toNat - 128):Nat):Int):=jO
    rw [e,Int.toNat_natCast];by_cases h4:a.toNat<194
    ·rw [if_pos h4,if_neg];intro h;have:=((Kr _ 2 jO).1 h).2;have:=(Ff ((a.toNat - 192)*64+(b.toNat - 128))).2.1.1 this;omega
    ·rw [if_neg h4,if_pos];exact (Kr _ 2 jO).2 ⟨(D7 _).2 jO,(Ff _).2.1.2 jO⟩
   ·simp only [cb];simp
 simp only [if_neg h3];rw [if_neg (show ¬ a.toNat<194 by omega)];by_cases h4:a.toNat<240
 ·simp only [if_pos h4];match t with
  | []=>simp
  | [_]=>simp
  | b::c::t =>
   have hb:=Dp b;have hc:=Dp c;simp only [jac,List.take_succ_cons,List.take_zero,E3,Nat.reduceSub];rw [if_neg jO];by_cases cb:cont b=true
   ·by_cases cc:cont c=true
    ·have cb':=(Jt b).1 cb;have cc':=(Jt c).1 cc;simp only [cb,cc,if_true,Bool.true_and];have e:(((a.toNat % 16:Nat):Int)*64+((b.toNat % 64:Nat):Int))*64+((c.toNat % 64:Nat):Int)=(((a.toNat - 224)*4096+(b.toNat - 128)*64+(c.toNat - 128):Nat):Int):=jO
     rw [e,Int.toNat_natCast];have hi:=Ff ((a.toNat - 224)*4096+(b.toNat - 128)*64+(c.toNat - 128));have hz:=Kr ((a.toNat - 224)*4096+(b.toNat - 128)*64+(c.toNat - 128)) 3 jO;generalize hr:(a.toNat - 224)*4096+(b.toNat - 128)*64+(c.toNat - 128)=r at hi hz ⊢;by_cases hh:Eo (r:Int)=3
     ·have h5:=hz.1 hh;have h6:=hi.2.2.1.1 h5.2;rw [if_pos hh,if_pos (by simp only [jag,decide_eq_true_eq];exact ⟨h6.1,h5.1⟩)]
     ·rw [if_neg hh,if_neg];simp only [jag,decide_eq_true_eq];rintro ⟨h5,h6⟩;exact hh (hz.2 ⟨h6,hi.2.2.1.2 ⟨h5,by omega⟩⟩)
    ·simp [cb,cc]
   ·simp [cb]
 simp only [if_neg h4];by_cases h5:a.toNat<248
 ·simp only [if_pos h5];match t with
  | []=>simp
  | [_]=>simp
  | [_,_]=>simp
  | b::c::d::t =>
   have hb:=Dp b;have hc:=Dp c;have hd:=Dp d;simp only [jac,List.take_succ_cons,List.take_zero,E3,Nat.reduceSub];rw [if_neg jO];by_cases cb:cont b=true
   ·by_cases cc:cont c=true
    ·by_cases cd:cont d=true
     ·have cb':=(Jt b).1 cb;have cc':=(Jt c).1 cc;have cd':=(Jt d).1 cd;simp only [cb,cc,cd,if_true,Bool.true_and];have e:((((a.toNat % 8:Nat):Int)*64+((b.toNat % 64:Nat):Int))*64+((c.toNat % 64:Nat):Int))*64+((d.toNat % 64:Nat):Int)=(((a.toNat - 240)*262144+(b.toNat - 128)*4096+(c.toNat - 128)*64+(d.toNat - 128):Nat):Int):=jO
      rw [e,Int.toNat_natCast];have hi:=Ff ((a.toNat - 240)*262144+(b.toNat - 128)*4096+(c.toNat - 128)*64+(d.toNat - 128));have hz:=Kr ((a.toNat - 240)*262144+(b.toNat - 128)*4096+(c.toNat - 128)*64+(d.toNat - 128)) 4 jO;generalize hr:(a.toNat - 240)*262144+(b.toNat - 128)*4096+(c.toNat - 128)*64+(d.toNat - 128)=r at hi hz ⊢;by_cases hh:Eo (r:Int)=4
      ·have h5:=hz.1 hh;have h6:=hi.2.2.2.1 h5.2;rw [if_pos hh,if_pos (by simp only [jag,decide_eq_true_eq];exact ⟨h6,h5.1⟩)]
      ·rw [if_neg hh,if_neg];simp only [jag,decide_eq_true_eq];rintro ⟨h5,h6⟩;exact hh (hz.2 ⟨h6,hi.2.2.2.2 h5⟩)
     ·simp [cb,cc,cd]
    ·simp [cb,cc]
   ·simp [cb]
 simp only [if_neg h5];simp
end Utf
end
section
open Go.RowKit Utf
theorem G6 {n:Nat} {z:Int} (h:n<256) (e:z=n):Value.int .u8 z=Es (u n):=by
 unfold Es;rw [Au h,e]
theorem Us {r:Int} (h0:0<=r) (h:r<128):[Value.int .u8 r]=(enc r.toNat).map Es:=by
 unfold enc;rw [if_pos jO,List.map_cons,List.map_nil,<- G6 (z:=r) jO jO]
theorem Ut {r:Int} (h0:128<=r) (h:r<=2047):[Value.int .u8 (192+r / 64),.int .u8 (128+r % 64)]=(enc r.toNat).map Es:=by
 unfold enc;rw [if_neg jO,if_pos jO,List.map_cons,List.map_cons,List.map_nil,<- G6 (z:=192+r / 64) jO jO,<- G6 (z:=128+r % 64) jO jO]
theorem Uu {r:Int} (h0:2047<r) (h:r<=65535):[Value.int .u8 (224+r / 4096),.int .u8 (128+r / 64 % 64),.int .u8 (128+r % 64)]=(enc r.toNat).map Es:=by
 unfold enc;rw [if_neg jO,if_neg jO,if_pos jO,List.map_cons,List.map_cons,List.map_cons,List.map_nil,<- G6 (z:=224+r / 4096) jO jO,<- G6 (z:=128+r / 64 % 64) jO jO,<- G6 (z:=128+r % 64) jO jO]
theorem Uv {r:Int} (h0:65535<r) (h:r<=1114111):[Value.int .u8 (240+r / 262144),.int .u8 (128+r / 4096 % 64),.int .u8 (128+r / 64 % 64),.int .u8 (128+r % 64)]=(enc r.toNat).map Es:=by
 unfold enc;rw [if_neg jO,if_neg jO,if_neg jO,List.map_cons,List.map_cons,List.map_cons,List.map_cons,List.map_nil,<- G6 (z:=240+r / 262144) jO jO,<- G6 (z:=128+r / 4096 % 64) jO jO,<- G6 (z:=128+r / 64 % 64) jO jO,<- G6 (z:=128+r % 64) jO jO]
theorem Po {r:Int} (h0:0<=r) (h:r<128):Eo r=1/\(enc r.toNat).length=1:=by
 rw [Ed];unfold Eo lenOf;rw [if_pos ((An r).2 jO),if_pos jO];exact ⟨rfl,rfl⟩
theorem Pp {r:Int} (h0:128<=r) (h:r<=2047):Eo r=2/\(enc r.toNat).length=2:=by
 rw [Ed];unfold Eo lenOf;rw [if_pos ((An r).2 jO),if_neg jO,if_pos jO];exact ⟨rfl,rfl⟩
theorem Pq {r:Int} (h0:2047<r) (h:r<=65535) (hr:Ak r=true):Eo r=3/\(enc r.toNat).length=3:=by
 rw [Ed];unfold Eo lenOf;rw [if_pos hr,if_neg jO,if_neg jO,if_pos jO];exact ⟨rfl,rfl⟩
theorem Pr {r:Int} (h0:65535<r) (h:r<=1114111):Eo r=4/\(enc r.toNat).length=4:=by
 rw [Ed];unfold Eo lenOf;rw [if_pos ((An r).2 jO),if_neg jO,if_neg jO,if_neg jO];exact ⟨rfl,rfl⟩
def Ok (base:Nat) (bs:List UInt8) (r:Int) (w:World) (e:Ending) (w':World):Prop:=∃ v',e=.returned v'/\Bw base v' (bs ++ enc r.toNat) w'/\Below base w w'
theorem As0 (base:Nat) (v:Value) (bs:List UInt8) (r:Int) (w:World) (h1:0<=r) (h2:r<128) (hown:Bw base v bs w) (hbase:base<=w.heap.size) (hlen:bs.length<=100000) :
  Calls prog 62 #[v,.int .i32 r] w (Ok base bs r w):=by
 have hL:=Nf r w;rw [(Po h1 h2).1] at hL;have HO:=jH hown;clear hown;go_enter func62,ntmps62;go_wp2_with (first
  | (go_at_call 42;refine hL.mono ?_;rintro e w' ⟨rfl,rfl⟩)
  | (go_at_call 98;refine (Ql _ jO jO _).mono ?_;rintro e w' ⟨rfl,rfl⟩)
  | (at_builtin;refine Ap w 77 5 (.int .u8 0) 1 underlying77 Fq rfl jO base v _ _ HO.out hbase jO 1 jO _ rfl rfl rfl _ _ rfl rfl rfl ?_;intro v' w1 ho hb))
 go_ret;exact ⟨v',rfl,Bw.more ho (Us h1 h2) (Po h1 h2).2.symm,hb⟩
theorem As1 (base:Nat) (v:Value) (bs:List UInt8) (r:Int) (w:World) (h1:128<=r) (h2:r<=2047) (hown:Bw base v bs w) (hbase:base<=w.heap.size) (hlen:bs.length<=100000) :
  Calls prog 62 #[v,.int .i32 r] w (Ok base bs r w):=by
 have hL:=Nf r w;rw [(Pp h1 h2).1] at hL;have HO:=jH hown;clear hown;go_enter func62,ntmps62;go_wp2_with (first
  | (go_at_call 42;refine hL.mono ?_;rintro e w' ⟨rfl,rfl⟩)
  | (go_at_call 98;refine (Ql _ jO jO _).mono ?_;rintro e w' ⟨rfl,rfl⟩)
  | (at_builtin;refine Ap w 77 5 (.int .u8 0) 1 underlying77 Fq rfl jO base v _ _ HO.out hbase jO 2 jO _ rfl rfl rfl _ _ rfl rfl rfl ?_;intro v' w1 ho hb))
 go_ret;exact ⟨v',rfl,Bw.more ho (Ut h1 h2) (Pp h1 h2).2.symm,hb⟩
theorem As2 (base:Nat) (v:Value) (bs:List UInt8) (r:Int) (w:World) (h1:2047<r) (h2:r<=65535) (hr:Ak r=true) (hown:Bw base v bs w) (hbase:base<=w.heap.size) (hlen:bs.length<=100000) :
  Calls prog 62 #[v,.int .i32 r] w (Ok base bs r w):=by
 have hL:=Nf r w;rw [(Pq h1 h2 hr).1] at hL;have HO:=jH hown;clear hown;go_enter func62,ntmps62;go_wp2_with (first
  | (go_at_call 42;refine hL.mono ?_;rintro e w' ⟨rfl,rfl⟩)
  | (go_at_call 98;refine (Ql _ jO jO _).mono ?_;rintro e w' ⟨rfl,rfl⟩)
  | (at_builtin;refine Ap w 77 5 (.int .u8 0) 1 underlying77 Fq rfl jO base v _ _ HO.out hbase jO 3 jO _ rfl rfl rfl _ _ rfl rfl rfl ?_;intro v' w1 ho hb))
 go_ret;exact ⟨v',rfl,Bw.more ho (Uu h1 h2) (Pq h1 h2 hr).2.symm,hb⟩
theorem As3 (base:Nat) (v:Value) (bs:List UInt8) (r:Int) (w:World) (h1:65535<r) (h2:r<=1114111) (hown:Bw base v bs w) (hbase:base<=w.heap.size) (hlen:bs.length<=100000) :
  Calls prog 62 #[v,.int .i32 r] w (Ok base bs r w):=by
 have hL:=Nf r w;rw [(Pr h1 h2).1] at hL;have HO:=jH hown;clear hown;go_enter func62,ntmps62;go_wp2_with (first
  | (go_at_call 42;refine hL.mono ?_;rintro e w' ⟨rfl,rfl⟩)
  | (go_at_call 98;refine (Ql _ jO jO _).mono ?_;rintro e w' ⟨rfl,rfl⟩)
  | (at_builtin;refine Ap w 77 5 (.int .u8 0) 1 underlying77 Fq rfl jO base v _ _ HO.out hbase jO 4 jO _ rfl rfl rfl _ _ rfl rfl rfl ?_;intro v' w1 ho hb))
 go_ret;exact ⟨v',rfl,Bw.more ho (Uv h1 h2) (Pr h1 h2).2.symm,hb⟩
theorem Aod (base:Nat) (v:Value) (bs:List UInt8) (r:Int) (w:World) (hr:Ak r=true) (hown:Bw base v bs w) (hbase:base<=w.heap.size) (hlen:bs.length<=100000) :
  Calls prog 62 #[v,.int .i32 r] w (Ok base bs r w):=by
 have hb:=(An r).1 hr;rcases (show r<128\/(128<=r/\r<=2047)\/(2047<r/\r<=65535)\/65535<r by omega) with h | ⟨h4,h5⟩ | ⟨h4,h5⟩ | h
 ·exact As0 base v bs r w hb.1 h hown hbase hlen
 ·exact As1 base v bs r w h4 h5 hown hbase hlen
 ·exact As2 base v bs r w h4 h5 hr hown hbase hlen
 ·exact As3 base v bs r w h hb.2.1 hown hbase hlen
end
section
open Go.RowKit Utf
namespace Utf
def Ae (l:List Int):List UInt8:=l.flatMap λr=>enc r.toNat
def Ad (l:List Int):Bool:=l.all Ak
theorem Jw (l:List Int) (r:Int):Ae (l ++ [r])=Ae l ++ enc r.toNat:=by simp [Ae]
theorem Ie (l:List Int) (r:Int):Ad (l ++ [r])=(Ad l && Ak r):=by simp [Ad]
theorem Db (l:List Int):(Ae l).length<=4*l.length:=by
 induction l with
 | nil=>simp [Ae]
 | cons r l ih =>
  have:=Aec r.toNat;simp only [Ae,jao,jab,jac] at ih ⊢;omega
theorem Cy (l:List Int) (k:Nat) (h:k<l.length):l.take (k+1)=l.take k ++ [l[k]!]:=by
 rw [List.take_succ_eq_append_getElem h,getElem!_pos l k h]
theorem Qd {l:List Int} {k:Nat} (h:k<l.length) (hr:Ak l[k]! = false):Ad l=false:=by
 unfold Ad;rw [List.all_eq_false];exact ⟨l[k]!,by rw [getElem!_pos l k h];exact List.getElem_mem h,by rw [hr];simp⟩
end Utf
def Zc (l:List Int) (w:World) (e:Ending) (w':World):Prop :=
 e=.returned (if Ad l then .tuple #[.string ⟨(Ae l).toArray⟩,.bool true] else .tuple #[.string ⟨#[]⟩,.bool false])/\Below w.heap.size w w'
theorem Oh (v:Value) (l:List Int) (w:World) (hl:Runes v l w) (hn:l.length<=20000):Calls prog 36 #[v] w (Zc l w):=by
 obtain ⟨A,c,rfl,hc,hcell⟩:=hl.form;have HC:=jH hcell;clear hl hcell;go_enter func36,ntmps36;go_wp2;refine Qp 0 rfl ?_;go_wp2;go_loopg [4,9] (l.length+1) (λgk v i wr=>∃ k:Nat,k<=l.length/\i=.int .i64 k/\l.length - k<gk/\Hid (Ad (l.take k)=true/\Bw w.heap.size v (Ae (l.take k)) wr/\Below w.heap.size w wr))
 case atStart=>exact ⟨0,Nat.zero_le _,rfl,by omega,⟨rfl,Bw.nil _ _,jan _ _⟩⟩
 case round =>
  obtain ⟨k,hk,rfl,hg,I⟩:=hrel;by_cases hlt:k<l.length
  ·obtain ⟨ad,rfl,hb,hx⟩:=HC.out k hlt;have hx':=(I.out.2.2.cell (by rw [Ah];exact hb)).trans hx;obtain ⟨x,hxe⟩:∃ x,x=l[k]!:=⟨_,rfl⟩
   rw [<- hxe] at hx';have HX:=jH hxe;have hR:=Ir x wr;clear hx hb hxe;cases hr:Ak x with
   | false =>
    rw [hr] at hR;have HR:=jH hr;clear hr;go_wp2_with (go_at_call 61;((with_reducible refine hR.mono ?_);rintro e w' ⟨rfl,rfl⟩));go_step3;refine ⟨rfl,?_⟩;go_wp2;rw [Exit.noGoto_ret];go_ret2;exact ⟨by rw [Qd hlt (by rw [<- HX.out];exact HR.out)];rfl,I.out.2.2⟩
   | true =>
    rw [hr] at hR;have HR:=jH hr;clear hr;go_wp2_with (go_at_call 61;((with_reducible refine hR.mono ?_);rintro e w' ⟨rfl,rfl⟩));refine (Aod w.heap.size u4 _ x wr HR.out I.out.2.1 I.out.2.2.size (by have:=Db (l.take k);rw [jak] at this;omega)).mono ?_;rintro e w2 ⟨v2,rfl,ho2,hb2⟩;have I2:Hid (Ad (l.take (k+1))=true/\Bw w.heap.size v2 (Ae (l.take (k+1))) w2/\Below w.heap.size w w2):=by
     refine ⟨?_,?_,I.out.2.2.trans hb2⟩
     · rw [Cy l k hlt,Ie,<- HX.out,I.out.1,HR.out];rfl
     · rw [Cy l k hlt,Jw,<- HX.out];exact ho2
    clear hR ho2 hb2 hx' I HX;go_wp2;go_roundg (l.length - k)
    case measure=>omega
    case rel=>exact ⟨k+1,by omega,by go_num,by omega,I2⟩
  ·obtain rfl:k=l.length:=jO
   have hconv:=Fj I.out.2.1.bytes;go_wp2;go_ret2;refine ⟨?_,I.out.2.2⟩;have hr:=I.out.1;rw [List.take_length] at hr;rw [hr];rfl
end
section
open Go.RowKit Utf
def Jp (r:Int) (w:World) (e:Ending) (w':World):Prop:=∃ v',e=.returned v'/\Bytes v' (enc r.toNat) w'/\Below w.heap.size w w'
theorem Jr (w:World) (cells:List Value) (bs:List UInt8) (h:cells=bs.map Es) (m:Nat) (hm:m=bs.length):Bytes (.slice (some ⟨w.heap.size,0,none⟩) m m) bs (w.alloc (.cells cells.toArray 5)):=by
 subst h hm;refine ⟨some ⟨w.heap.size,0,none⟩,bs.length,by rw [jai],by rw [jai];exact jaa _,λh=>(by cases h),λ_=>⟨_,rfl,by simp,λj u hu=>?_⟩⟩;have e:(⟨w.heap.size,0,none⟩:Addr).add j=⟨w.heap.size,j,none⟩:=by unfold Addr.add;split<;>simp_all
 rw [e,World.cell?_alloc_at _ _ _ _ jS,<- hu];simp
theorem Ai4 (r:Int) (w:World) (h1:0<=r) (h2:r<128):Calls prog 48 #[.int .i32 r] w (Jp r w):=by
 have hL:=E8 r w;rw [(Po h1 h2).1] at hL;go_enter func48,ntmps48;go_wp2_with (go_at_call 72;refine hL.mono ?_;rintro e w' ⟨rfl,rfl⟩);go_ret;exact ⟨_,rfl,Jr _ _ _ (Us h1 h2) _ (Po h1 h2).2.symm,Ac _ _⟩
theorem Ai5 (r:Int) (w:World) (h1:128<=r) (h2:r<=2047):Calls prog 48 #[.int .i32 r] w (Jp r w):=by
 have hL:=E8 r w;rw [(Pp h1 h2).1] at hL;go_enter func48,ntmps48;go_wp2_with (go_at_call 72;refine hL.mono ?_;rintro e w' ⟨rfl,rfl⟩);go_ret;exact ⟨_,rfl,Jr _ _ _ (Ut h1 h2) _ (Pp h1 h2).2.symm,Ac _ _⟩
theorem Ai6 (r:Int) (w:World) (h1:2047<r) (h2:r<=65535) (hr:Ak r=true):Calls prog 48 #[.int .i32 r] w (Jp r w):=by
 have hL:=E8 r w;rw [(Pq h1 h2 hr).1] at hL;go_enter func48,ntmps48;go_wp2_with (go_at_call 72;refine hL.mono ?_;rintro e w' ⟨rfl,rfl⟩);go_ret;exact ⟨_,rfl,Jr _ _ _ (Uu h1 h2) _ (Pq h1 h2 hr).2.symm,Ac _ _⟩
theorem Ai7 (r:Int) (w:World) (h1:65535<r) (h2:r<=1114111):Calls prog 48 #[.int .i32 r] w (Jp r w):=by
 have hL:=E8 r w;rw [(Pr h1 h2).1] at hL;go_enter func48,ntmps48;go_wp2_with (go_at_call 72;refine hL.mono ?_;rintro e w' ⟨rfl,rfl⟩);go_ret;exact ⟨_,rfl,Jr _ _ _ (Uv h1 h2) _ (Pr h1 h2).2.symm,Ac _ _⟩
theorem Gf (r:Int) (w:World) (hr:Ak r=true):Calls prog 48 #[.int .i32 r] w (Jp r w):=by
 have hb:=(An r).1 hr;rcases (show r<128\/(128<=r/\r<=2047)\/(2047<r/\r<=65535)\/65535<r by omega) with h | ⟨h4,h5⟩ | ⟨h4,h5⟩ | h
 · exact Ai4 r w hb.1 h
 · exact Ai5 r w h4 h5
 · exact Ai6 r w h4 h5 hr
 · exact Ai7 r w h hb.2.1
theorem W8 (v:Value) (l:List Int) (w:World) (hl:Runes v l w) (hn:l.length<=20000):Calls prog 29 #[v] w (Zc l w):=by
 obtain ⟨A,c,rfl,hc,hcell⟩:=hl.form;have HC:=jH hcell;clear hl hcell;go_enter func29,ntmps29;go_wp2;go_loopg [4,5] (l.length+1) (λgk v i wr=>∃ k:Nat,k<=l.length/\i=.int .i64 k/\l.length - k<gk/\Hid (Ad (l.take k)=true/\Bw w.heap.size v (Ae (l.take k)) wr/\Below w.heap.size w wr))
 case atStart=>exact ⟨0,Nat.zero_le _,rfl,by omega,⟨rfl,Bw.nil _ _,jan _ _⟩⟩
 case round =>
  obtain ⟨k,hk,rfl,hg,I⟩:=hrel;by_cases hlt:k<l.length
  ·obtain ⟨ad,rfl,hb,hx⟩:=HC.out k hlt;have hx':=(I.out.2.2.cell (by rw [Ah];exact hb)).trans hx;obtain ⟨x,hxe⟩:∃ x,x=l[k]!:=⟨_,rfl⟩
   rw [<- hxe] at hx';have HX:=jH hxe;have hR:=Fh x wr;clear hx hb hxe;cases hr:Ak x with
   | false =>
    rw [hr] at hR;have HR:=jH hr;clear hr;go_wp2_with (go_at_call 47;((with_reducible refine hR.mono ?_);rintro e w' ⟨rfl,rfl⟩));go_ret2;exact ⟨by rw [Qd hlt (by rw [<- HX.out];exact HR.out)];rfl,I.out.2.2⟩
   | true =>
    rw [hr] at hR;have HR:=jH hr;have hB:=Gf x wr hr;clear hr;have hle:(Ae (l.take k)).length<=100000:=by have:=Db (l.take k);rw [jak] at this;omega
    go_wp2_with (first
     | (go_at_call 47;((with_reducible refine hR.mono ?_);rintro e w' ⟨rfl,rfl⟩))
     | (go_at_call 48;((with_reducible refine hB.mono ?_);rintro e w2 ⟨v2,rfl,hs2,hb2⟩;have HS:=jH hs2;have HB:=jH hb2;clear hs2 hb2))
     | (at_builtin;refine Bu w2 77 5 (.int .u8 0) 1 underlying77 Fq rfl jO w.heap.size u4 _ _ (I.out.2.1.Af HB.out) (Nat.le_trans I.out.2.2.size HB.out.size) jO v2 _ HS.out (Ait _) (by rw [jai];have:=Aec x.toNat;omega) rfl _ _ rfl rfl rfl ?_;intro v3 w3 ho3 hb3;have HO:=jH ho3;have HB3:=jH hb3;clear ho3 hb3))
    have I2:Hid (Ad (l.take (k+1))=true/\Bw w.heap.size v3 (Ae (l.take (k+1))) w3/\Below w.heap.size w w3):=by
     refine ⟨?_,?_,(I.out.2.2.trans (HB.out.mono I.out.2.2.size)).trans HB3.out⟩
     · rw [Cy l k hlt,Ie,<- HX.out,I.out.1,HR.out];rfl
     · rw [Cy l k hlt,Jw,<- HX.out];exact Bw.more HO.out rfl (by rw [jai])
    go_roundg (l.length - k)
    case measure=>omega
    case rel=>exact ⟨k+1,by omega,by go_num,by omega,I2⟩
  ·obtain rfl:k=l.length:=jO
   have hconv:=Fj I.out.2.1.bytes;go_wp2;go_ret2;refine ⟨?_,I.out.2.2⟩;have hr:=I.out.1;rw [List.take_length] at hr;rw [hr];rfl
end
section
open Go.RowKit Utf
namespace Utf
def Bn:List UInt8->Nat->Int
 | [],_=>-1
 | b::t,k=>if b.toNat<128 then Bn t (k+1) else k
def Ba (s:List UInt8):Int:=Bn s 0
theorem Fc (s:ByteArray) (k:Nat) (h:k<s.size):s.data.toList.drop k=s[k]::s.data.toList.drop (k+1):=by
 rw [List.drop_eq_getElem_cons (by simpa using h)];rfl
theorem Ur (s:ByteArray) (k:Nat) (h:k<s.size):Bn (s.data.toList.drop k) k=if s[k].toNat<128 then Bn (s.data.toList.drop (k+1)) (k+1) else k:=by
 rw [Fc s k h];rfl
theorem Xv (s:ByteArray):Bn (s.data.toList.drop s.size) s.size=-1:=by
 rw [List.drop_of_length_le jS];rfl
end Utf
theorem F1 (s:ByteArray) (w:World) (hs:s.size<=100000):Calls prog 19 #[.string s] w λe w'=>e=.returned (.int .i64 (Ba s.data.toList))/\w=w':=by
 go_enter func19,ntmps19;go_wp2;go_loop [6] (λi=>∃ k:Nat,k<=s.size/\i=.int .i64 k/\Hid (Bn (s.data.toList.drop k) k=Ba s.data.toList)) (λi=>s.size - (intOf i).toNat)
 case atStart=>exact ⟨0,Nat.zero_le _,rfl,(rfl:Bn (s.data.toList.drop 0) 0=Ba s.data.toList)⟩
 case round =>
  obtain ⟨k,hk,rfl,I⟩:=hrel;by_cases hlt:k<s.size
  ·have hst:=Ur s k hlt;by_cases hb:s[k].toNat<128
   ·have I2:Hid (Bn (s.data.toList.drop (k+1)) (k+1)=Ba s.data.toList):=by
     rw [if_pos hb] at hst;exact hst.symm.trans I.out
    clear hst I;go_wp2;go_round
    case rel=>exact ⟨k+1,by omega,by go_num,I2⟩
    case measure=>simp [intOf];omega
   ·have I2:Hid ((k:Int)=Ba s.data.toList):=by
     rw [if_neg hb] at hst;exact hst.symm.trans I.out
    have hb':128<=s[k].toNat:=jO
    clear hst I hb;go_wp2;go_ret;exact ⟨Qc I2.out,rfl⟩
  ·obtain rfl:k=s.size:=jO
   have I2:Hid (-1=Ba s.data.toList):=(Xv s).symm.trans I.out;clear I;go_wp2;go_ret;exact ⟨Qc I2.out,rfl⟩
theorem Kz (s:ByteArray) (w:World) (hs:s.size<=100000):Calls prog 33 #[.string s] w λe w'=>e=.returned (.int .i64 (Ba s.data.toList))/\w=w':=by
 go_enter func33,ntmps33;go_wp2;go_loop [3] (λi=>∃ k:Nat,k<=s.size/\i=.int .i64 k/\Hid (Bn (s.data.toList.drop k) k=Ba s.data.toList)) (λi=>s.size - (intOf i).toNat)
 case atStart=>exact ⟨0,Nat.zero_le _,rfl,(rfl:Bn (s.data.toList.drop 0) 0=Ba s.data.toList)⟩
 case round =>
  obtain ⟨k,hk,rfl,I⟩:=hrel;by_cases hlt:k<s.size
  ·have hst:=Ur s k hlt;by_cases hb:s[k].toNat<128
   ·have I2:Hid (Bn (s.data.toList.drop (k+1)) (k+1)=Ba s.data.toList):=by
     rw [if_pos hb] at hst;exact hst.symm.trans I.out
    clear hst I;go_wp2;go_round
    case rel=>exact ⟨k+1,by omega,by go_num,I2⟩
    case measure=>simp [intOf];omega
   ·have I2:Hid ((k:Int)=Ba s.data.toList):=by
     rw [if_neg hb] at hst;exact hst.symm.trans I.out
    have hb':128<=s[k].toNat:=jO
    clear hst I hb;go_wp2;go_ret;exact ⟨Qc I2.out,rfl⟩
  ·obtain rfl:k=s.size:=jO
   have I2:Hid (-1=Ba s.data.toList):=(Xv s).symm.trans I.out;clear I;go_wp2;go_ret;exact ⟨Qc I2.out,rfl⟩
theorem Asd {a b:List Int} (hl:a.length=b.length) (h:∀ j,j<a.length->a[j]! = b[j]!):a=b:=by
 apply List.ext_getElem hl;intro i h1 h2;have:=h i h1;rw [getElem!_pos a i h1,getElem!_pos b i h2] at this;exact this
def Aq5 (a b:List Int) (w:World) (e:Ending) (w':World):Prop:=e=.returned (.bool (decide (a=b)))/\Below w.heap.size w w'
end
section
open Go.RowKit Utf
namespace Utf
def A9 (s:List UInt8):List Nat × Int :=
 ((readAll s.length s).1,if (readAll s.length s).2.length=0 then -1 else ((s.length - (readAll s.length s).2.length:Nat):Int))
def ints (l:List Nat):List Int:=l.map Int.ofNat
def Eb (s:List UInt8) (l:List Nat) (k:Nat):Prop:=Gv l=true/\s=D0 l ++ s.drop k/\k<=s.length
theorem Eb.nil (s:List UInt8):Eb s [] 0:=⟨rfl,rfl,Nat.zero_le _⟩
theorem Eb.len {s:List UInt8} {l:List Nat} {k:Nat} (h:Eb s l k):(D0 l).length=k:=by
 have h1:=congrArg List.length h.2.1;rw [jab,jaj] at h1;have:=h.2.2;omega
theorem Q7 (l:List Nat):l.length<=(D0 l).length:=by
 induction l with
 | nil=>simp
 | cons r l ih =>
  have:=Kl r;simp only [D0,jao,jab,jac] at ih ⊢;omega
theorem Eb.le {s:List UInt8} {l:List Nat} {k:Nat} (h:Eb s l k):l.length<=k:=by have:=Q7 l;have:=h.len;omega
theorem Eb.next {s:List UInt8} {l:List Nat} {k r n:Nat} (h:Eb s l k) (hd:dec (s.drop k)=some (r,n)):Eb s (l ++ [r]) (k+n)/\1<=n:=by
 obtain ⟨h1,h2,h3⟩:=Il hd;have hp:=Kl r;have hl:=congrArg List.length h3;rw [jab,jaj,List.drop_drop,jaj] at hl;refine ⟨⟨?_,?_,?_⟩,by omega⟩
 ·simp only [Gv,List.all_append,List.all_cons,List.all_nil,Bool.and_true,jag];exact ⟨h.1,h1⟩
 ·simp only [D0,List.flatMap_append,jao,List.flatMap_nil,List.append_nil,jaq];rw [List.drop_drop] at h3;have e:=h.2.1;rw [h3] at e;exact e
 ·have:=h.2.2;omega
theorem Eb.stop {s:List UInt8} {l:List Nat} {k:Nat} (h:Eb s l k) (hd:dec (s.drop k)=none) (hk:k<s.length):A9 s=(l,(k:Int)):=by
 unfold A9;rw [I0 l s.length s (s.drop k) h.2.1 h.1 hd (jaa _)];simp only [jaj];rw [if_neg jO,show s.length - (s.length - k)=k by omega]
theorem Eb.all {s:List UInt8} {l:List Nat} (h:Eb s l s.length):A9 s=(l,-1):=by
 unfold A9;rw [I0 l s.length s (s.drop s.length) h.2.1 h.1 (by rw [List.drop_length];rfl) (jaa _)];simp
end Utf
def Xc (s:List UInt8) (w:World) (e:Ending) (w':World):Prop :=
 ∃ v,e=.returned (.tuple #[v,.int .i64 (A9 s).2])/\Runes v (ints (A9 s).1) w'/\Below w.heap.size w w'
theorem Ako (t:ByteArray) (w:World):∃ cap W1,(convert 9 77 (.string t)).run prog w=.ok (.slice (some ⟨w.heap.size,0,none⟩) t.size cap) W1 /\
  (∀ j (h:j<t.size),W1.cell? ⟨w.heap.size,j,none⟩=some (.int .u8 (t[j].toNat:Int)))/\Below w.heap.size w W1/\w.heap.size<W1.heap.size:=by
 refine ⟨_,_,run_bytes_of_string (P:=prog) w 9 77 5 t underlying9 underlying77 underlying5,λj h=>?_,((jan _ w).drew).alloc (jaa _) _,by simp⟩;have:=World.cell?_alloc_mark w.drew (bytesRow t (grownCap w t.size 0 5)) 5 ((bytesRow t (grownCap w t.size 0 5)).size,(bytesRow t (grownCap w t.size 0 5)).size+1) j;exact this.trans (bytesRow_at t _ j h)
theorem An6 (n:Nat):(D1 n).2<=4/\0<=(D1 n).1/\((D1 n).2=2->(D1 n).1<32)/\((D1 n).2=3->(D1 n).1<16)/\((D1 n).2=4->(D1 n).1<8)/\((D1 n).2=1->(D1 n).1<128):=by
 unfold D1
 repeat' split
 all_goals simp
 all_goals omega
theorem Aor (s:ByteArray) (k n m:Nat) (hm:m+1=n) (hle:k+n<=s.size):(s.extract (k+1) (k+n)).size=m/\(s.extract (k+1) (k+n)).data.toList=(s.data.toList.drop (k+1)).take m:=by
 have e:(s.extract (k+1) (k+n)).data.toList=(s.data.toList.drop (k+1)).take m:=by
  rw [ByteArray.data_extract,Array.toList_extract,List.extract_eq_take_drop];congr 1;omega
 refine ⟨?_,e⟩;have:=congrArg List.length e;rw [jak,jaj] at this;simp only [Array.length_toList,ByteArray.size_data] at this;omega
theorem Apg (n:Nat) (h:n<256):bits .and .u8 (n:Int) 192=((n / 64*64:Nat):Int):=by
 have e:=u8_and_nat n 192 h jO;have e2:∀ m:Fin 256,m.val &&& 192=m.val / 64*64:=by decide +kernel
 have e3:=e2 ⟨n,h⟩;simp only at e3;rw [e3] at e;exact e
theorem Ahp (b:UInt8):(bits .and .u8 (b.toNat:Int) 192 != 128)=!(cont b):=by
 rw [Apg _ (Dp b),Bool.eq_iff_iff];have:=Dp b;unfold cont;simp;omega
theorem Ajo (s:ByteArray) (w:World) (hs:s.size<=100000):Calls prog 35 #[.string s] w (Xc s.data.toList w):=by
 go_enter func35,ntmps35;go_wp2;refine Qp 0 rfl ?_;go_wp2;go_loopg [4,5] (s.size+1) (λgk v i wr=>∃ (l:List Nat) (k:Nat),k<=s.size/\i=.int .i64 k/\s.size - k<gk/\Hid (Eb s.data.toList l k/\Ai w.heap.size v (ints l) wr/\Below w.heap.size w wr))
 case atStart=>exact ⟨[],0,Nat.zero_le _,rfl,by omega,⟨Eb.nil _,Ai.nil _ _,jan _ _⟩⟩
 case round =>
  obtain ⟨l,k,hk,rfl,hg,I⟩:=hrel;by_cases hlt:k<s.size
  ·have hH:=Alm s[k].toNat (Dp _) wr;have hD:=Fc s k hlt;have hT:=Aj0 s[k] (s.data.toList.drop (k+1));have hl4:=An6 s[k].toNat;unfold Afx at hT;rw [<- hD] at hT;generalize D1 s[k].toNat=p at hH hT hl4;obtain ⟨r0,n⟩:=p;simp only at hH hT hl4;have HT:=jH hT;clear hT hD;by_cases h0:n=0
   ·subst h0;have hN:dec (s.data.toList.drop k)=none:=by rw [<- HT.out,if_pos (.inl rfl)]
    have HN:=jH hN;clear hN hl4;go_wp2_with (go_at_call 60;((with_reducible refine hH.mono ?_);rintro e w' ⟨rfl,rfl⟩));go_step3;refine ⟨rfl,?_⟩;go_wp2;rw [Exit.noGoto_ret];go_ret2;have hr:=I.out.1.stop HN.out (by simpa using hlt);exact ⟨u4,by rw [hr];rfl,by rw [hr];exact I.out.2.1.Fb,I.out.2.2⟩
   ·have h0':((n:Int) == 0)=false:=by simpa using h0
    by_cases hle:n<=s.size - k
    ·have hdc:decide ((s.size:Int) - (k:Int)<(n:Int))=false:=by simp;omega
     have hle':(n:Int)<=(s.size:Int) - (k:Int):=jO
     obtain ⟨m,hm⟩:∃ m,m+1=n:=⟨n - 1,by omega⟩
     obtain ⟨hts,htl⟩:=Aor s k n m hm jO;obtain ⟨cap,W1,hconv,hcell,hbW,hsz⟩:=Ako (s.extract (k+1) (k+n)) wr;rw [hts] at hconv;have HC:=jH hcell;have HB:=jH hbW;have HTS:=jH hts;have HTL:=jH htl;have HM:=jH hm;have hm3:m<=3:=jO
     clear hcell hbW hts htl hm;go_wp2_with (go_at_call 60;((with_reducible refine hH.mono ?_);rintro e w' ⟨rfl,rfl⟩));go_loop [6,40] (λr i=>∃ (j:Nat) (acc:Int),j<=m/\r=.int .i32 acc/\i=.int .i64 j/\0<=acc/\(j=0->acc<128)/\(0<m->j=0->acc<32)/\(j=1->acc<2048)/\(j=2->acc<131072)/\(j=3->acc<8388608) /\
      Hid (E3 acc (((s.data.toList.drop (k+1)).take m).drop j)=E3 r0 ((s.data.toList.drop (k+1)).take m))) (λ_ i=>m - (intOf i).toNat)
     case atStart =>
      refine ⟨0,r0,Nat.zero_le _,rfl,rfl,hl4.2.1,λ_=>?_,λh _=>?_,λh=>jO,λh=>jO,λh=>jO,(rfl:E3 r0 (((s.data.toList.drop (k+1)).take m).drop 0)=_)⟩
      ·have:=HM.out;omega
      ·have:=HM.out;omega
     case round =>
      obtain ⟨j,acc,hj,rfl,rfl,ha0,b0,b0',b1,b2,b3,J⟩:=hrel;by_cases hjm:j<m
      ·have hja:j<(s.extract (k+1) (k+n)).size:=by rw [HTS.out];exact hjm
       have hc:=HC.out j hja;have hdn:((s.data.toList.drop (k+1)).take m).drop j=(s.extract (k+1) (k+n))[j]::((s.data.toList.drop (k+1)).take m).drop (j+1):=by
        rw [<- HTL.out];exact Fc _ j hja
       generalize (s.extract (k+1) (k+n))[j]=b at hc hdn;have hb:=Dp b;have hct:=Ahp b;have hcv:E3 acc (((s.data.toList.drop (k+1)).take m).drop j)=if cont b then E3 (acc*64+((b.toNat % 64:Nat):Int)) (((s.data.toList.drop (k+1)).take m).drop (j+1)) else none:=by rw [hdn];rfl
       have hbz:(b.toNat:Int)<256:=jO
       have hjz:(j:Int)<(m:Int):=jO
       cases hco:cont b with
       | false =>
        rw [hco] at hct hcv;have hno:dec (s.data.toList.drop k)=none:=by
         rw [<- HT.out];split
         ·rfl
         ·rw [show n - 1=m by have:=HM.out;omega,<- J.out,hcv];rfl
        have HN:=jH hno;clear hno hcv hdn J hco;simp only [Bool.not_false] at hct;go_wp2;go_step3;refine ⟨rfl,?_⟩;go_wp2;rw [Exit.noGoto_ret];go_ret2;have hr:=I.out.1.stop HN.out (by simpa using hlt);exact ⟨u4,by rw [hr];rfl,by rw [hr];exact (I.out.2.1.Af HB.out).Fb,I.out.2.2.trans (HB.out.mono I.out.2.2.size)⟩
       | true =>
        rw [hco] at hct hcv;have J2:Hid (E3 (acc*64+((b.toNat % 64:Nat):Int)) (((s.data.toList.drop (k+1)).take m).drop (j+1))=E3 r0 ((s.data.toList.drop (k+1)).take m)):=by
         rw [if_pos rfl] at hcv;exact hcv.symm.trans J.out
        clear hcv hdn J hco;simp only [Bool.not_true] at hct;have hacc:acc<131072:=jO
        go_wp2;go_round
        case rel=>exact ⟨j+1,acc*64+((b.toNat % 64:Nat):Int),by omega,by go_num,by go_num,by omega,λh=>jO,λ_ h=>jO,λh=>jO,λh=>jO,λh=>jO,J2⟩
        case measure=>simp [intOf];omega
      ·obtain rfl:j=m:=jO
       have hcv:E3 r0 ((s.data.toList.drop (k+1)).take j)=some acc:=by
        rw [<- J.out,List.drop_of_length_le (by rw [jak];omega)];rfl
       have hT:=HT.out;rw [if_neg (by simp;omega),show n - 1=j by have:=HM.out;omega,hcv] at hT;simp only at hT;have HT2:=jH hT;have hL:=Nf acc W1;clear hT hcv J HC HTS HTL HT hconv;by_cases hln:Eo acc=n
       ·rw [hln] at hL;have hne:((n:Int) != (n:Int))=false:=by simp
        have hdc2:dec (s.data.toList.drop k)=some (acc.toNat,n):=by rw [<- HT2.out,if_pos hln]
        have hnx:=I.out.1.next hdc2;have HX:=jH hnx;have hkn:k+n<=s.size:=jO
        have hll:(ints l).length<=1000000:=by have:=I.out.1.le;simp only [ints,jai];omega
        clear hdc2 hnx hln HT2;go_wp2_with (first
         | (go_at_call 42;((with_reducible refine hL.mono ?_);rintro e w' ⟨rfl,rfl⟩))
         | (at_builtin;refine Ap W1 56 21 (.int .i32 0) 4 underlying56 Am rfl jO w.heap.size u4 _ _ (I.out.2.1.Af HB.out) (Nat.le_trans I.out.2.2.size HB.out.size) hll 1 jO _ rfl rfl rfl _ _ rfl rfl rfl ?_;intro v2 w2 ho2 hb2;have HO:=jH ho2;have HB2:=jH hb2;clear ho2 hb2))
        have I2:Hid (Eb s.data.toList (l ++ [acc.toNat]) (k+n)/\Ai w.heap.size v2 (ints (l ++ [acc.toNat])) w2/\Below w.heap.size w w2):=by
         refine ⟨HX.out.1,?_,(I.out.2.2.trans (HB.out.mono I.out.2.2.size)).trans HB2.out⟩;have e:ints (l ++ [acc.toNat])=ints l ++ [acc]:=by
          simp only [ints,List.map_append,List.map_cons,List.map_nil];rw [show Int.ofNat acc.toNat=acc by simp;omega]
         rw [e];exact Ai.more HO.out rfl rfl
        have hn1:=HX.out.2;go_roundg (s.size - k)
        case measure=>omega
        case rel=>exact ⟨l ++ [acc.toNat],k+n,by omega,by go_num,by omega,I2⟩
       ·have hne:((Eo acc:Int) != (n:Int))=true:=by simpa using (by omega:¬ (Eo acc:Int)=(n:Int))
        have hno:dec (s.data.toList.drop k)=none:=by rw [<- HT2.out,if_neg hln]
        have HN:=jH hno;clear hno hln HT2;go_wp2_with (go_at_call 42;((with_reducible refine hL.mono ?_);rintro e w' ⟨rfl,rfl⟩));go_step3;refine ⟨rfl,?_⟩;go_wp2;rw [Exit.noGoto_ret];go_ret2;have hr:=I.out.1.stop HN.out (by simpa using hlt);exact ⟨u4,by rw [hr];rfl,by rw [hr];exact (I.out.2.1.Af HB.out).Fb,I.out.2.2.trans (HB.out.mono I.out.2.2.size)⟩
    ·have hdc:decide ((s.size:Int) - (k:Int)<(n:Int))=true:=by simp;omega
     have hle':(s.size:Int) - (k:Int)<(n:Int):=jO
     have hN:dec (s.data.toList.drop k)=none:=by rw [<- HT.out,if_pos (.inr (by simp;omega))]
     have HN:=jH hN;clear hN hl4;go_wp2_with (go_at_call 60;((with_reducible refine hH.mono ?_);rintro e w' ⟨rfl,rfl⟩));go_step3;refine ⟨rfl,?_⟩;go_wp2;rw [Exit.noGoto_ret];go_ret2;have hr:=I.out.1.stop HN.out (by simpa using hlt);exact ⟨u4,by rw [hr];rfl,by rw [hr];exact I.out.2.1.Fb,I.out.2.2⟩
  ·obtain rfl:k=s.size:=jO
   go_wp2;go_ret2;have hr:=Eb.all (s:=s.data.toList) (l:=l) (by simpa using I.out.1);exact ⟨u4,by rw [hr];rfl,by rw [hr];exact I.out.2.1.Fb,I.out.2.2⟩
end
