import Derived.Test.YthnhgmdlbfbhjaaGreatUtfA
set_option maxRecDepth 100000
set_option maxHeartbeats 8000000
namespace Go.Proofs.YthnhgmdlbfbhjaaGreat
open Tryz
section
open Go.RowKit Utf
namespace Utf
def oneOf (s:List UInt8):Int × Int:=match dec s with | some (r,n)=>((r:Int),(n:Int)) | none=>(0,0)
end Utf
theorem w32 {x:Int} (h0:0<=x) (h1:x<2147483648):wrap32 x=x:=by simp only [wrap32];omega
theorem t32 {b m:Nat}:((b:Int)).tmod (m:Int)=((b % m:Nat):Int):=by rw [Int.tmod_eq_emod_of_nonneg jO];omega
theorem t8 (b m:Nat) (hb:b<256):(wrap32 (b:Int)).tmod (m:Int)=((b % m:Nat):Int):=by rw [w32 jO jO];exact t32
theorem As6 (b c:Nat) (hb:b<256) (hc:c<256):wrap32 (wrap32 ((wrap32 (b:Int)).tmod 32*64)+(wrap32 (c:Int)).tmod 64)=((b % 32*64+c % 64:Nat):Int):=by
 have eb:=t8 b 32 hb;have ec:=t8 c 64 hc;have lb:b % 32<32:=Nat.mod_lt _ jD;have lc:c % 64<64:=Nat.mod_lt _ jD;rw [show (32:Int)=((32:Nat):Int) from rfl,eb,show (64:Int)=((64:Nat):Int) from rfl,ec];generalize b % 32=x at lb ⊢;generalize c % 64=y at lc ⊢;rw [w32 (x:=(x:Int)*((64:Nat):Int)) jO jO,w32 jO jO];omega
theorem As7 (b c d:Nat) (hb:b<256) (hc:c<256) (hd:d<256):wrap32 (wrap32 (wrap32 ((wrap32 (b:Int)).tmod 16*4096)+wrap32 ((wrap32 (c:Int)).tmod 64*64))+(wrap32 (d:Int)).tmod 64)=((b % 16*4096+c % 64*64+d % 64:Nat):Int):=by
 have eb:=t8 b 16 hb;have ec:=t8 c 64 hc;have ed:=t8 d 64 hd;have lb:b % 16<16:=Nat.mod_lt _ jD;have lc:c % 64<64:=Nat.mod_lt _ jD;have ld:d % 64<64:=Nat.mod_lt _ jD;rw [show (16:Int)=((16:Nat):Int) from rfl,eb,show (64:Int)=((64:Nat):Int) from rfl,ec,ed];generalize b % 16=x at lb ⊢;generalize c % 64=y at lc ⊢;generalize d % 64=z at ld ⊢;rw [w32 (x:=(x:Int)*4096) jO jO,w32 (x:=(y:Int)*((64:Nat):Int)) jO jO,w32 (x:=(x:Int)*4096+(y:Int)*((64:Nat):Int)) jO jO,w32 jO jO];omega
theorem As8 (b c d e:Nat) (hb:b<256) (hc:c<256) (hd:d<256) (he:e<256):wrap32 (wrap32 (wrap32 (wrap32 ((wrap32 (b:Int)).tmod 8*262144)+wrap32 ((wrap32 (c:Int)).tmod 64*4096))+wrap32 ((wrap32 (d:Int)).tmod 64*64))+(wrap32 (e:Int)).tmod 64)=((b % 8*262144+c % 64*4096+d % 64*64+e % 64:Nat):Int):=by
 have eb:=t8 b 8 hb;have ec:=t8 c 64 hc;have ed:=t8 d 64 hd;have ee:=t8 e 64 he;have lb:b % 8<8:=Nat.mod_lt _ jD;have lc:c % 64<64:=Nat.mod_lt _ jD;have ld:d % 64<64:=Nat.mod_lt _ jD;have le:e % 64<64:=Nat.mod_lt _ jD;rw [show (8:Int)=((8:Nat):Int) from rfl,eb,show (64:Int)=((64:Nat):Int) from rfl,ec,ed,ee];generalize b % 8=x at lb ⊢;generalize c % 64=y at lc ⊢;generalize d % 64=z at ld ⊢;generalize e % 64=u at le ⊢;rw [w32 (x:=(x:Int)*262144) jO jO,w32 (x:=(y:Int)*4096) jO jO,w32 (x:=(z:Int)*((64:Nat):Int)) jO jO,w32 (x:=(x:Int)*262144+(y:Int)*4096) jO jO,w32 (x:=(x:Int)*262144+(y:Int)*4096+(z:Int)*((64:Nat):Int)) jO jO,w32 jO jO];omega
theorem G0 {s:ByteArray} {L:List UInt8} (h:s.data.toList=L) (i:Nat) (hi:i<s.size):L[i]? = some s[i]:=by
 subst h;rw [List.getElem?_eq_getElem (by simpa using hi)];rfl
theorem Aou (s:ByteArray) (h0:0<s.size) {r:Nat} {t:List UInt8} (hs:s.data.toList=enc r ++ t) (hl:(enc r).length=1):s[0].toNat=r:=by
 rw [Ed] at hl;have hb:=(Ff r).1.1 hl;unfold enc at hs;rw [if_pos hb] at hs;have e0:=G0 hs 0 h0;simp only [jah,List.getElem?_cons_zero,Option.some.injEq] at e0;rw [<- e0,Au jO]
theorem Aov (s:ByteArray) (h0:0<s.size) (h1:1<s.size) {r:Nat} {t:List UInt8} (hs:s.data.toList=enc r ++ t) (hl:(enc r).length=2):s[0].toNat % 32*64+s[1].toNat % 64=r:=by
 rw [Ed] at hl;have hb:=(Ff r).2.1.1 hl;unfold enc at hs;rw [if_neg jO,if_pos jO] at hs;have e0:=G0 hs 0 h0;have e1:=G0 hs 1 h1;simp only [jah,List.getElem?_cons_zero,List.getElem?_cons_succ,Option.some.injEq] at e0 e1;rw [<- e0,<- e1,Au jO,Au jO];omega
theorem Aow (s:ByteArray) (h0:0<s.size) (h1:1<s.size) (h2:2<s.size) {r:Nat} {t:List UInt8} (hs:s.data.toList=enc r ++ t) (hl:(enc r).length=3):s[0].toNat % 16*4096+s[1].toNat % 64*64+s[2].toNat % 64=r:=by
 rw [Ed] at hl;have hb:=(Ff r).2.2.1.1 hl;unfold enc at hs;rw [if_neg jO,if_neg jO,if_pos jO] at hs;have e0:=G0 hs 0 h0;have e1:=G0 hs 1 h1;have e2:=G0 hs 2 h2;simp only [jah,List.getElem?_cons_zero,List.getElem?_cons_succ,Option.some.injEq] at e0 e1 e2;rw [<- e0,<- e1,<- e2,Au jO,Au jO,Au jO];omega
theorem Aox (s:ByteArray) (h0:0<s.size) (h1:1<s.size) (h2:2<s.size) (h3:3<s.size) {r:Nat} {t:List UInt8} (hs:s.data.toList=enc r ++ t) (hr:right r=true) (hl:(enc r).length=4):s[0].toNat % 8*262144+s[1].toNat % 64*4096+s[2].toNat % 64*64+s[3].toNat % 64=r:=by
 rw [Ed] at hl;have hb:=(Ff r).2.2.2.1 hl;have hr':=(D7 r).1 hr;unfold enc at hs;rw [if_neg jO,if_neg jO,if_neg jO] at hs;have e0:=G0 hs 0 h0;have e1:=G0 hs 1 h1;have e2:=G0 hs 2 h2;have e3:=G0 hs 3 h3;simp only [jah,List.getElem?_cons_zero,List.getElem?_cons_succ,Option.some.injEq] at e0 e1 e2 e3;rw [<- e0,<- e1,<- e2,<- e3,Au jO,Au jO,Au jO,Au jO];omega
theorem hit {s:ByteArray} {v n:Nat} (hn:1<=n) (hl:Eo (v:Int)=n) (he:(enc v == (s.extract 0 n).toList)=true):oneOf s.data.toList=((v:Int),(n:Int)):=by
 have h1:=(Kr v n hn).1 hl;rw [beq_iff_eq,ByteArray.toList_eq,ByteArray.data_extract,Array.toList_extract,List.extract_eq_take_drop,List.drop_zero,Nat.sub_zero] at he;have h2:=Hz v h1.1 (s.data.toList.drop n);rw [he,List.take_append_drop,<- he,Ed,h1.2] at h2;unfold oneOf;rw [h2]
def Qq (s:List UInt8) (n:Nat):Prop:=∀ r m,dec s=some (r,m)->n<=m
theorem Qq.next {s:ByteArray} {n v:Nat} (h:Qq s.data.toList n) (hv:∀ r t,s.data.toList=enc r ++ t->right r=true->(enc r).length=n->v=r) (hn:1<=n)
  (hno:Eo (v:Int)=n->(enc v == (s.extract 0 n).toList)=false):Qq s.data.toList (n+1):=by
 intro r m hd;have h1:=h r m hd;obtain ⟨h2,h3,h4⟩:=Il hd;rcases (show n+1<=m\/n=m by omega) with h5 | rfl
 ·exact h5
 ·obtain rfl:=hv r _ h4 h2 h3.symm;have h6:=hno ((Kr v n hn).2 ⟨h2,by rw [<- Ed];exact h3.symm⟩);have h7:enc v=(s.extract 0 n).toList:=by
   rw [ByteArray.toList_eq,ByteArray.data_extract,Array.toList_extract,List.extract_eq_take_drop,List.drop_zero,Nat.sub_zero];have:=congrArg (List.take n) h4;rw [h3,List.take_left',<- h3] at this
   · exact this.symm
   · rfl
  rw [h7,beq_self_eq_true] at h6;cases h6
theorem Qq.none {s:List UInt8} {n:Nat} (h:Qq s n) (hn:n=5\/s.length<n):oneOf s=(0,0):=by
 unfold oneOf;cases hd:dec s with
 | none=>rfl
 | some p =>
  obtain ⟨r,m⟩:=p;have h1:=h r m hd;obtain ⟨h2,h3,h4⟩:=Il hd;have h5:=Aec r;have h6:=congrArg List.length h4;rw [jab] at h6;omega
def Aga (s:List UInt8) (w:World) (e:Ending) (w':World):Prop:=e=.returned (.tuple #[.int .i32 (oneOf s).1,.int .i64 (oneOf s).2])/\Below w.heap.size w w'
theorem Ky {P:Program} {f:FuncId} {args:Array Value} {w:World} {n:Nat} {v:Value} (h:Calls P f args (w.drewN n) λe w'=>e=.returned v/\w.drewN n=w') :
 Calls P f args (w.drewN n) λe w'=>e=.returned v/\∃ m,w'=w.drewN m:=h.mono λ_ _ ⟨he,hw⟩=>⟨he,n,hw.symm⟩
theorem Ks {r:Int} (h:1<=Eo r):Ak r=true:=by
 unfold Eo at h;cases e:Ak r with
 | true=>rfl
 | false=>rw [e] at h;simp at h
theorem Afe (s:ByteArray) (w:World) (hs:s.size<=100000):Calls prog 46 #[.string s] w (Aga s.data.toList w):=by
 go_enter func46,ntmps46;go_wp2;go_loopg [4] 6 (λgk i wr=>∃ n:Nat,1<=n/\n<=5/\i=.int .i64 n/\5 - n<gk/\Hid (Qq s.data.toList n/\Below w.heap.size w wr))
 case atStart=>exact ⟨1,by omega,by omega,rfl,by omega,⟨λr m h=>(by have:=Kl r;have:=(Il h).2.1;omega),jan _ _⟩⟩
 case round =>
  obtain ⟨n,hn1,hn5,rfl,hg,I⟩:=hrel;by_cases hin:n<=4/\n<=s.size
  ·obtain ⟨hn4,hz⟩:=hin;rcases (show n=1\/n=2\/n=3\/n=4 by omega) with rfl | rfl | rfl | rfl
   ·have hz0:0<s.size:=jO
    have q0:(0:Int)<(s.size:Int):=jO
    have qq:(1:Int)<=(s.size:Int):=jO
    have hvi:∀ r t,s.data.toList=enc r ++ t->right r=true->(enc r).length=1->s[0].toNat=r:=λr t h1 _ h3=>Aou s hz0 h1 h3;have hw1:wrap32 (s[0].toNat:Int)=(s[0].toNat:Int):=w32 jO (by have:=Dp s[0];omega);go_wp2;rw [hw1];obtain ⟨wq,hwq⟩:∃ wq,wq=wr:=⟨_,rfl⟩
    rw [<- hwq];have hbq:Below w.heap.size w wq:=hwq ▸ I.out.2;clear hwq hw1;generalize s[0].toNat=v at hvi ⊢;have HV:=jH hvi;have HQ:=jH hbq;have II:=jH I.out.1;clear hvi hbq I;have hL:=λW=>E8 (v:Int) W;by_cases hln:Eo (v:Int)=1
    ·have hB:=λW=>Gf (v:Int) W (Ks jO);rw [hln] at hL;have HL:=jH hL;have HB:=jH hB;have HN:=jH hln;clear hL hB hln;go_region_with (first | (go_at_call 72;((with_reducible refine (HL.out _).mono ?_);rintro e w3 ⟨rfl,rfl⟩)) | (go_at_call 48;(with_reducible refine (HB.out _).mono ?_);rintro e w2 ⟨v2,rfl,hs2,hb2⟩;have hcv:=Fj hs2;have HB2:=jH hb2;clear hs2 hb2))
     go_wp2
     ·have ht:(enc v == (s.extract 0 1).toList)=true:=by assumption
      go_ret2;exact ⟨by rw [hit (n:=1) jO HN.out ht];rfl,HQ.out.drew.trans (HB2.out.mono HQ.out.size)⟩
     ·have ht:(enc v == (s.extract 0 1).toList)=false:=by assumption
      go_roundg 4
      case measure=>omega
      case rel=>exact ⟨2,by omega,by omega,rfl,by omega,⟨II.out.next HV.out jO λ_=>ht,HQ.out.drew.trans (HB2.out.mono HQ.out.size)⟩⟩
    ·have hne:((Eo (v:Int):Int) == 1)=false:=by simpa using (by omega:¬ (Eo (v:Int):Int)=1)
     have HL:=jH hL;have HN:=jH hln;clear hL hln;go_quiet ((go_at_call 72;with_reducible exact Ky (HL.out _)));go_wp2;go_roundg 4
     case measure=>omega
     case rel=>exact ⟨2,by omega,by omega,rfl,by omega,⟨II.out.next HV.out jO λh=>absurd h HN.out,below_drewN HQ.out _⟩⟩
   ·have hz0:0<s.size:=jO
    have hz1:1<s.size:=jO
    have q0:(0:Int)<(s.size:Int):=jO
    have q1:(1:Int)<(s.size:Int):=jO
    have qq:(2:Int)<=(s.size:Int):=jO
    have hvi:∀ r t,s.data.toList=enc r ++ t->right r=true->(enc r).length=2->s[0].toNat % 32*64+s[1].toNat % 64=r:=λr t h1 _ h3=>Aov s hz0 hz1 h1 h3;go_wp2;go_quiet (fail);go_wp2;rw [As6 _ _ (Dp _) (Dp _)];generalize hwq:World.drewN wr _=wq;have hbq:Below w.heap.size w wq:=hwq ▸ below_drewN I.out.2 _;clear hwq;generalize s[0].toNat % 32*64+s[1].toNat % 64=v at hvi ⊢;have HV:=jH hvi;have HQ:=jH hbq;have II:=jH I.out.1;clear hvi hbq I;have hL:=λW=>E8 (v:Int) W;by_cases hln:Eo (v:Int)=2
    ·have hB:=λW=>Gf (v:Int) W (Ks jO);rw [hln] at hL;have HL:=jH hL;have HB:=jH hB;have HN:=jH hln;clear hL hB hln;go_region_with (first | (go_at_call 72;((with_reducible refine (HL.out _).mono ?_);rintro e w3 ⟨rfl,rfl⟩)) | (go_at_call 48;(with_reducible refine (HB.out _).mono ?_);rintro e w2 ⟨v2,rfl,hs2,hb2⟩;have hcv:=Fj hs2;have HB2:=jH hb2;clear hs2 hb2))
     go_wp2
     ·have ht:(enc v == (s.extract 0 2).toList)=true:=by assumption
      go_ret2;exact ⟨by rw [hit (n:=2) jO HN.out ht];rfl,HQ.out.drew.trans (HB2.out.mono HQ.out.size)⟩
     ·have ht:(enc v == (s.extract 0 2).toList)=false:=by assumption
      go_roundg 3
      case measure=>omega
      case rel=>exact ⟨3,by omega,by omega,rfl,by omega,⟨II.out.next HV.out jO λ_=>ht,HQ.out.drew.trans (HB2.out.mono HQ.out.size)⟩⟩
    ·have hne:((Eo (v:Int):Int) == 2)=false:=by simpa using (by omega:¬ (Eo (v:Int):Int)=2)
     have HL:=jH hL;have HN:=jH hln;clear hL hln;go_quiet ((go_at_call 72;with_reducible exact Ky (HL.out _)));go_wp2;go_roundg 3
     case measure=>omega
     case rel=>exact ⟨3,by omega,by omega,rfl,by omega,⟨II.out.next HV.out jO λh=>absurd h HN.out,below_drewN HQ.out _⟩⟩
   ·have hz0:0<s.size:=jO
    have hz1:1<s.size:=jO
    have hz2:2<s.size:=jO
    have q0:(0:Int)<(s.size:Int):=jO
    have q1:(1:Int)<(s.size:Int):=jO
    have q2:(2:Int)<(s.size:Int):=jO
    have qq:(3:Int)<=(s.size:Int):=jO
    have hvi:∀ r t,s.data.toList=enc r ++ t->right r=true->(enc r).length=3->s[0].toNat % 16*4096+s[1].toNat % 64*64+s[2].toNat % 64=r:=λr t h1 _ h3=>Aow s hz0 hz1 hz2 h1 h3;go_wp2;go_quiet (fail);go_wp2;rw [As7 _ _ _ (Dp _) (Dp _) (Dp _)];generalize hwq:World.drewN wr _=wq;have hbq:Below w.heap.size w wq:=hwq ▸ below_drewN I.out.2 _;clear hwq;generalize s[0].toNat % 16*4096+s[1].toNat % 64*64+s[2].toNat % 64=v at hvi ⊢;have HV:=jH hvi;have HQ:=jH hbq;have II:=jH I.out.1;clear hvi hbq I;have hL:=λW=>E8 (v:Int) W;by_cases hln:Eo (v:Int)=3
    ·have hB:=λW=>Gf (v:Int) W (Ks jO);rw [hln] at hL;have HL:=jH hL;have HB:=jH hB;have HN:=jH hln;clear hL hB hln;go_region_with (first | (go_at_call 72;((with_reducible refine (HL.out _).mono ?_);rintro e w3 ⟨rfl,rfl⟩)) | (go_at_call 48;(with_reducible refine (HB.out _).mono ?_);rintro e w2 ⟨v2,rfl,hs2,hb2⟩;have hcv:=Fj hs2;have HB2:=jH hb2;clear hs2 hb2))
     go_wp2
     ·have ht:(enc v == (s.extract 0 3).toList)=true:=by assumption
      go_ret2;exact ⟨by rw [hit (n:=3) jO HN.out ht];rfl,HQ.out.drew.trans (HB2.out.mono HQ.out.size)⟩
     ·have ht:(enc v == (s.extract 0 3).toList)=false:=by assumption
      go_roundg 2
      case measure=>omega
      case rel=>exact ⟨4,by omega,by omega,rfl,by omega,⟨II.out.next HV.out jO λ_=>ht,HQ.out.drew.trans (HB2.out.mono HQ.out.size)⟩⟩
    ·have hne:((Eo (v:Int):Int) == 3)=false:=by simpa using (by omega:¬ (Eo (v:Int):Int)=3)
     have HL:=jH hL;have HN:=jH hln;clear hL hln;go_quiet ((go_at_call 72;with_reducible exact Ky (HL.out _)));go_wp2;go_roundg 2
     case measure=>omega
     case rel=>exact ⟨4,by omega,by omega,rfl,by omega,⟨II.out.next HV.out jO λh=>absurd h HN.out,below_drewN HQ.out _⟩⟩
   ·have hz0:0<s.size:=jO
    have hz1:1<s.size:=jO
    have hz2:2<s.size:=jO
    have hz3:3<s.size:=jO
    have q0:(0:Int)<(s.size:Int):=jO
    have q1:(1:Int)<(s.size:Int):=jO
    have q2:(2:Int)<(s.size:Int):=jO
    have q3:(3:Int)<(s.size:Int):=jO
    have qq:(4:Int)<=(s.size:Int):=jO
    have hvi:∀ r t,s.data.toList=enc r ++ t->right r=true->(enc r).length=4->s[0].toNat % 8*262144+s[1].toNat % 64*4096+s[2].toNat % 64*64+s[3].toNat % 64=r:=λr t h1 h2 h3=>Aox s hz0 hz1 hz2 hz3 h1 h2 h3;go_wp2;go_quiet (fail);go_wp2;rw [As8 _ _ _ _ (Dp _) (Dp _) (Dp _) (Dp _)];generalize hwq:World.drewN wr _=wq;have hbq:Below w.heap.size w wq:=hwq ▸ below_drewN I.out.2 _;clear hwq;generalize s[0].toNat % 8*262144+s[1].toNat % 64*4096+s[2].toNat % 64*64+s[3].toNat % 64=v at hvi ⊢;have HV:=jH hvi;have HQ:=jH hbq;have II:=jH I.out.1;clear hvi hbq I;have hL:=λW=>E8 (v:Int) W;by_cases hln:Eo (v:Int)=4
    ·have hB:=λW=>Gf (v:Int) W (Ks jO);rw [hln] at hL;have HL:=jH hL;have HB:=jH hB;have HN:=jH hln;clear hL hB hln;go_region_with (first | (go_at_call 72;((with_reducible refine (HL.out _).mono ?_);rintro e w3 ⟨rfl,rfl⟩)) | (go_at_call 48;(with_reducible refine (HB.out _).mono ?_);rintro e w2 ⟨v2,rfl,hs2,hb2⟩;have hcv:=Fj hs2;have HB2:=jH hb2;clear hs2 hb2))
     go_wp2
     ·have ht:(enc v == (s.extract 0 4).toList)=true:=by assumption
      go_ret2;exact ⟨by rw [hit (n:=4) jO HN.out ht];rfl,HQ.out.drew.trans (HB2.out.mono HQ.out.size)⟩
     ·have ht:(enc v == (s.extract 0 4).toList)=false:=by assumption
      go_roundg 1
      case measure=>omega
      case rel=>exact ⟨5,by omega,by omega,rfl,by omega,⟨II.out.next HV.out jO λ_=>ht,HQ.out.drew.trans (HB2.out.mono HQ.out.size)⟩⟩
    ·have hne:((Eo (v:Int):Int) == 4)=false:=by simpa using (by omega:¬ (Eo (v:Int):Int)=4)
     have HL:=jH hL;have HN:=jH hln;clear hL hln;go_quiet ((go_at_call 72;with_reducible exact Ky (HL.out _)));go_wp2;go_roundg 1
     case measure=>omega
     case rel=>exact ⟨5,by omega,by omega,rfl,by omega,⟨II.out.next HV.out jO λh=>absurd h HN.out,below_drewN HQ.out _⟩⟩
  ·have hno:=I.out.1.none (show n=5\/s.data.toList.length<n by simp;omega);have HNO:=jH hno;clear hno;by_cases h4:n<=4
   ·have h5:(s.size:Int)<(n:Int):=jO
    go_wp2;go_ret2;exact ⟨by rw [HNO.out];rfl,I.out.2⟩
   ·have h5:(4:Int)<(n:Int):=jO
    go_wp2;go_ret2;exact ⟨by rw [HNO.out];rfl,I.out.2⟩
end
section
open Go.RowKit Utf
theorem Aof (s:ByteArray) (k:Nat) (hk:k<=s.size):(s.extract k s.size).data.toList=s.data.toList.drop k/\(s.extract k s.size).size<=s.size:=by
 have e:(s.extract k s.size).data.toList=s.data.toList.drop k:=by
  rw [ByteArray.data_extract,Array.toList_extract,List.extract_eq_take_drop,List.take_of_length_le];simp
 refine ⟨e,?_⟩;have:=congrArg List.length e;rw [jaj] at this;simp only [Array.length_toList,ByteArray.size_data] at this;omega
theorem Aab (s:ByteArray) (w:World) (hs:s.size<=100000):Calls prog 28 #[.string s] w (Xc s.data.toList w):=by
 go_enter func28,ntmps28;go_wp2;go_loopg [4,5] (s.size+1) (λgk v i wr=>∃ (l:List Nat) (k:Nat),k<=s.size/\i=.int .i64 k/\s.size - k<gk/\Hid (Eb s.data.toList l k/\Ai w.heap.size v (ints l) wr/\Below w.heap.size w wr))
 case atStart=>exact ⟨[],0,Nat.zero_le _,rfl,by omega,⟨Eb.nil _,Ai.nil _ _,jan _ _⟩⟩
 case round =>
  obtain ⟨l,k,hk,rfl,hg,I⟩:=hrel;by_cases hlt:k<s.size
  ·obtain ⟨hrl,hrs⟩:=Aof s k hk;have hO:=Afe (s.extract k s.size) wr jO;unfold Aga at hO;rw [hrl] at hO;unfold oneOf at hO;cases hd:dec (s.data.toList.drop k) with
   | none =>
    rw [hd] at hO;have HD:=jH hd;clear hd hrl hrs;simp only at hO;go_wp2_with (go_at_call 46;((with_reducible refine hO.mono ?_);rintro e w2 ⟨rfl,hb2⟩;have HB:=jH hb2;clear hb2));go_ret2;have hr:=I.out.1.stop HD.out (by simpa using hlt);exact ⟨u4,by rw [hr];rfl,by rw [hr];exact (I.out.2.1.Af HB.out).Fb,I.out.2.2.trans (HB.out.mono I.out.2.2.size)⟩
   | some p =>
    obtain ⟨r,n⟩:=p;rw [hd] at hO;have hnx:=I.out.1.next hd;have hkn:k+n<=s.size:=by have:=hnx.1.2.2;simpa using this
    have HX:=jH hnx;have hn0:((n:Int) == 0)=false:=by simpa using (by omega:¬ n=0)
    have hn1:1<=n:=hnx.2;have hll:(ints l).length<=1000000:=by have:=I.out.1.le;simp only [ints,jai];omega
    clear hd hrl hrs hnx;simp only at hO;go_wp2_with (first
     | (go_at_call 46;((with_reducible refine hO.mono ?_);rintro e w2 ⟨rfl,hb2⟩;have HB:=jH hb2;clear hb2))
     | (at_builtin;refine Ap w2 56 21 (.int .i32 0) 4 underlying56 Am rfl jO w.heap.size u4 _ _ (I.out.2.1.Af HB.out) (Nat.le_trans I.out.2.2.size HB.out.size) hll 1 jO _ rfl rfl rfl _ _ rfl rfl rfl ?_;intro v3 w3 ho3 hb3;have HO:=jH ho3;have HB3:=jH hb3;clear ho3 hb3))
    have I2:Hid (Eb s.data.toList (l ++ [r]) (k+n)/\Ai w.heap.size v3 (ints (l ++ [r])) w3/\Below w.heap.size w w3):=by
     refine ⟨HX.out.1,?_,(I.out.2.2.trans (HB.out.mono I.out.2.2.size)).trans HB3.out⟩;have e:ints (l ++ [r])=ints l ++ [(r:Int)]:=by
      simp only [ints,List.map_append,List.map_cons,List.map_nil];rfl
     rw [e];exact Ai.more HO.out rfl rfl
    go_roundg (s.size - k)
    case measure=>omega
    case rel=>exact ⟨l ++ [r],k+n,by omega,by go_num,by omega,I2⟩
  ·obtain rfl:k=s.size:=jO
   go_wp2;go_ret2;have hr:=Eb.all (s:=s.data.toList) (l:=l) (by simpa using I.out.1);exact ⟨u4,by rw [hr];rfl,by rw [hr];exact I.out.2.1.Fb,I.out.2.2⟩
end
section
open Go.RowKit Utf
theorem Aql (v:Value) (l:List Int) (w:World) (hl:Runes v l w) (hn:l.length<=20000) (hr:Ad l=true) {bs:List UInt8} (hb:Ae l=bs) :
  Calls prog 36 #[v] w λe w'=>e=.returned (.tuple #[.string ⟨bs.toArray⟩,.bool true])/\Below w.heap.size w w' :=
 (Oh v l w hl hn).mono λ_ _ ⟨he,hw⟩=>⟨by rw [he,hr,hb];rfl,hw⟩
theorem Aq2 (v:Value) (l:List Int) (w:World) (hl:Runes v l w) (hn:l.length<=20000) (hr:Ad l=false) :
  Calls prog 36 #[v] w λe w'=>e=.returned (.tuple #[.string ⟨#[]⟩,.bool false])/\Below w.heap.size w w' :=
 (Oh v l w hl hn).mono λ_ _ ⟨he,hw⟩=>⟨by rw [he,hr];rfl,hw⟩
def Agc (l:List Nat) (z:Int) (w:World) (e:Ending) (w':World):Prop :=
 ∃ A c,e=.returned (.tuple #[.slice A l.length c,.int .i64 z])/\Runes (.slice A l.length c) (ints l) w'/\Below w.heap.size w w'
theorem Mm (s:ByteArray) (w:World) (hs:s.size<=100000) {l:List Nat} {z:Int} (h:A9 s.data.toList=(l,z)):Calls prog 35 #[.string s] w (Agc l z w) :=
 (Ajo s w hs).mono λ_ _ ⟨v,he,hv,hb⟩=>by
  rw [h] at he hv;obtain ⟨A,c,rfl,-,-⟩:=hv.form;simp only [ints,jai] at he hv ⊢;exact ⟨A,c,he,hv,hb⟩
end
section
open Go.RowKit Utf
theorem Ce {l:List Int} (h:Ad l=true):ints (l.map Int.toNat)=l/\Gv (l.map Int.toNat)=true/\D0 (l.map Int.toNat)=Ae l:=by
 induction l with
 | nil=>exact ⟨rfl,rfl,rfl⟩
 | cons r l ih =>
  simp only [Ad,List.all_cons,jag] at h;obtain ⟨h1,h2,h3⟩:=ih h.2;have hr:=(An r).1 h.1;simp only [ints,Gv,D0,Ae,List.map_cons,List.all_cons,jao,jag] at h1 h2 h3 ⊢;refine ⟨?_,⟨(D7 _).2 jO,h2⟩,by rw [h3]⟩;rw [h1,show Int.ofNat r.toNat=r by simp;omega]
theorem Iy (m:List Nat) (h:Gv m=true):Ad (ints m)=true/\Ae (ints m)=D0 m:=by
 induction m with
 | nil=>exact ⟨rfl,rfl⟩
 | cons r m ih =>
  simp only [Gv,List.all_cons,jag] at h;obtain ⟨h1,h2⟩:=ih h.2;have hr:=(D7 r).1 h.1;simp only [ints,Ad,D0,Ae,List.map_cons,List.all_cons,jao,jag] at h1 h2 ⊢;exact ⟨⟨(An _).2 (by simp;omega),h1⟩,by rw [h2];simp⟩
theorem D4 {l:List Int} (h:Ad l=true):A9 (Ae l)=(l.map Int.toNat,-1):=by
 obtain ⟨h1,h2,h3⟩:=Ce h;unfold A9;rw [I0 (l.map Int.toNat) (Ae l).length (Ae l) [] (by rw [h3];simp) h2 rfl (jaa _)];simp
theorem Cu {s:List UInt8} {m:List Nat} {z:Int} (h:A9 s=(m,z)):Gv m=true/\m.length<=s.length/\((z=-1/\D0 m=s)\/∃ k:Nat,z=k/\k<s.length/\D0 m=s.take k):=by
 obtain ⟨h1,h2⟩:=Hb s.length s;unfold A9 at h;simp only [Prod.mk.injEq] at h;obtain ⟨rfl,rfl⟩:=h;have h3:=congrArg List.length h2;rw [jab] at h3;have h4:=Q7 (readAll s.length s).1;refine ⟨h1,by omega,?_⟩;by_cases h0:(readAll s.length s).2.length=0
 ·rw [if_pos h0];refine .inl ⟨rfl,?_⟩;rw [List.eq_nil_of_length_eq_zero h0,List.append_nil] at h2;exact h2.symm
 ·rw [if_neg h0];refine .inr ⟨_,rfl,by omega,?_⟩;have e:s.length - (readAll s.length s).2.length=(D0 (readAll s.length s).1).length:=jO
  rw [e];exact (by rw [List.take_left]:List.take (D0 (readAll s.length s).1).length (D0 (readAll s.length s).1 ++ (readAll s.length s).2)=_).symm.trans (by rw [<- h2])
theorem Xu:∀ (t:List UInt8) (k:Nat),Bn t k=-1->∀ b ∈ t,b.toNat<128
 | [],_,_=>λb hb=>by cases hb
 | x::t,k,h=>by
  unfold Bn at h;split at h
  ·rename_i hx
   intro b hb;rcases jal.1 hb with rfl | hb
   · exact hx
   · exact Xu t (k+1) h b hb
  ·omega
theorem Uq:∀ (t:List UInt8) (k:Nat),Bn t k=-1\/0<=Bn t k
 | [],_=>.inl rfl
 | x::t,k=>by
  unfold Bn;split
  · exact Uq t (k+1)
  · right;omega
theorem Ak4 (b:UInt8) (h:b.toNat<128):enc b.toNat=[b]:=by
 unfold enc;rw [if_pos jO];congr 1;unfold u;exact UInt8.ofNat_toNat
theorem Du:∀ (t:List UInt8),(∀ b ∈ t,b.toNat<128)->Ae (t.map λb=>(b.toNat:Int))=t
 | [],_=>rfl
 | x::t,h=>by
  have:=Du t λb hb=>h b (by simp [hb]);unfold Ae at this ⊢;rw [List.map_cons,jao,this];show enc (x.toNat:Int).toNat ++ t=_;rw [Int.toNat_natCast,Ak4 x (h x jS)];rfl
theorem Aq7 {t:List UInt8} (h:∀ b ∈ t,b.toNat<128):A9 t=(t.map λb=>b.toNat,-1):=by
 have hr:Ad (t.map λb=>(b.toNat:Int))=true:=by
  unfold Ad;rw [jar];intro c hc;obtain ⟨b,hb,rfl⟩:=List.mem_map.1 hc;have:=h b hb;exact (An _).2 jO
 have:=D4 hr;rw [Du t h,List.map_map] at this;exact this
end
section
open Go.RowKit Utf
theorem Ao4 {a b c:World} (h:Below a.heap.size a b) (k:Below b.heap.size b c):Below a.heap.size a c:=Aa h k
def Afw (l:List Int):List UInt8:=if Ad l then Ae l else []
def It (bs:List UInt8) (ok:Bool) (w:World) (e:Ending) (w':World):Prop:=e=.returned (.tuple #[.string ⟨bs.toArray⟩,.bool ok])/\Below w.heap.size w w'
theorem Amy {l:List Int} {bs:List UInt8} {ok:Bool} (hr:Ad l=ok) (hb:Afw l=bs) {w:World} {e:Ending} {w':World} (h:Zc l w e w'):It bs ok w e w':=by
 obtain ⟨he,hw⟩:=h;refine ⟨?_,hw⟩;unfold Afw at hb;cases ok with
 | true=>rw [hr] at he hb;rw [if_pos rfl] at hb;rw [he,<- hb];rfl
 | false=>rw [hr] at he hb;rw [if_neg jD] at hb;rw [he,<- hb];rfl
theorem Ru (v:Value) (l:List Int) (w:World) (hl:Runes v l w) (hn:l.length<=20000) {bs:List UInt8} {ok:Bool} (hr:Ad l=ok) (hb:Afw l=bs) :
 Calls prog 36 #[v] w (It bs ok w):=(Oh v l w hl hn).mono λ_ _ h=>Amy hr hb h
theorem Ic (v:Value) (l:List Int) (w:World) (hl:Runes v l w) (hn:l.length<=20000) {bs:List UInt8} {ok:Bool} (hr:Ad l=ok) (hb:Afw l=bs) :
 Calls prog 29 #[v] w (It bs ok w):=(W8 v l w hl hn).mono λ_ _ h=>Amy hr hb h
end
section
open Go.RowKit Utf
end
section
open Go.RowKit Utf
theorem E9 (s:ByteArray) (w:World) (hs:s.size<=100000) {l:List Nat} {z:Int} (h:A9 s.data.toList=(l,z)):Calls prog 28 #[.string s] w (Agc l z w) :=
 (Aab s w hs).mono λ_ _ ⟨v,he,hv,hb⟩=>by
  rw [h] at he hv;obtain ⟨A,c,rfl,-,-⟩:=hv.form;simp only [ints,jai] at he hv ⊢;exact ⟨A,c,he,hv,hb⟩
theorem As4 (s:List UInt8):(A9 s).1.length<=s.length:=by
 have h:=Hb s.length s;have h2:=congrArg List.length h.2;rw [jab] at h2;have h3:=Q7 (readAll s.length s).1;unfold A9;simp only;omega
end
