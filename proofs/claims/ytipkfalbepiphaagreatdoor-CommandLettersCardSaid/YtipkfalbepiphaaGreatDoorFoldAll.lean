import Derived.Test.YtipkfalbepiphaaGreatDoorFoldB
import Derived.Test.YtipkfalbepiphaaGreatDoorNorm
set_option maxRecDepth 100000
set_option maxHeartbeats 4000000
namespace Go.Proofs.YtipkfalbepiphaaGreatDoor
open Tryz
section
open Go.RowKit Utf
theorem Ac2 (g:Nat) (rv:Array Value) (f:Int->Int) (v:Value) (l:List Int) (w:World) (eg:∀ args w,(callFunc g args).run prog w=.ok (.enter g args) w) (hl:Runes v l w) (hn:l.length<=10000)
  (hf:∀ (W:World) (x:Int),Below w.heap.size w W->Calls prog g (rv ++ #[.int .i32 x]) W λe w'=>e=.returned (.int .i32 (f x))/\Below W.heap.size W w') :
  Calls prog 216 #[v,.func (.func g) rv #[]] w λe w'=>∃ v,e=.returned v/\Av w.heap.size v (l.map f) w'/\Below w.heap.size w w':=by
 obtain ⟨A,c,rfl,hc,hcell⟩:=hl.form;have HC:=jH hcell;have HF:=jH hf;obtain ⟨i0,hi0,hz0,hs0,hb0⟩:=info_parts Bt;have hby:i0.bytes*l.length<=281474976710656:=by rw [hb0];omega
 clear hl hcell hf;go_enter func216,ntmps216;go_wp2_with (at_make;refine wpList_make_own _ rfl _ _ 157 rfl w.heap.size 21 i0 (.int .i32 0) 1 underlying157 hi0 hz0 hs0 _ _ _ l.length rfl rfl rfl hby (by simp only [maxLen];omega) jS ?_;intro w1 ho1 hg1);have hb1:=Uv hg1;have B1:=jH hb1;have O1:Hid (Av w.heap.size (.slice (some ⟨w.heap.size,0,none⟩) 0 l.length) [] w1):=jH (by simpa [Av] using ho1);clear hb1 hg1 ho1 hby hb0 hs0 hz0 hi0;go_loopg [5,7,13] (l.length+1) (λgk v _ i wr=>∃ k:Nat,k<=l.length/\i=.int .i64 k/\l.length - k<gk/\Hid (Av w.heap.size v ((l.take k).map f) wr/\Below w.heap.size w wr))
 case atStart=>exact ⟨0,Nat.zero_le _,rfl,by omega,⟨O1.out,B1.out⟩⟩
 case round =>
  obtain ⟨k,hk,rfl,hg,I⟩:=hrel;by_cases hlt:k<l.length
  ·obtain ⟨ad,rfl,hb,hx⟩:=HC.out k hlt;have hx':=(I.out.2.cell (by rw [Bf];exact hb)).trans hx;obtain ⟨x,hxe⟩:∃ x,x=l[k]!:=⟨_,rfl⟩
   rw [<- hxe] at hx';have hnx:(l.take (k+1)).map f=(l.take k).map f ++ [f x]:=by rw [Jj l k hlt,List.map_append,<- hxe];rfl
   have hle:((l.take k).map f).length<=1000000:=by rw [jai,jak];omega
   have hkz:(k:Int)<(l.length:Int):=jO
   have K:=HF.out wr x I.out.2;obtain ⟨y,hy⟩:∃ y,y=f x:=⟨_,rfl⟩
   rw [<- hy] at K hnx;have HN:=jH hnx;have HK:=jH K;clear hx hb hxe hnx K hy;go_wp2_with fail;refine HK.out.mono ?_;rintro e w2 ⟨rfl,hb2⟩;have HB:=jH hb2;clear hb2 HK;go_wp2_with (at_builtin;refine Db w2 157 21 (.int .i32 0) 4 underlying157 Bt rfl jO w.heap.size u5 _ _ (I.out.1.Ac HB.out) (Nat.le_trans I.out.2.size HB.out.size) hle 1 jO _ rfl rfl rfl _ _ rfl rfl rfl ?_;intro v3 w3 ho3 hb3;have HO:=jH ho3;have HB3:=jH hb3;clear ho3 hb3);have I2:Hid (Av w.heap.size v3 ((l.take (k+1)).map f) w3/\Below w.heap.size w w3):=by
    refine ⟨?_,(I.out.2.trans (HB.out.mono I.out.2.size)).trans HB3.out⟩;rw [HN.out];exact Av.more HO.out rfl rfl
   go_roundg (l.length - k)
   case measure=>omega
   case rel=>exact ⟨k+1,by omega,by go_num,by omega,I2⟩
  ·obtain rfl:k=l.length:=jO
   go_wp2;go_ret;have h:=I.out.1;rw [List.take_length] at h;exact ⟨_,rfl,h,I.out.2⟩
end
section
open Go.RowKit Utf
theorem Alf:∀ y ∈ splits,Bp y.rune=false:=by decide +kernel
theorem A2i {x:Int} (h:Bp x=true):Ak x=some ⟨x,x - 65248,0,true,true⟩:=by
 unfold Ak rowOf;cases ho:Hn Sp.rune Sp.rune splits x with
 | none=>simp [h]
 | some y =>
  obtain ⟨h1,h2,h3⟩:=Dm ho;have:=Alf y h1;rw [show y.rune=x by omega,h] at this;cases this
theorem Aon (t:Value) (x:Int) (w:World) (hT:Table w t) :
  Calls prog 218 #[t,.int .i32 x] w λe w'=>e=.returned (.int .i32 (Fold.narrow x))/\Below w.heap.size w w':=by
 have hnw:Fold.narrow x=if Bp x then x - 65248 else x:=rfl;have hs:=λW (h:Below w.heap.size w W)=>Pl t x W (hT.below h);have hwx:=A2i (x:=x);obtain ⟨b0,b1,b2,b3,rfl,-,-,-,-⟩:=hT;rcases (show x<65281\/(65281<=x/\x<=65374)\/(65281<=x/\65374<x) by omega) with h | ⟨h1,h2⟩ | ⟨h1,h2⟩
 ·have:Bp x=false:=by unfold Bp;rw [decide_eq_false jO];rfl
  rw [this] at hnw;rw [hnw];clear hs hwx hnw this;go_enter func218,ntmps218;go_wp2;go_ret;exact ⟨rfl,Ab _ _⟩
 ·have:Bp x=true:=by unfold Bp;rw [decide_eq_true h1,decide_eq_true h2];rfl
  rw [this] at hnw;have hw:=hwx this;rw [hw] at hs;rw [hnw];simp only [if_true];have HS:=jH hs;clear hs hwx hnw this hw;go_enter func218,ntmps218;go_wp2_with fail;refine (HS.out _ (Ab _ _)).mono ?_;rintro e w1 ⟨he,hb1⟩;obtain rfl:e=.returned (.tuple #[.agg #[.int .i32 x,.int .i32 (x - 65248),.int .i32 0,.bool true,.bool true],.bool true]):=he;have HB:=jH (Aa (Ab _ _) hb1);clear hb1;go_wp2;go_ret;exact ⟨rfl,Ap HB.out (jaa _) _⟩
 ·have:Bp x=false:=by unfold Bp;rw [decide_eq_false (p:=x<=65374) jO,Bool.and_false]
  rw [this] at hnw;rw [hnw];clear hs hwx hnw this;go_enter func218,ntmps218;go_wp2;go_ret;exact ⟨rfl,Ab _ _⟩
theorem Aft (args:Array Value) (w:World):(callFunc 218 args).run prog w=.ok (.enter 218 args) w:=by kernel_rfl
theorem Ai1 (args:Array Value) (w:World):(callFunc 217 args).run prog w=.ok (.enter 217 args) w:=by kernel_rfl
theorem Aw9 (t v:Value) (l:List Int) (w:World) (hT:Table w t) (hl:Runes v l w) (hn:l.length<=10000):Calls prog 182 #[t,v] w (Jm (l.map Fold.narrow) w):=by
 have h1:=λW (h:Below w.heap.size w W)=>Ac2 218 #[t] Fold.narrow v l W Aft (hl.Ac h) hn (λW2 x h2=>Aon t x W2 (hT.below (h.trans (h2.mono h.size))));have H1:=jH h1;obtain ⟨b0,b1,b2,b3,rfl,-,-,-,-⟩:=hT;clear h1 hl;go_enter func182,ntmps182;go_wp2_with fail;refine (H1.out _ (Ab _ _)).mono ?_;rintro e w1 ⟨v1,rfl,ho1,hb1⟩;have O:=jH ho1;have B:=jH (Aa (Ab _ _) hb1);clear ho1 hb1;go_wp2;go_ret;exact ⟨_,rfl,O.out.lower jS,B.out⟩
theorem Aog (t v:Value) (l:List Int) (w:World) (hT:Table w t) (hl:Runes v l w) (hn:l.length<=10000):Calls prog 181 #[t,v] w (Jm (l.map Fx) w):=by
 have h1:=λW (h:Below w.heap.size w W)=>Ac2 217 #[t] Fx v l W Ai1 (hl.Ac h) hn (λW2 x h2=>Aue t x W2 (hT.below (h.trans (h2.mono h.size))));have H1:=jH h1;obtain ⟨b0,b1,b2,b3,rfl,-,-,-,-⟩:=hT;clear h1 hl;go_enter func181,ntmps181;go_wp2_with fail;refine (H1.out _ (Ab _ _)).mono ?_;rintro e w1 ⟨v1,rfl,ho1,hb1⟩;have O:=jH ho1;have B:=jH (Aa (Ab _ _) hb1);clear ho1 hb1;go_wp2;go_ret;exact ⟨_,rfl,O.out.lower jS,B.out⟩
structure Folds (s:ByteArray) (m:List Nat):Prop where
 size:s.size<=100000
 read:Au s.data.toList=(m,-1)
 len:m.length<=9600
 down:(Norm.down false ((ints m).map Fold.fo)).length<=9600
theorem Arf (t:Value) (s:ByteArray) (w:World) (hT:Table w t) (hs:s.size<=100000) {m:List Nat} {k:Nat} (hrd:Au s.data.toList=(m,(k:Int))) :
  Calls prog 152 #[t,.string s] w (Xr [] false w):=by
 have h1:=λW=>Tc s W jO hrd;obtain ⟨b0,b1,b2,b3,rfl,-,-,-,-⟩:=hT;have H1:=jH h1;have hk0:(0:Int)<=(k:Int):=jO
 clear h1 hrd;go_enter func152,ntmps152;go_wp2_with fail;refine (H1.out _).mono ?_;rintro e w1 ⟨A1,c1,rfl,-,hb1⟩;have B1:=jH (Aa (Ab w _) hb1);clear hb1;go_wp2;go_ret2;exact ⟨rfl,B1.out⟩
theorem Yr (t:Value) (s:ByteArray) (w:World) (hT:Table w t) {m:List Nat} (hf:Folds s m) :
  Calls prog 152 #[t,.string s] w (Xr (Ah (Fold.fold (ints m))) true w):=by
 obtain ⟨hm1,-,-⟩:=Eu hf.read;obtain ⟨hm3,-⟩:=Mh m hm1;have hml:(ints m).length<=10000:=by simp only [ints,jai];have:=hf.len;omega
 have hml2:(ints m).length<=9600:=by simp only [ints,jai];exact hf.len
 have hfr:=Sk hm3;have h1:=λW=>Tc s W hf.size hf.read;have h2:=λv W (hW:Below w.heap.size w W) (h:Runes v (ints m) W)=>Aw9 t v (ints m) W (hT.below hW) h hml;have h3:=λv W (hW:Below w.heap.size w W) (h:Runes v ((ints m).map Fold.narrow) W)=>Aog t v _ W (hT.below hW) h (by rw [jai];exact hml);have emap:((ints m).map Fold.narrow).map Fx=(ints m).map Fold.fo:=by rw [List.map_map];rfl
 simp only [emap] at h3;obtain ⟨x,hx⟩:∃ x,x=Ah ((ints m).map Fold.fo):=⟨_,rfl⟩
 have h4:=λv W (h:Runes v ((ints m).map Fold.fo) W)=>Vf v _ W h (by rw [jai];omega) hfr ((Aat hfr).trans hx.symm);obtain ⟨m2,hf2,he2⟩:=again (soft:=false) (join:=true) hfr (by rw [jai];exact hml2) hf.down rfl;rw [<- hx] at hf2;have h5:=λW (hW:Below w.heap.size w W)=>Arx t _ W (hT.below hW) hf2;rw [he2,show Fe false true ((ints m).map Fold.fo)=Fold.fold (ints m) from rfl] at h5;obtain ⟨b0,b1,b2,b3,rfl,-,-,-,-⟩:=hT;have H1:=jH h1;have H2:=jH h2;have H3:=jH h3;have H4:=jH h4;have H5:=jH h5;clear h1 h2 h3 h4 h5 hm1 hm3 hml hml2 hfr emap hx hf hf2 he2;go_enter func152,ntmps152;go_wp2_with fail;refine (H1.out _).mono ?_;rintro e w1 ⟨A1,c1,rfl,hr1,hb1⟩;obtain ⟨hz,k0,k1,k2,k3⟩:=Jn hb1;have R1:=jH hr1;have B1:=jH (Aa (Ab w _) hb1);clear hr1 hb1;go_wp2;go_region_held3 (λw'=>w'.cell? ⟨w.heap.size,0,none⟩=some (.slice (some ⟨b0,0,none⟩) 74 74)/\w'.cell? ⟨w.heap.size,1,none⟩=some (.slice (some ⟨b1,0,none⟩) 10 10)/\w'.cell? ⟨w.heap.size,2,none⟩=some (.slice (some ⟨b2,0,none⟩) 11 11)/\w'.cell? ⟨w.heap.size,3,none⟩=some (.slice (some ⟨b3,0,none⟩) 42 42)) (go_keep) (first
  | (go_at_call 182;(with_reducible refine (H2.out _ _ B1.out.drew (R1.out.Ac (jan _ w1).drew)).mono ?_);rintro e w2 ⟨v2,rfl,ho2,hb2⟩;have hB2:=Ag hb2;have R2:=jH ho2.Nc;have B2:=jH (Aa B1.out hB2);have q0:=(hB2.cell (p:=⟨w.heap.size,0,none⟩) hz).trans k0;have q1:=(hB2.cell (p:=⟨w.heap.size,1,none⟩) hz).trans k1;have q2:=(hB2.cell (p:=⟨w.heap.size,2,none⟩) hz).trans k2;have q3:=(hB2.cell (p:=⟨w.heap.size,3,none⟩) hz).trans k3;have hz2:=jas hz hB2.size;clear hb2 ho2 hB2 k0 k1 k2 k3)
  | (go_at_call 181;(with_reducible refine (H3.out _ _ B2.out R2.out).mono ?_);rintro e w3 ⟨v3,rfl,ho3,hb3⟩;have R3:=jH ho3.Nc;have B3:=jH (Aa B2.out hb3);have p0:=(hb3.cell (p:=⟨w.heap.size,0,none⟩) hz2).trans q0;have p1:=(hb3.cell (p:=⟨w.heap.size,1,none⟩) hz2).trans q1;have p2:=(hb3.cell (p:=⟨w.heap.size,2,none⟩) hz2).trans q2;have p3:=(hb3.cell (p:=⟨w.heap.size,3,none⟩) hz2).trans q3;have hz3:=jas hz2 hb3.size;clear hb3 ho3 q0 q1 q2 q3)
  | (go_at_call 180;(with_reducible refine (H4.out _ _ R3.out).mono ?_);rintro e w4 ⟨rfl,hb4⟩;have B4:=jH (Aa B3.out hb4);have r0:=(hb4.cell (p:=⟨w.heap.size,0,none⟩) hz3).trans p0;have r1:=(hb4.cell (p:=⟨w.heap.size,1,none⟩) hz3).trans p1;have r2:=(hb4.cell (p:=⟨w.heap.size,2,none⟩) hz3).trans p2;have r3:=(hb4.cell (p:=⟨w.heap.size,3,none⟩) hz3).trans p3;have hz4:=jas hz3 hb4.size;clear hb4 p0 p1 p2 p3))
 all_goals
  go_wp2_with fail;refine (H5.out _ B4.out).mono ?_;rintro e w5 ⟨rfl,hb5⟩;have B5:=jH (Aa B4.out hb5);clear hb5;go_wp2;go_ret2;exact ⟨rfl,B5.out⟩
def Amd (s:ByteArray) (x:List UInt8) (ok:Bool):Prop:=∀ (t:Value) (w:World),Table w t->Calls prog 152 #[t,.string s] w (Xr x ok w)
theorem Folds.is {s:ByteArray} {m:List Nat} (h:Folds s m):Amd s (Ah (Fold.fold (ints m))) true:=λt w hT=>Yr t s w hT h
theorem Atm {s:ByteArray} (hs:s.size<=100000) {m:List Nat} {k:Nat} (hrd:Au s.data.toList=(m,(k:Int))):Amd s [] false:=λt w hT=>Arf t s w hT hs hrd
end
section
open Go.RowKit Utf
end
section
open Go.RowKit Utf
end
section
open Go.RowKit Utf
end
