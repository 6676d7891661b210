import Derived.Test.YthnhgmdlbfbhjaaGreatFoldB
import Derived.Test.YthnhgmdlbfbhjaaGreatNorm
set_option maxRecDepth 100000
set_option maxHeartbeats 4000000
namespace Go.Proofs.YthnhgmdlbfbhjaaGreat
open Tryz
section
open Go.RowKit Utf
theorem Xt (g:Nat) (rv:Array Value) (f:Int->Int) (v:Value) (l:List Int) (w:World) (eg:∀ args w,(callFunc g args).run prog w=.ok (.enter g args) w) (hl:Runes v l w) (hn:l.length<=10000)
  (hf:∀ (W:World) (x:Int),Below w.heap.size w W->Calls prog g (rv ++ #[.int .i32 x]) W λe w'=>e=.returned (.int .i32 (f x))/\Below W.heap.size W w') :
  Calls prog 63 #[v,.func (.func g) rv #[]] w λe w'=>∃ v,e=.returned v/\Ai w.heap.size v (l.map f) w'/\Below w.heap.size w w':=by
 obtain ⟨A,c,rfl,hc,hcell⟩:=hl.form;have HC:=jH hcell;have HF:=jH hf;obtain ⟨i0,hi0,hz0,hs0,hb0⟩:=info_parts Am;have hby:i0.bytes*l.length<=281474976710656:=by rw [hb0];omega
 clear hl hcell hf;go_enter func63,ntmps63;go_wp2_with (at_make;refine wpList_make_own _ rfl _ _ 56 rfl w.heap.size 21 i0 (.int .i32 0) 1 underlying56 hi0 hz0 hs0 _ _ _ l.length rfl rfl rfl hby (by simp only [maxLen];omega) jS ?_;intro w1 ho1 hg1);have hb1:=Rl hg1;have B1:=jH hb1;have O1:Hid (Ai w.heap.size (.slice (some ⟨w.heap.size,0,none⟩) 0 l.length) [] w1):=jH (by simpa [Ai] using ho1);clear hb1 hg1 ho1 hby hb0 hs0 hz0 hi0;go_loopg [5,7,13] (l.length+1) (λgk v _ i wr=>∃ k:Nat,k<=l.length/\i=.int .i64 k/\l.length - k<gk/\Hid (Ai w.heap.size v ((l.take k).map f) wr/\Below w.heap.size w wr))
 case atStart=>exact ⟨0,Nat.zero_le _,rfl,by omega,⟨O1.out,B1.out⟩⟩
 case round =>
  obtain ⟨k,hk,rfl,hg,I⟩:=hrel;by_cases hlt:k<l.length
  ·obtain ⟨ad,rfl,hb,hx⟩:=HC.out k hlt;have hx':=(I.out.2.cell (by rw [Ah];exact hb)).trans hx;obtain ⟨x,hxe⟩:∃ x,x=l[k]!:=⟨_,rfl⟩
   rw [<- hxe] at hx';have hnx:(l.take (k+1)).map f=(l.take k).map f ++ [f x]:=by rw [Cy l k hlt,List.map_append,<- hxe];rfl
   have hle:((l.take k).map f).length<=1000000:=by rw [jai,jak];omega
   have hkz:(k:Int)<(l.length:Int):=jO
   have K:=HF.out wr x I.out.2;obtain ⟨y,hy⟩:∃ y,y=f x:=⟨_,rfl⟩
   rw [<- hy] at K hnx;have HN:=jH hnx;have HK:=jH K;clear hx hb hxe hnx K hy;go_wp2_with fail;refine HK.out.mono ?_;rintro e w2 ⟨rfl,hb2⟩;have HB:=jH hb2;clear hb2 HK;go_wp2_with (at_builtin;refine Ap w2 56 21 (.int .i32 0) 4 underlying56 Am rfl jO w.heap.size u5 _ _ (I.out.1.Af HB.out) (Nat.le_trans I.out.2.size HB.out.size) hle 1 jO _ rfl rfl rfl _ _ rfl rfl rfl ?_;intro v3 w3 ho3 hb3;have HO:=jH ho3;have HB3:=jH hb3;clear ho3 hb3);have I2:Hid (Ai w.heap.size v3 ((l.take (k+1)).map f) w3/\Below w.heap.size w w3):=by
    refine ⟨?_,(I.out.2.trans (HB.out.mono I.out.2.size)).trans HB3.out⟩;rw [HN.out];exact Ai.more HO.out rfl rfl
   go_roundg (l.length - k)
   case measure=>omega
   case rel=>exact ⟨k+1,by omega,by go_num,by omega,I2⟩
  ·obtain rfl:k=l.length:=jO
   go_wp2;go_ret;have h:=I.out.1;rw [List.take_length] at h;exact ⟨_,rfl,h,I.out.2⟩
end
section
open Go.RowKit Utf
theorem Acx:∀ y ∈ splits,Bf y.rune=false:=by decide +kernel
theorem Am9 {x:Int} (h:Bf x=true):Aj x=some ⟨x,x - 65248,0,true,true⟩:=by
 unfold Aj rowOf;cases ho:Fm Sp.rune Sp.rune splits x with
 | none=>simp [h]
 | some y =>
  obtain ⟨h1,h2,h3⟩:=Co ho;have:=Acx y h1;rw [show y.rune=x by omega,h] at this;cases this
theorem Aey (t:Value) (x:Int) (w:World) (hT:Table w t) :
  Calls prog 65 #[t,.int .i32 x] w λe w'=>e=.returned (.int .i32 (Fold.narrow x))/\Below w.heap.size w w':=by
 have hnw:Fold.narrow x=if Bf x then x - 65248 else x:=rfl;have hs:=λW (h:Below w.heap.size w W)=>J6 t x W (hT.below h);have hwx:=Am9 (x:=x);obtain ⟨b0,b1,b2,b3,rfl,-,-,-,-⟩:=hT;rcases (show x<65281\/(65281<=x/\x<=65374)\/(65281<=x/\65374<x) by omega) with h | ⟨h1,h2⟩ | ⟨h1,h2⟩
 ·have:Bf x=false:=by unfold Bf;rw [decide_eq_false jO];rfl
  rw [this] at hnw;rw [hnw];clear hs hwx hnw this;go_enter func65,ntmps65;go_wp2;go_ret;exact ⟨rfl,Ac _ _⟩
 ·have:Bf x=true:=by unfold Bf;rw [decide_eq_true h1,decide_eq_true h2];rfl
  rw [this] at hnw;have hw:=hwx this;rw [hw] at hs;rw [hnw];simp only [if_true];have HS:=jH hs;clear hs hwx hnw this hw;go_enter func65,ntmps65;go_wp2_with fail;refine (HS.out _ (Ac _ _)).mono ?_;rintro e w1 ⟨he,hb1⟩;obtain rfl:e=.returned (.tuple #[.agg #[.int .i32 x,.int .i32 (x - 65248),.int .i32 0,.bool true,.bool true],.bool true]):=he;have HB:=jH (Aa (Ac _ _) hb1);clear hb1;go_wp2;go_ret;exact ⟨rfl,Al HB.out (jaa _) _⟩
 ·have:Bf x=false:=by unfold Bf;rw [decide_eq_false (p:=x<=65374) jO,Bool.and_false]
  rw [this] at hnw;rw [hnw];clear hs hwx hnw this;go_enter func65,ntmps65;go_wp2;go_ret;exact ⟨rfl,Ac _ _⟩
theorem Zq (args:Array Value) (w:World):(callFunc 65 args).run prog w=.ok (.enter 65 args) w:=by kernel_rfl
theorem Abj (args:Array Value) (w:World):(callFunc 64 args).run prog w=.ok (.enter 64 args) w:=by kernel_rfl
theorem Aj5 (t v:Value) (l:List Int) (w:World) (hT:Table w t) (hl:Runes v l w) (hn:l.length<=10000):Calls prog 38 #[t,v] w (Bh (l.map Fold.narrow) w):=by
 have h1:=λW (h:Below w.heap.size w W)=>Xt 65 #[t] Fold.narrow v l W Zq (hl.Af h) hn (λW2 x h2=>Aey t x W2 (hT.below (h.trans (h2.mono h.size))));have H1:=jH h1;obtain ⟨b0,b1,b2,b3,rfl,-,-,-,-⟩:=hT;clear h1 hl;go_enter func38,ntmps38;go_wp2_with fail;refine (H1.out _ (Ac _ _)).mono ?_;rintro e w1 ⟨v1,rfl,ho1,hb1⟩;have O:=jH ho1;have B:=jH (Aa (Ac _ _) hb1);clear ho1 hb1;go_wp2;go_ret;exact ⟨_,rfl,O.out.lower jS,B.out⟩
theorem Aes (t v:Value) (l:List Int) (w:World) (hT:Table w t) (hl:Runes v l w) (hn:l.length<=10000):Calls prog 37 #[t,v] w (Bh (l.map Cm) w):=by
 have h1:=λW (h:Below w.heap.size w W)=>Xt 64 #[t] Cm v l W Abj (hl.Af h) hn (λW2 x h2=>Yc t x W2 (hT.below (h.trans (h2.mono h.size))));have H1:=jH h1;obtain ⟨b0,b1,b2,b3,rfl,-,-,-,-⟩:=hT;clear h1 hl;go_enter func37,ntmps37;go_wp2_with fail;refine (H1.out _ (Ac _ _)).mono ?_;rintro e w1 ⟨v1,rfl,ho1,hb1⟩;have O:=jH ho1;have B:=jH (Aa (Ac _ _) hb1);clear ho1 hb1;go_wp2;go_ret;exact ⟨_,rfl,O.out.lower jS,B.out⟩
structure Folds (s:ByteArray) (m:List Nat):Prop where
 size:s.size<=100000
 read:A9 s.data.toList=(m,-1)
 len:m.length<=9600
 down:(Norm.down false ((ints m).map Fold.fo)).length<=9600
theorem Agp (t:Value) (s:ByteArray) (w:World) (hT:Table w t) (hs:s.size<=100000) {m:List Nat} {k:Nat} (hrd:A9 s.data.toList=(m,(k:Int))) :
  Calls prog 25 #[t,.string s] w (It [] false w):=by
 have h1:=λW=>Mm s W jO hrd;obtain ⟨b0,b1,b2,b3,rfl,-,-,-,-⟩:=hT;have H1:=jH h1;have hk0:(0:Int)<=(k:Int):=jO
 clear h1 hrd;go_enter func25,ntmps25;go_wp2_with fail;refine (H1.out _).mono ?_;rintro e w1 ⟨A1,c1,rfl,-,hb1⟩;have B1:=jH (Aa (Ac w _) hb1);clear hb1;go_wp2;go_ret2;exact ⟨rfl,B1.out⟩
theorem U5 (t:Value) (s:ByteArray) (w:World) (hT:Table w t) {m:List Nat} (hf:Folds s m) :
  Calls prog 25 #[t,.string s] w (It (Ae (Fold.fold (ints m))) true w):=by
 obtain ⟨hm1,-,-⟩:=Cu hf.read;obtain ⟨hm3,-⟩:=Iy m hm1;have hml:(ints m).length<=10000:=by simp only [ints,jai];have:=hf.len;omega
 have hml2:(ints m).length<=9600:=by simp only [ints,jai];exact hf.len
 have hfr:=Ib hm3;have h1:=λW=>Mm s W hf.size hf.read;have h2:=λv W (hW:Below w.heap.size w W) (h:Runes v (ints m) W)=>Aj5 t v (ints m) W (hT.below hW) h hml;have h3:=λv W (hW:Below w.heap.size w W) (h:Runes v ((ints m).map Fold.narrow) W)=>Aes t v _ W (hT.below hW) h (by rw [jai];exact hml);have emap:((ints m).map Fold.narrow).map Cm=(ints m).map Fold.fo:=by rw [List.map_map];rfl
 simp only [emap] at h3;obtain ⟨x,hx⟩:∃ x,x=Ae ((ints m).map Fold.fo):=⟨_,rfl⟩
 have h4:=λv W (h:Runes v ((ints m).map Fold.fo) W)=>Ru v _ W h (by rw [jai];omega) hfr ((Gw hfr).trans hx.symm);obtain ⟨m2,hf2,he2⟩:=again (soft:=false) (join:=true) hfr (by rw [jai];exact hml2) hf.down rfl;rw [<- hx] at hf2;have h5:=λW (hW:Below w.heap.size w W)=>Z4 t _ W (hT.below hW) hf2;rw [he2,show Bz false true ((ints m).map Fold.fo)=Fold.fold (ints m) from rfl] at h5;obtain ⟨b0,b1,b2,b3,rfl,-,-,-,-⟩:=hT;have H1:=jH h1;have H2:=jH h2;have H3:=jH h3;have H4:=jH h4;have H5:=jH h5;clear h1 h2 h3 h4 h5 hm1 hm3 hml hml2 hfr emap hx hf hf2 he2;go_enter func25,ntmps25;go_wp2_with fail;refine (H1.out _).mono ?_;rintro e w1 ⟨A1,c1,rfl,hr1,hb1⟩;obtain ⟨hz,k0,k1,k2,k3⟩:=Iu hb1;have R1:=jH hr1;have B1:=jH (Aa (Ac w _) hb1);clear hr1 hb1;go_wp2;go_region_held3 (λw'=>w'.cell? ⟨w.heap.size,0,none⟩=some (.slice (some ⟨b0,0,none⟩) 74 74)/\w'.cell? ⟨w.heap.size,1,none⟩=some (.slice (some ⟨b1,0,none⟩) 10 10)/\w'.cell? ⟨w.heap.size,2,none⟩=some (.slice (some ⟨b2,0,none⟩) 11 11)/\w'.cell? ⟨w.heap.size,3,none⟩=some (.slice (some ⟨b3,0,none⟩) 42 42)) (go_keep) (first
  | (go_at_call 38;(with_reducible refine (H2.out _ _ B1.out.drew (R1.out.Af (jan _ w1).drew)).mono ?_);rintro e w2 ⟨v2,rfl,ho2,hb2⟩;have hB2:=Ag hb2;have R2:=jH ho2.Fb;have B2:=jH (Aa B1.out hB2);have q0:=(hB2.cell (p:=⟨w.heap.size,0,none⟩) hz).trans k0;have q1:=(hB2.cell (p:=⟨w.heap.size,1,none⟩) hz).trans k1;have q2:=(hB2.cell (p:=⟨w.heap.size,2,none⟩) hz).trans k2;have q3:=(hB2.cell (p:=⟨w.heap.size,3,none⟩) hz).trans k3;have hz2:=jas hz hB2.size;clear hb2 ho2 hB2 k0 k1 k2 k3)
  | (go_at_call 37;(with_reducible refine (H3.out _ _ B2.out R2.out).mono ?_);rintro e w3 ⟨v3,rfl,ho3,hb3⟩;have R3:=jH ho3.Fb;have B3:=jH (Aa B2.out hb3);have p0:=(hb3.cell (p:=⟨w.heap.size,0,none⟩) hz2).trans q0;have p1:=(hb3.cell (p:=⟨w.heap.size,1,none⟩) hz2).trans q1;have p2:=(hb3.cell (p:=⟨w.heap.size,2,none⟩) hz2).trans q2;have p3:=(hb3.cell (p:=⟨w.heap.size,3,none⟩) hz2).trans q3;have hz3:=jas hz2 hb3.size;clear hb3 ho3 q0 q1 q2 q3)
  | (go_at_call 36;(with_reducible refine (H4.out _ _ R3.out).mono ?_);rintro e w4 ⟨rfl,hb4⟩;have B4:=jH (Aa B3.out hb4);have r0:=(hb4.cell (p:=⟨w.heap.size,0,none⟩) hz3).trans p0;have r1:=(hb4.cell (p:=⟨w.heap.size,1,none⟩) hz3).trans p1;have r2:=(hb4.cell (p:=⟨w.heap.size,2,none⟩) hz3).trans p2;have r3:=(hb4.cell (p:=⟨w.heap.size,3,none⟩) hz3).trans p3;have hz4:=jas hz3 hb4.size;clear hb4 p0 p1 p2 p3))
 all_goals
  go_wp2_with fail;refine (H5.out _ B4.out).mono ?_;rintro e w5 ⟨rfl,hb5⟩;have B5:=jH (Aa B4.out hb5);clear hb5;go_wp2;go_ret2;exact ⟨rfl,B5.out⟩
def Fk (s:ByteArray) (x:List UInt8) (ok:Bool):Prop:=∀ (t:Value) (w:World),Table w t->Calls prog 25 #[t,.string s] w (It x ok w)
theorem Folds.is {s:ByteArray} {m:List Nat} (h:Folds s m):Fk s (Ae (Fold.fold (ints m))) true:=λt w hT=>U5 t s w hT h
theorem Na {s:ByteArray} (hs:s.size<=100000) {m:List Nat} {k:Nat} (hrd:A9 s.data.toList=(m,(k:Int))):Fk s [] false:=λt w hT=>Agp t s w hT hs hrd
end
section
open Go.RowKit Utf
theorem Tm {w0:World} {S b0 b1 b2 b3:Nat} {w:World} (h:Kept w0 S b0 b1 b2 b3 w) {s:ByteArray} {x:List UInt8} {ok:Bool} (hf:Fk s x ok) :
  Calls prog 25 #[.agg #[.slice (some ⟨b0,0,none⟩) 74 74,.slice (some ⟨b1,0,none⟩) 10 10,.slice (some ⟨b2,0,none⟩) 11 11,.slice (some ⟨b3,0,none⟩) 42 42],.string s] w λe w'=>e=.returned (.tuple #[.string ⟨x.toArray⟩,.bool ok])/\Hid (Kept w0 S b0 b1 b2 b3 w')/\Hid (Below w.heap.size w w') :=
 (hf _ w h.table).mono λ_ _ ⟨he,hb⟩=>⟨he,h.next hb,hb⟩
theorem Ap5:Folds (⟨#[239,188,161,204,136,226,132,171,66,206,145]⟩:ByteArray) [65313,776,8491,66,913]:=⟨by decide +kernel,by decide +kernel,by decide +kernel,by decide +kernel⟩
theorem Anz:Ae (Fold.fold (ints [65313,776,8491,66,913]))=[195,164,195,165,98,206,177]:=by decide +kernel
theorem Ati:Fk (⟨#[239,188,161,204,136,226,132,171,66,206,145]⟩:ByteArray) [195,164,195,165,98,206,177] true:=Anz ▸ Ap5.is
theorem Atj:Fk (⟨#[195]⟩:ByteArray) [] false:=Na jD (m:=[]) (k:=0) (by decide +kernel)
theorem Ap6:Folds (⟨#[226,132,170]⟩:ByteArray) [8490]:=⟨by decide +kernel,by decide +kernel,by decide +kernel,by decide +kernel⟩
theorem An0:Ae (Fold.fold (ints [8490]))=[107]:=by decide +kernel
theorem Atk:Fk (⟨#[226,132,170]⟩:ByteArray) [107] true:=An0 ▸ Ap6.is
theorem Ap7:Folds (⟨#[107]⟩:ByteArray) [107]:=⟨by decide +kernel,by decide +kernel,by decide +kernel,by decide +kernel⟩
theorem An1:Ae (Fold.fold (ints [107]))=[107]:=by decide +kernel
theorem Atl:Fk (⟨#[107]⟩:ByteArray) [107] true:=An1 ▸ Ap7.is
theorem Ap8:Folds (⟨#[97]⟩:ByteArray) [97]:=⟨by decide +kernel,by decide +kernel,by decide +kernel,by decide +kernel⟩
theorem An2:Ae (Fold.fold (ints [97]))=[97]:=by decide +kernel
theorem Atm:Fk (⟨#[97]⟩:ByteArray) [97] true:=An2 ▸ Ap8.is
theorem Ap9:Folds (⟨#[98]⟩:ByteArray) [98]:=⟨by decide +kernel,by decide +kernel,by decide +kernel,by decide +kernel⟩
theorem An3:Ae (Fold.fold (ints [98]))=[98]:=by decide +kernel
theorem Atn:Fk (⟨#[98]⟩:ByteArray) [98] true:=An3 ▸ Ap9.is
theorem Ato:Fk (⟨#[255]⟩:ByteArray) [] false:=Na jD (m:=[]) (k:=0) (by decide +kernel)
theorem Ar9:[65374,65375,65].map Fold.narrow=[126,65375,65]:=by decide +kernel
theorem Asy:[65,122,66560].map Cm=[97,122,66600]:=by decide +kernel
theorem Aqy:(⟨#[65,195,90,91]⟩:ByteArray).data.toList.map Aw=[97,195,122,91]:=by decide +kernel
theorem three {base:Nat} {v:Value} {a b c:Int} {w:World} (h:Ai base v [a,b,c] w):∃ g cap,v=.slice (some ⟨g,0,none⟩) 3 cap/\g<w.heap.size/\w.cell? ⟨g,0,none⟩=some (.int .i32 a)/\w.cell? ⟨g,1,none⟩=some (.int .i32 b)/\w.cell? ⟨g,2,none⟩=some (.int .i32 c):=by
 obtain ⟨A,cap,rfl,hA⟩:=h.shape;obtain ⟨g,rfl,-,hg⟩:=hA jS;exact ⟨g,cap,rfl,hg,h.cell 0 jS,h.cell 1 jS,h.cell 2 jS⟩
end
section
open Go.RowKit Utf
theorem Abn {s:ByteArray} (hs:s.size<=200) {m:List Nat} (h:A9 s.data.toList=(m,-1)):Folds s m:=by
 have h1:=(Cu h).2.1;have h2:m.length<=200:=by simp at h1;omega
 have h3:=Ly false ((ints m).map Fold.fo);have h4:((ints m).map Fold.fo).length=m.length:=by simp [ints]
 exact ⟨by omega,h,by omega,by omega⟩
theorem Rc {X:List Int} (hX:Ad X=true) (hl:X.length<=9600) (hd:(Norm.down false (X.map Fold.fo)).length<=9600):Fk ⟨(Ae X).toArray⟩ (Ae (Fold.fold X)) true:=by
 obtain ⟨i1,-,-⟩:=Ce hX;have h1:=Db X;have h2:(⟨(Ae X).toArray⟩:ByteArray).size=(Ae X).length:=by simp [ByteArray.size]
 have:=Folds.is (s:=⟨(Ae X).toArray⟩) (m:=X.map Int.toNat) ⟨by omega,D4 hX,by rw [jai];omega,by rw [i1];omega⟩;rwa [i1] at this
theorem Aqu {l:List Int} (hr:Ad l=true) (hl:l.length<=200) :
  Fk ⟨(Ae (Fold.fold l)).toArray⟩ (Ae (Fold.fold l)) true/\Fk ⟨(Ae (Bz false true l)).toArray⟩ (Ae (Fold.fold l)) true/\Fk ⟨(Ae (Bz false false l)).toArray⟩ (Ae (Fold.fold l)) true /\
  (Ad (Fold.fold l)=true/\(Fold.fold l).length<=9600)/\(∃ m,Fits false ⟨(Ae (Fold.fold l)).toArray⟩ m/\Ae (Bz false true (ints m))=Ae (Fold.fold l)):=by
 have d0:=Ly false (l.map Fold.fo);have d1:=Ly false l;rw [jai] at d0;have j0:=Jz (Norm.down false (l.map Fold.fo));have j1:=Jz (Norm.down false l);have r0:=Kq (Gp false (Ib hr));have r1:=Gp false hr;have r2:=Kq r1;have f0:(Fold.fold l).map Fold.fo=Fold.fold l:=Fold.P1 (Fold.Km l);have e1:Norm.down false ((Norm.join (Norm.down false l)).map Fold.fo)=Norm.down false (l.map Fold.fo):=by
  rw [Fold.Kj,Norm.M7,<- Fold.Kj]
 have e2:Norm.down false ((Norm.down false l).map Fold.fo)=Norm.down false (l.map Fold.fo):=(Fold.Kj l).symm;have k1:=Rc (X:=Fold.fold l) r0 (show (Norm.join (Norm.down false (l.map Fold.fo))).length<=9600 by omega) (by rw [f0,Fold.M6];omega);rw [Fold.F2] at k1;have k2:=Rc (X:=Norm.join (Norm.down false l)) r2 jO (by rw [e1];omega);rw [Fold.Ah2] at k2;have k3:=Rc (X:=Norm.down false l) r1 jO (by rw [e2];omega);rw [Fold.X0] at k3;refine ⟨k1,k2,k3,⟨r0,(show (Norm.join (Norm.down false (l.map Fold.fo))).length<=9600 by omega)⟩,?_⟩;exact again (soft:=false) (join:=true) r0 (show (Norm.join (Norm.down false (l.map Fold.fo))).length<=9600 by omega) (by rw [Fold.M6];omega) (Fold.Ab7 l)
end
section
open Go.RowKit Utf
theorem Aqt (s:ByteArray) (hs:s.size<=200):∃ x ok,Fk s x ok/\∀ w,Calls prog 27 #[.string s] w (It x ok w):=by
 obtain ⟨⟨m,z⟩,hrd⟩:∃ p,A9 s.data.toList=p:=⟨_,rfl⟩
 obtain ⟨hm1,hm2,hmz⟩:=Cu hrd;rcases hmz with ⟨rfl,-⟩ | ⟨k,rfl,-,-⟩
 · exact ⟨_,_,(Abn hs hrd).is,λw=>Rb s w jO (by simp at hm2;omega) hrd⟩
 · exact ⟨_,_,Na jO hrd,λw=>U0 s w jO hrd⟩
end
