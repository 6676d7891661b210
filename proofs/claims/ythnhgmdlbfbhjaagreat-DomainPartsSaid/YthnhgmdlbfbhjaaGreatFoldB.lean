import Derived.Test.YthnhgmdlbfbhjaaGreatNormRef
set_option maxRecDepth 100000
set_option maxHeartbeats 4000000
namespace Go.Proofs.YthnhgmdlbfbhjaaGreat
open Tryz
section
open Go.RowKit Utf
theorem Rl {w w1:World} (h:w.grownBy w1 none):Below w.heap.size w w1:=⟨h.os,h.tape,h.output,h.size,λk hk=>h.block k hk jS⟩
def Aw (b:UInt8):UInt8:=if 65<=b.toNat/\b.toNat<=90 then u (b.toNat+32) else b
def Nw (g:Nat) (bs:List UInt8) (w:World):Prop:=g<w.heap.size/\∀ j,j<bs.length->w.cell? ⟨g,j,none⟩=some (Es bs[j]!)/\w.frozen? ⟨g,j,none⟩=false
theorem Xl (t:ByteArray) (w:World):∃ cap W1,(convert 9 77 (.string t)).run prog w=.ok (.slice (some ⟨w.heap.size,0,none⟩) t.size cap) W1/\t.size<=cap/\Nw w.heap.size t.data.toList W1/\Below w.heap.size w W1:=by
 have hsz:(bytesRow t (grownCap w t.size 0 5)).size=t.size+(grownCap w t.size 0 5 - t.size):=by
  unfold bytesRow;rw [Array.size_append,Array.size_map,Array.size_replicate,ByteArray.size_data]
 refine ⟨_,_,run_bytes_of_string (P:=prog) w 9 77 5 t underlying9 underlying77 underlying5,?_,⟨by simp,λj h=>⟨?_,?_⟩⟩,((jan _ w).drew).alloc (jaa _) _⟩
 ·exact grownCap_ge w t.size 0 5
 ·have:=World.cell?_alloc_mark w.drew (bytesRow t (grownCap w t.size 0 5)) 5 ((bytesRow t (grownCap w t.size 0 5)).size,(bytesRow t (grownCap w t.size 0 5)).size+1) j;have hj:j<t.data.size:=by simpa using h
  rw [getElem!_pos t.data.toList j h];exact this.trans (bytesRow_at t _ j hj)
 ·have:=World.frozen?_alloc_mark w.drew (bytesRow t (grownCap w t.size 0 5)) 5 ((bytesRow t (grownCap w t.size 0 5)).size) ((bytesRow t (grownCap w t.size 0 5)).size+1) j;have hj:j<t.size:=by simpa using h
  refine this.trans ?_;rw [hsz,decide_eq_false jO];rfl
theorem Nw.put {g:Nat} {bs:List UInt8} {w:World} (h:Nw g bs w) (k:Nat) (b:UInt8):Nw g (bs.set k b) (w.setCell ⟨g,k,none⟩ (Es b)):=by
 refine ⟨by simpa using h.1,λj hj=>?_⟩;rw [List.length_set] at hj;obtain ⟨h1,h2⟩:=h.2 j hj;refine ⟨?_,by simpa using h2⟩;by_cases e:k=j
 ·subst e;rw [World.cell?_setCell_same w _ _ h1,getElem!_pos (bs.set k b) k (by rw [List.length_set];exact hj),List.getElem_set_self]
 ·rw [World.cell?_setCell_other w _ _ _ (λhe=>e (by injection he)),h1,getElem!_pos bs j hj,getElem!_pos (bs.set k b) j (by rw [List.length_set];exact hj),List.getElem_set_ne e]
theorem Nw.bytes {g cap:Nat} {bs:List UInt8} {w:World} (h:Nw g bs w) (hc:bs.length<=cap):Bytes (.slice (some ⟨g,0,none⟩) bs.length cap) bs w:=by
 refine ⟨some ⟨g,0,none⟩,cap,by rw [jai],by rw [jai];exact hc,λh=>(by cases h),λ_=>⟨_,rfl,h.1,λj x hx=>?_⟩⟩;have e:(⟨g,0,none⟩:Addr).add j=⟨g,j,none⟩:=by unfold Addr.add;split<;>simp_all
 have hj:j<bs.length:=by have:=(List.getElem?_eq_some_iff.1 hx).1;simpa using this
 rw [e,(h.2 j hj).1,<- hx,List.getElem?_map,List.getElem?_eq_getElem hj,getElem!_pos bs j hj];rfl
theorem Ao5 (args:Array Value) (w:World):(callFunc 135 args).run prog w=.ok (.enter 135 args) w:=by kernel_rfl
theorem Ajv {b:UInt8} (h1:65<=b.toNat) (h2:b.toNat<=90):Es (Aw b)=.int .u8 ((b.toNat:Int)+32):=by
 unfold Aw Es;rw [if_pos ⟨h1,h2⟩,Au jO];rfl
theorem Yv {b:UInt8} (h:¬ (65<=b.toNat/\b.toNat<=90)):Es (Aw b)=.int .u8 (b.toNat:Int):=by
 unfold Aw Es;rw [if_neg h]
theorem Afa (b:UInt8) (w:World):Calls prog 135 #[.int .u8 (b.toNat:Int)] w λe w'=>e=.returned (Es (Aw b))/\Below w.heap.size w w':=by
 have hb:=Dp b;rcases (show (65<=b.toNat/\b.toNat<=90)\/b.toNat<65\/(65<=b.toNat/\90<b.toNat) by omega) with ⟨h1,h2⟩ | h1 | ⟨h1,h2⟩
 ·have he:=Ajv h1 h2;generalize Aw b=c at he ⊢;rw [he,show (b.toNat:Int)+32=b.toNat - 65+97 by omega];clear he;go_enter func135,ntmps135;go_wp2;go_ret;exact ⟨rfl,jan _ _⟩
 ·rw [Yv jO];go_enter func135,ntmps135;go_wp2;go_ret;exact ⟨rfl,jan _ _⟩
 ·rw [Yv jO];go_enter func135,ntmps135;go_wp2;go_ret;exact ⟨rfl,jan _ _⟩
theorem Ahz (B cap:Nat) (bs:List UInt8) (w:World) (hl:Nw B bs w) (hn:bs.length<=100000) :
  Calls prog 134 #[.slice (some ⟨B,0,none⟩) bs.length cap,.func (.func 135) #[] #[]] w λe w'=>∃ v,e=.returned v/\Bw w.heap.size v (bs.map Aw) w'/\Below w.heap.size w w':=by
 obtain ⟨hBz,hcell⟩:=hl;have HC:=jH hcell;obtain ⟨i0,hi0,hz0,hs0,hb0⟩:=info_parts Fq;have hby:i0.bytes*bs.length<=281474976710656:=by rw [hb0];omega
 clear hcell;go_enter func134,ntmps134;go_wp2_with (at_make;refine wpList_make_own _ rfl _ _ 77 rfl w.heap.size 5 i0 (.int .u8 0) 1 underlying77 hi0 hz0 hs0 _ _ _ bs.length rfl rfl rfl hby (by simp only [maxLen];omega) jS ?_;intro w1 ho1 hg1);have hb1:=Rl hg1;have B1:=jH hb1;have O1:Hid (Bw w.heap.size (.slice (some ⟨w.heap.size,0,none⟩) 0 bs.length) [] w1):=jH (by simpa [Bw] using ho1);clear hb1 hg1 ho1 hby hb0 hs0 hz0 hi0;go_loopg [5,7,13] (bs.length+1) (λgk v _ i wr=>∃ k:Nat,k<=bs.length/\i=.int .i64 k/\bs.length - k<gk/\Hid (Bw w.heap.size v ((bs.take k).map Aw) wr/\Below w.heap.size w wr))
 case atStart=>exact ⟨0,Nat.zero_le _,rfl,by omega,⟨O1.out,B1.out⟩⟩
 case round =>
  obtain ⟨k,hk,rfl,hg,I⟩:=hrel;by_cases hlt:k<bs.length
  ·obtain ⟨hx,-⟩:=HC.out k hlt;have hx':=(I.out.2.cell (p:=⟨B,k,none⟩) hBz).trans hx;obtain ⟨x,hxe⟩:∃ x,x=bs[k]!:=⟨_,rfl⟩
   rw [<- hxe] at hx';have hnx:(bs.take (k+1)).map Aw=(bs.take k).map Aw ++ [Aw x]:=by rw [List.take_succ_eq_append_getElem hlt,List.map_append,hxe,getElem!_pos bs k hlt];rfl
   have hle:((bs.take k).map Aw).length<=1000000:=by rw [jai,jak];omega
   have hkz:(k:Int)<(bs.length:Int):=jO
   have hxb:=Dp x;have K:=Afa x wr;obtain ⟨y,hy⟩:∃ y,y=Aw x:=⟨_,rfl⟩
   rw [<- hy] at K hnx;unfold Es at K hx';have hyb:=Dp y;have HN:=jH hnx;have HK:=jH K;clear hx hxe hnx K hy;go_wp2_with fail;refine HK.out.mono ?_;rintro e w2 ⟨rfl,hb2⟩;have HB:=jH hb2;clear hb2 HK;go_wp2_with (at_builtin;refine Ap w2 77 5 (.int .u8 0) 1 underlying77 Fq rfl jO w.heap.size u5 _ _ (I.out.1.Af HB.out) (Nat.le_trans I.out.2.size HB.out.size) hle 1 jO _ rfl rfl rfl _ _ rfl rfl rfl ?_;intro v3 w3 ho3 hb3;have HO:=jH ho3;have HB3:=jH hb3;clear ho3 hb3);have I2:Hid (Bw w.heap.size v3 ((bs.take (k+1)).map Aw) w3/\Below w.heap.size w w3):=by
    refine ⟨?_,(I.out.2.trans (HB.out.mono I.out.2.size)).trans HB3.out⟩;rw [HN.out];exact Bw.more HO.out rfl rfl
   go_roundg (bs.length - k)
   case measure=>omega
   case rel=>exact ⟨k+1,by omega,by go_num,by omega,I2⟩
  ·obtain rfl:k=bs.length:=jO
   go_wp2;go_ret;have h:=I.out.1;rw [List.take_length] at h;exact ⟨_,rfl,h,I.out.2⟩
theorem Ai1 (s:ByteArray) (w:World) (hs:s.size<=100000):Calls prog 84 #[.string s] w λe w'=>e=.returned (.string ⟨(s.data.toList.map Aw).toArray⟩)/\Below w.heap.size w w':=by
 obtain ⟨cap,W1,hconv,hcap,hB8,hbW⟩:=Xl s w;have H1:=Ahz w.heap.size cap s.data.toList W1 hB8 (by simpa using hs);rw [show s.data.toList.length=s.size by simp] at H1;have HK:=jH H1;have HBW:=jH hbW;clear hB8 hbW H1;go_enter func84,ntmps84;go_wp2_with fail;refine HK.out.mono ?_;rintro e w2 ⟨v2,rfl,ho2,hb2⟩;have hcv:=Fj ho2.bytes;have HB:=jH (Aa HBW.out hb2);clear ho2 hb2 HK;go_wp2;go_ret;exact ⟨rfl,HB.out⟩
end
section
open Go.RowKit Utf
theorem Af8 (v:Value) (l:List Int) (w:World) (hl:Runes v l w) (hn:l.length<=10000):Calls prog 44 #[v] w (Bh (l.map Fold.narrow) w):=by
 obtain ⟨A,c,rfl,hc,hcell⟩:=hl.form;have HC:=jH hcell;clear hl hcell;go_enter func44,ntmps44;go_wp2;go_loopg [3,4] (l.length+1) (λgk v i wr=>∃ k:Nat,k<=l.length/\i=.int .i64 k/\l.length - k<gk/\Hid (Ai w.heap.size v ((l.take k).map Fold.narrow) wr/\Below w.heap.size w wr))
 case atStart=>exact ⟨0,Nat.zero_le _,rfl,by omega,⟨Ai.nil _ _,jan _ _⟩⟩
 case round =>
  obtain ⟨k,hk,rfl,hg,I⟩:=hrel;by_cases hlt:k<l.length
  ·obtain ⟨ad,rfl,hb,hx⟩:=HC.out k hlt;have hx':=(I.out.2.cell (by rw [Ah];exact hb)).trans hx;obtain ⟨x,hxe⟩:∃ x,x=l[k]!:=⟨_,rfl⟩
   rw [<- hxe] at hx';have hnx:(l.take (k+1)).map Fold.narrow=(l.take k).map Fold.narrow ++ [Fold.narrow x]:=by rw [Cy l k hlt,List.map_append,<- hxe];rfl
   have hle:((l.take k).map Fold.narrow).length<=1000000:=by rw [jai,jak];omega
   have HN:=jH hnx;clear hx hb hxe hnx;have hW:=λW=>Su x W;have hnw:Fold.narrow x=if Bf x then x - 65248 else x:=rfl;cases hw:Bf x<;>rw [hw] at hW hnw
   ·have HNW:=jH hnw;have HW:=jH hW;clear hw hnw hW;go_wp2_with (first
     | (go_at_call 68;refine (HW.out _).mono ?_;rintro e w2 ⟨rfl,rfl⟩)
     | (at_builtin;refine Ap wr 56 21 (.int .i32 0) 4 underlying56 Am rfl jO w.heap.size u3 _ _ I.out.1 I.out.2.size hle 1 jO _ rfl rfl rfl _ _ rfl rfl rfl ?_;intro v3 w3 ho3 hb3;have HO:=jH ho3;have HB3:=jH hb3;clear ho3 hb3))
    have I2:Hid (Ai w.heap.size v3 ((l.take (k+1)).map Fold.narrow) w3/\Below w.heap.size w w3):=by
     refine ⟨?_,I.out.2.trans HB3.out⟩;rw [HN.out,HNW.out];exact Ai.more HO.out rfl rfl
    go_roundg (l.length - k)
    case measure=>omega
    case rel=>exact ⟨k+1,by omega,by go_num,by omega,I2⟩
   ·have HNW:=jH hnw;have HW:=jH hW;simp only [Bf,jag,decide_eq_true_eq] at hw;obtain ⟨w1,w2⟩:=hw;clear hnw hW;go_wp2_with (first
     | (go_at_call 68;refine (HW.out _).mono ?_;rintro e w2 ⟨rfl,rfl⟩)
     | (at_builtin;refine Ap wr 56 21 (.int .i32 0) 4 underlying56 Am rfl jO w.heap.size u3 _ _ I.out.1 I.out.2.size hle 1 jO _ rfl rfl rfl _ _ rfl rfl rfl ?_;intro v3 w3 ho3 hb3;have HO:=jH ho3;have HB3:=jH hb3;clear ho3 hb3))
    have I2:Hid (Ai w.heap.size v3 ((l.take (k+1)).map Fold.narrow) w3/\Below w.heap.size w w3):=by
     refine ⟨?_,I.out.2.trans HB3.out⟩;rw [HN.out,HNW.out];exact Ai.more HO.out rfl rfl
    go_roundg (l.length - k)
    case measure=>omega
    case rel=>exact ⟨k+1,by omega,by go_num,by omega,I2⟩
  ·obtain rfl:k=l.length:=jO
   go_wp2;go_ret;have h:=I.out.1;rw [List.take_length] at h;exact ⟨_,rfl,h,I.out.2⟩
theorem Aer (v:Value) (l:List Int) (w:World) (hl:Runes v l w) (hn:l.length<=10000):Calls prog 43 #[v] w (Bh (l.map Cm) w):=by
 obtain ⟨A,c,rfl,hc,hcell⟩:=hl.form;have HC:=jH hcell;clear hl hcell;go_enter func43,ntmps43;go_wp2;go_loopg [3,4] (l.length+1) (λgk v i wr=>∃ k:Nat,k<=l.length/\i=.int .i64 k/\l.length - k<gk/\Hid (Ai w.heap.size v ((l.take k).map Cm) wr/\Below w.heap.size w wr))
 case atStart=>exact ⟨0,Nat.zero_le _,rfl,by omega,⟨Ai.nil _ _,jan _ _⟩⟩
 case round =>
  obtain ⟨k,hk,rfl,hg,I⟩:=hrel;by_cases hlt:k<l.length
  ·obtain ⟨ad,rfl,hb,hx⟩:=HC.out k hlt;have hx':=(I.out.2.cell (by rw [Ah];exact hb)).trans hx;obtain ⟨x,hxe⟩:∃ x,x=l[k]!:=⟨_,rfl⟩
   rw [<- hxe] at hx';have hnx:(l.take (k+1)).map Cm=(l.take k).map Cm ++ [Cm x]:=by rw [Cy l k hlt,List.map_append,<- hxe];rfl
   have hle:((l.take k).map Cm).length<=1000000:=by rw [jai,jak];omega
   have HN:=jH hnx;clear hx hb hxe hnx;have hL:=Aaa x wr;obtain ⟨y,hy⟩:∃ y,y=Cm x:=⟨_,rfl⟩
   rw [<- hy] at hL;have HY:=jH hy;clear hy;go_wp2_with (first
    | (go_at_call 67;((with_reducible refine hL.mono ?_);rintro e w2 ⟨rfl,hb2⟩;have HB:=jH hb2;clear hb2))
    | (at_builtin;refine Ap w2 56 21 (.int .i32 0) 4 underlying56 Am rfl jO w.heap.size u3 _ _ (I.out.1.Af HB.out) (Nat.le_trans I.out.2.size HB.out.size) hle 1 jO _ rfl rfl rfl _ _ rfl rfl rfl ?_;intro v3 w3 ho3 hb3;have HO:=jH ho3;have HB3:=jH hb3;clear ho3 hb3))
   have I2:Hid (Ai w.heap.size v3 ((l.take (k+1)).map Cm) w3/\Below w.heap.size w w3):=by
    refine ⟨?_,(I.out.2.trans (HB.out.mono I.out.2.size)).trans HB3.out⟩;rw [HN.out,<- HY.out];exact Ai.more HO.out rfl rfl
   go_roundg (l.length - k)
   case measure=>omega
   case rel=>exact ⟨k+1,by omega,by go_num,by omega,I2⟩
  ·obtain rfl:k=l.length:=jO
   go_wp2;go_ret;have h:=I.out.1;rw [List.take_length] at h;exact ⟨_,rfl,h,I.out.2⟩
def Mf (L:List UInt8) (k:Nat):List UInt8:=(L.take k).map Aw ++ L.drop k
theorem Ah4 (L:List UInt8) (k:Nat):(Mf L k).length=L.length:=by
 unfold Mf;rw [jab,jai,jak,jaj];omega
theorem Alg (L:List UInt8) (k:Nat) (h:k<L.length):(Mf L k)[k]! = L[k]!:=by
 rw [getElem!_pos (Mf L k) k (by rw [Ah4];exact h),getElem!_pos L k h];unfold Mf;rw [List.getElem_append_right (by rw [jai,jak];omega)];simp only [jai,jak,List.getElem_drop];congr 1;omega
theorem Aef (L:List UInt8) (k:Nat) (h:k<L.length):Mf L (k+1)=(Mf L k).set k (Aw L[k]!):=by
 unfold Mf;rw [List.set_append_right _ _ (by rw [jai,jak];omega),List.take_succ_eq_append_getElem h,List.map_append,getElem!_pos L k h,jaq,List.drop_eq_getElem_cons h];congr 1;rw [jai,jak,show k - min k L.length=0 by omega];rfl
theorem Aqa (L:List UInt8) (k:Nat) (h:k<L.length) (hs:Aw L[k]! = L[k]!):Mf L (k+1)=Mf L k:=by
 rw [Aef L k h,hs];apply List.ext_getElem
 ·simp
 ·intro j h1 h2;by_cases e:k=j
  ·subst e;rw [List.getElem_set_self,<- Alg L k h,getElem!_pos (Mf L k) k h2]
  ·rw [List.getElem_set_ne e]
theorem U0 (s:ByteArray) (w:World) (hs:s.size<=100000) {m:List Nat} {k:Nat} (hrd:A9 s.data.toList=(m,(k:Int))):Calls prog 27 #[.string s] w (It [] false w):=by
 have h1:=λW=>E9 s W jO hrd;have H1:=jH h1;have hk0:(0:Int)<=(k:Int):=jO
 clear h1 hrd;go_enter func27,ntmps27;go_wp2_with fail;refine (H1.out _).mono ?_;rintro e w1 ⟨A1,c1,rfl,-,hb1⟩;have B1:=jH hb1;clear hb1;go_wp2;go_ret2;exact ⟨rfl,B1.out⟩
theorem Aih:∀ y ∈ lowers,∀ i ∈ List.range (y.hi - y.lo+1).toNat,Ak (Cm (y.lo+i))=true:=by decide +kernel
theorem Xa:∀ i ∈ List.range 94,Ak (Fold.fo (65281+i))=true:=by decide +kernel
theorem Ald {r:Int} (h:Ak r=true):Ak (Fold.fo r)=true:=by
 cases hw:Bf r with
 | true =>
  simp only [Bf,jag,decide_eq_true_eq] at hw;have:=Xa (r - 65281).toNat (by rw [List.mem_range];omega);rwa [show (65281:Int)+((r - 65281).toNat:Int)=r by omega] at this
 | false =>
  have hn:Fold.narrow r=r:=by unfold Fold.narrow;rw [hw];rfl
  unfold Fold.fo;rw [hn];cases hl:Jc r with
  | none=>unfold Cm;rw [hl];exact h
  | some y =>
   obtain ⟨h1,h2,h3⟩:=Co hl;have:=Aih y h1 (r - y.lo).toNat (by rw [List.mem_range];omega);rwa [show y.lo+((r - y.lo).toNat:Int)=r by omega] at this
theorem Ib {l:List Int} (h:Ad l=true):Ad (l.map Fold.fo)=true:=by
 unfold Ad at h ⊢;rw [jar] at h ⊢;intro c hc;obtain ⟨d,hd,rfl⟩:=List.mem_map.1 hc;exact Ald (h d hd)
theorem Rb (s:ByteArray) (w:World) (hs:s.size<=100000) {m:List Nat} (hm:m.length<=420) (hrd:A9 s.data.toList=(m,-1)):Calls prog 27 #[.string s] w (It (Ae (Fold.fold (ints m))) true w):=by
 obtain ⟨hm1,-,-⟩:=Cu hrd;obtain ⟨hm3,-⟩:=Iy m hm1;have hml:(ints m).length<=420:=by simp only [ints,jai];omega
 have hfr:=Ib hm3;have h1:=λW=>E9 s W jO hrd;have h2:=λv W (h:Runes v (ints m) W)=>Af8 v (ints m) W h jO;have h3:=λv W (h:Runes v ((ints m).map Fold.narrow) W)=>Aer v _ W h (by rw [jai];omega);have emap:((ints m).map Fold.narrow).map Cm=(ints m).map Fold.fo:=by rw [List.map_map];rfl
 simp only [emap] at h3;obtain ⟨x,hx⟩:∃ x,x=Ae ((ints m).map Fold.fo):=⟨_,rfl⟩
 have h4:=λv W (h:Runes v ((ints m).map Fold.fo) W)=>Ic v _ W h (by rw [jai];omega) hfr ((Gw hfr).trans hx.symm);have hre:=D4 hfr;rw [<- hx] at hre;have hxl:(⟨x.toArray⟩:ByteArray).size<=100000:=by
  have e:(⟨x.toArray⟩:ByteArray).size=x.length:=by simp [ByteArray.size]
  have:=Db ((ints m).map Fold.fo);rw [jai] at this;rw [e,hx];omega
 have h5:=λW=>X1 ⟨x.toArray⟩ false true W hxl (m:=((ints m).map Fold.fo).map Int.toNat) (by rw [jai,jai];omega) (by simpa using hre);rw [(Ce hfr).1] at h5;have H1:=jH h1;have H2:=jH h2;have H3:=jH h3;have H4:=jH h4;have H5:=jH h5;clear h1 h2 h3 h4 h5 hm1 hm3 hml hfr emap hx hre hxl hrd hm;go_enter func27,ntmps27;go_wp2_with fail;refine (H1.out _).mono ?_;rintro e w1 ⟨A1,c1,rfl,hr1,hb1⟩;have R1:=jH hr1;have B1:=jH hb1;clear hr1 hb1;go_wp2_with fail;refine (H2.out _ _ R1.out).mono ?_;rintro e w2 ⟨v2,rfl,ho2,hb2⟩;have R2:=jH ho2.Fb;have B2:=jH (Aa B1.out hb2);clear ho2 hb2 R1 B1;go_wp2_with fail;refine (H3.out _ _ R2.out).mono ?_;rintro e w3 ⟨v3,rfl,ho3,hb3⟩;have R3:=jH ho3.Fb;have B3:=jH (Aa B2.out hb3);clear ho3 hb3 R2 B2;go_wp2_with fail;refine (H4.out _ _ R3.out).mono ?_;rintro e w4 ⟨rfl,hb4⟩;have B4:=jH (Aa B3.out hb4);clear hb4 R3 B3;go_wp2_with fail;refine (H5.out _).mono ?_;rintro e w5 ⟨rfl,hb5⟩;have B5:=jH (Aa B4.out hb5);clear hb5 B4;go_wp2;go_ret2;exact ⟨rfl,B5.out⟩
end
