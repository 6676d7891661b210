import Derived.Test.YtipkfalbepiphaaGreatDoorNormRef
set_option maxRecDepth 100000
set_option maxHeartbeats 4000000
namespace Go.Proofs.YtipkfalbepiphaaGreatDoor
open Tryz
section
open Go.RowKit Utf
theorem Uv {w w1:World} (h:w.grownBy w1 none):Below w.heap.size w w1:=⟨h.os,h.tape,h.output,h.size,λk hk=>h.block k hk jS⟩
def Af (b:UInt8):UInt8:=if 65<=b.toNat/\b.toNat<=90 then u (b.toNat+32) else b
def Xj (g:Nat) (bs:List UInt8) (w:World):Prop:=g<w.heap.size/\∀ j,j<bs.length->w.cell? ⟨g,j,none⟩=some (Dn bs[j]!)/\w.frozen? ⟨g,j,none⟩=false
theorem Ack (t:ByteArray) (w:World):∃ cap W1,(convert 9 45 (.string t)).run prog w=.ok (.slice (some ⟨w.heap.size,0,none⟩) t.size cap) W1/\t.size<=cap/\Xj w.heap.size t.data.toList W1/\Below w.heap.size w W1:=by
 have hsz:(bytesRow t (grownCap w t.size 0 5)).size=t.size+(grownCap w t.size 0 5 - t.size):=by
  unfold bytesRow;rw [Array.size_append,Array.size_map,Array.size_replicate,ByteArray.size_data]
 refine ⟨_,_,run_bytes_of_string (P:=prog) w 9 45 5 t underlying9 underlying45 underlying5,?_,⟨by simp,λj h=>⟨?_,?_⟩⟩,((jan _ w).drew).alloc (jaa _) _⟩
 ·exact grownCap_ge w t.size 0 5
 ·have:=World.cell?_alloc_mark w.drew (bytesRow t (grownCap w t.size 0 5)) 5 ((bytesRow t (grownCap w t.size 0 5)).size,(bytesRow t (grownCap w t.size 0 5)).size+1) j;have hj:j<t.data.size:=by simpa using h
  rw [getElem!_pos t.data.toList j h];exact this.trans (bytesRow_at t _ j hj)
 ·have:=World.frozen?_alloc_mark w.drew (bytesRow t (grownCap w t.size 0 5)) 5 ((bytesRow t (grownCap w t.size 0 5)).size) ((bytesRow t (grownCap w t.size 0 5)).size+1) j;have hj:j<t.size:=by simpa using h
  refine this.trans ?_;rw [hsz,decide_eq_false jO];rfl
theorem Xj.put {g:Nat} {bs:List UInt8} {w:World} (h:Xj g bs w) (k:Nat) (b:UInt8):Xj g (bs.set k b) (w.setCell ⟨g,k,none⟩ (Dn b)):=by
 refine ⟨by simpa using h.1,λj hj=>?_⟩;rw [List.length_set] at hj;obtain ⟨h1,h2⟩:=h.2 j hj;refine ⟨?_,by simpa using h2⟩;by_cases e:k=j
 ·subst e;rw [World.cell?_setCell_same w _ _ h1,getElem!_pos (bs.set k b) k (by rw [List.length_set];exact hj),List.getElem_set_self]
 ·rw [World.cell?_setCell_other w _ _ _ (λhe=>e (by injection he)),h1,getElem!_pos bs j hj,getElem!_pos (bs.set k b) j (by rw [List.length_set];exact hj),List.getElem_set_ne e]
theorem Awf {b:UInt8} (h1:65<=b.toNat) (h2:b.toNat<=90):Dn (Af b)=.int .u8 ((b.toNat:Int)+32):=by
 unfold Af Dn;rw [if_pos ⟨h1,h2⟩,Bb jO];rfl
theorem Aej {b:UInt8} (h:¬ (65<=b.toNat/\b.toNat<=90)):Dn (Af b)=.int .u8 (b.toNat:Int):=by
 unfold Af Dn;rw [if_neg h]
theorem Ao6 (b:UInt8) (w:World):Calls prog 29 #[.int .u8 (b.toNat:Int)] w λe w'=>e=.returned (Dn (Af b))/\Below w.heap.size w w':=by
 have hb:=Dq b;rcases (show (65<=b.toNat/\b.toNat<=90)\/b.toNat<65\/(65<=b.toNat/\90<b.toNat) by omega) with ⟨h1,h2⟩ | h1 | ⟨h1,h2⟩
 ·have he:=Awf h1 h2;generalize Af b=c at he ⊢;rw [he,show (b.toNat:Int)+32=b.toNat - 65+97 by omega];clear he;go_enter func29,ntmps29;go_wp2;go_ret;exact ⟨rfl,jan _ _⟩
 ·rw [Aej jO];go_enter func29,ntmps29;go_wp2;go_ret;exact ⟨rfl,jan _ _⟩
 ·rw [Aej jO];go_enter func29,ntmps29;go_wp2;go_ret;exact ⟨rfl,jan _ _⟩
theorem Atg (B cap:Nat) (bs:List UInt8) (w:World) (hl:Xj B bs w) (hn:bs.length<=100000) :
  Calls prog 28 #[.slice (some ⟨B,0,none⟩) bs.length cap,.func (.func 29) #[] #[]] w λe w'=>∃ v,e=.returned v/\Bu w.heap.size v (bs.map Af) w'/\Below w.heap.size w w':=by
 obtain ⟨hBz,hcell⟩:=hl;have HC:=jH hcell;obtain ⟨i0,hi0,hz0,hs0,hb0⟩:=info_parts E4;have hby:i0.bytes*bs.length<=281474976710656:=by rw [hb0];omega
 clear hcell;go_enter func28,ntmps28;go_wp2_with (at_make;refine wpList_make_own _ rfl _ _ 45 rfl w.heap.size 5 i0 (.int .u8 0) 1 underlying45 hi0 hz0 hs0 _ _ _ bs.length rfl rfl rfl hby (by simp only [maxLen];omega) jS ?_;intro w1 ho1 hg1);have hb1:=Uv hg1;have B1:=jH hb1;have O1:Hid (Bu w.heap.size (.slice (some ⟨w.heap.size,0,none⟩) 0 bs.length) [] w1):=jH (by simpa [Bu] using ho1);clear hb1 hg1 ho1 hby hb0 hs0 hz0 hi0;go_loopg [5,7,13] (bs.length+1) (λgk v _ i wr=>∃ k:Nat,k<=bs.length/\i=.int .i64 k/\bs.length - k<gk/\Hid (Bu w.heap.size v ((bs.take k).map Af) wr/\Below w.heap.size w wr))
 case atStart=>exact ⟨0,Nat.zero_le _,rfl,by omega,⟨O1.out,B1.out⟩⟩
 case round =>
  obtain ⟨k,hk,rfl,hg,I⟩:=hrel;by_cases hlt:k<bs.length
  ·obtain ⟨hx,-⟩:=HC.out k hlt;have hx':=(I.out.2.cell (p:=⟨B,k,none⟩) hBz).trans hx;obtain ⟨x,hxe⟩:∃ x,x=bs[k]!:=⟨_,rfl⟩
   rw [<- hxe] at hx';have hnx:(bs.take (k+1)).map Af=(bs.take k).map Af ++ [Af x]:=by rw [List.take_succ_eq_append_getElem hlt,List.map_append,hxe,getElem!_pos bs k hlt];rfl
   have hle:((bs.take k).map Af).length<=1000000:=by rw [jai,jak];omega
   have hkz:(k:Int)<(bs.length:Int):=jO
   have hxb:=Dq x;have K:=Ao6 x wr;obtain ⟨y,hy⟩:∃ y,y=Af x:=⟨_,rfl⟩
   rw [<- hy] at K hnx;unfold Dn at K hx';have hyb:=Dq y;have HN:=jH hnx;have HK:=jH K;clear hx hxe hnx K hy;go_wp2_with fail;refine HK.out.mono ?_;rintro e w2 ⟨rfl,hb2⟩;have HB:=jH hb2;clear hb2 HK;go_wp2_with (at_builtin;refine Db w2 45 5 (.int .u8 0) 1 underlying45 E4 rfl jO w.heap.size u5 _ _ (I.out.1.Ac HB.out) (Nat.le_trans I.out.2.size HB.out.size) hle 1 jO _ rfl rfl rfl _ _ rfl rfl rfl ?_;intro v3 w3 ho3 hb3;have HO:=jH ho3;have HB3:=jH hb3;clear ho3 hb3);have I2:Hid (Bu w.heap.size v3 ((bs.take (k+1)).map Af) w3/\Below w.heap.size w w3):=by
    refine ⟨?_,(I.out.2.trans (HB.out.mono I.out.2.size)).trans HB3.out⟩;rw [HN.out];exact Bu.more HO.out rfl rfl
   go_roundg (bs.length - k)
   case measure=>omega
   case rel=>exact ⟨k+1,by omega,by go_num,by omega,I2⟩
  ·obtain rfl:k=bs.length:=jO
   go_wp2;go_ret;have h:=I.out.1;rw [List.take_length] at h;exact ⟨_,rfl,h,I.out.2⟩
theorem Hm (s:ByteArray) (w:World) (hs:s.size<=100000):Calls prog 13 #[.string s] w λe w'=>e=.returned (.string ⟨(s.data.toList.map Af).toArray⟩)/\Below w.heap.size w w':=by
 obtain ⟨cap,W1,hconv,hcap,hB8,hbW⟩:=Ack s w;have H1:=Atg w.heap.size cap s.data.toList W1 hB8 (by simpa using hs);rw [show s.data.toList.length=s.size by simp] at H1;have HK:=jH H1;have HBW:=jH hbW;clear hB8 hbW H1;go_enter func13,ntmps13;go_wp2_with fail;refine HK.out.mono ?_;rintro e w2 ⟨v2,rfl,ho2,hb2⟩;have hcv:=Hr ho2.bytes;have HB:=jH (Aa HBW.out hb2);clear ho2 hb2 HK;go_wp2;go_ret;exact ⟨rfl,HB.out⟩
end
section
open Go.RowKit Utf
theorem Auc:∀ y ∈ lowers,∀ i ∈ List.range (y.hi - y.lo+1).toNat,Aj (Fx (y.lo+i))=true:=by decide +kernel
theorem Ab3:∀ i ∈ List.range 94,Aj (Fold.fo (65281+i))=true:=by decide +kernel
theorem Ay7 {r:Int} (h:Aj r=true):Aj (Fold.fo r)=true:=by
 cases hw:Bp r with
 | true =>
  simp only [Bp,jag,decide_eq_true_eq] at hw;have:=Ab3 (r - 65281).toNat (by rw [List.mem_range];omega);rwa [show (65281:Int)+((r - 65281).toNat:Int)=r by omega] at this
 | false =>
  have hn:Fold.narrow r=r:=by unfold Fold.narrow;rw [hw];rfl
  unfold Fold.fo;rw [hn];cases hl:Mn r with
  | none=>unfold Fx;rw [hl];exact h
  | some y =>
   obtain ⟨h1,h2,h3⟩:=Dm hl;have:=Auc y h1 (r - y.lo).toNat (by rw [List.mem_range];omega);rwa [show y.lo+((r - y.lo).toNat:Int)=r by omega] at this
theorem Sk {l:List Int} (h:Ae l=true):Ae (l.map Fold.fo)=true:=by
 unfold Ae at h ⊢;rw [jar] at h ⊢;intro c hc;obtain ⟨d,hd,rfl⟩:=List.mem_map.1 hc;exact Ay7 (h d hd)
end
