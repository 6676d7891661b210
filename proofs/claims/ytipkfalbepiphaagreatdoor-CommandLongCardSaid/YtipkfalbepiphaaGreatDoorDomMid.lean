import Derived.Shelf.Strings.OnBuilder
import Derived.Test.YtipkfalbepiphaaGreatDoorDomPl
import Derived.Shelf.LaysM
import Derived.Shelf.Strconv.Clone
namespace Go.Proofs.YtipkfalbepiphaaGreatDoor
open Tryz
section
open Go.RowKit
def J9 (bs:List UInt8):Value:=.string ⟨bs.toArray⟩
theorem Lh:(Tryz.prog.info? 9).map (λi=>(i.zero,i.size,i.bytes))=some (some (.string ⟨#[]⟩),1,16):=by kernel_rfl
def Amj (v:Value) (l:List (List UInt8)) (w:World):Prop:=Row v (l.map J9) w
def Ck (base:Nat) (v:Value) (l:List (List UInt8)) (w:World):Prop:=w.ownsRow base 9 1 v l.length (l.map J9)
theorem Ck.strs {base:Nat} {v:Value} {l:List (List UInt8)} {w:World} (h:Ck base v l w):Amj v l w:=Row.Zm h
theorem Ck.Ac {base:Nat} {v:Value} {l:List (List UInt8)} {w w':World} (h:Ck base v l w) (hb:Below w.heap.size w w'):Ck base v l w':=Zr h hb
theorem Amj.nil (w:World):Amj (.slice none 0 0) [] w:=⟨none,0,rfl,jaa _,λ_=>rfl,λh=>absurd h jS⟩
theorem Amj.form {v:Value} {l:List (List UInt8)} {w:World} (h:Amj v l w):∃ (A:Option Addr) (c:Nat),v=.slice A l.length c/\l.length<=c /\
  (∀ k,k<l.length->∃ ad,A=some ad/\ad.block<w.heap.size/\w.cell? (ad.add k)=some (J9 l[k]!)):=by
 obtain ⟨A,c,rfl,hc,-,ha⟩:=h;simp only [jai] at ha hc ⊢;refine ⟨A,c,rfl,hc,λk hk=>?_⟩;obtain ⟨ad,rfl,hlt,hcell⟩:=ha jO;refine ⟨ad,rfl,hlt,hcell k _ ?_⟩;rw [List.getElem?_map,List.getElem?_eq_getElem hk,getElem!_pos l k hk];rfl
theorem Ako (w:World) (base N:Nat) (hN:N=w.heap.size) (hb:base<=w.heap.size) (l:List (List UInt8)) (hl:l.length<=1000):Ck base (.slice (some ⟨N,0,none⟩) l.length l.length) l (w.alloc (.cells (l.map J9).toArray 9)):=by
 subst hN;have h:=World.ownsRow_lit (size:=1) (e:=9) w (l.map J9).toArray l.length hb (by simp only [maxLen];omega) jS;simpa [Ck] using h
theorem Ck.shape {base:Nat} {v:Value} {l:List (List UInt8)} {w:World} (h:Ck base v l w):∃ (A:Option Addr) (c:Nat),v=.slice A l.length c/\(0<l.length->∃ g,A=some ⟨g,0,none⟩/\base<=g/\g<w.heap.size):=by
 rcases h.2 with ⟨rfl,h0⟩ | ⟨g,cap,cur,rfl,hb,hg,hnc,hcm,hcs,hcur⟩
 · exact ⟨none,0,by rw [h0],λhp=>by omega⟩
 · exact ⟨some ⟨g,0,none⟩,cap,rfl,λ_=>⟨g,rfl,hb,(h.lt g rfl).2⟩⟩
theorem Ck.cell {base g n c:Nat} {l:List (List UInt8)} {w:World} (h:Ck base (.slice (some ⟨g,0,none⟩) n c) l w) (k:Nat) (hk:k<l.length):w.cell? ⟨g,k,none⟩=some (.string ⟨l[k]!.toArray⟩):=by
 have hn:n=l.length:=by
  rcases h.2 with ⟨h0,-⟩ | ⟨g',cap,cur,h0,-⟩
  · cases h0
  · injection h0
 subst hn;have:=World.ownsRow.cellAt h k jO;rw [this,List.getElem?_map,List.getElem?_eq_getElem hk,getElem!_pos l k hk];rfl
theorem Ck.free {base g n c:Nat} {l:List (List UInt8)} {w:World} (h:Ck base (.slice (some ⟨g,0,none⟩) n c) l w) (k:Nat):w.frozen? ⟨g,k,none⟩=false:=by
 have hn:n=l.length:=by
  rcases h.2 with ⟨h0,-⟩ | ⟨g',cap,cur,h0,-⟩
  · cases h0
  · injection h0
 subst hn;exact World.ownsRow.frozenAt h k
theorem Ck.put {base g n c:Nat} {l:List (List UInt8)} {w:World} (h:Ck base (.slice (some ⟨g,0,none⟩) n c) l w) (k:Nat) (x:List UInt8):Ck base (.slice (some ⟨g,0,none⟩) n c) (l.set k x) (w.setCell ⟨g,k,none⟩ (.string ⟨x.toArray⟩)):=by
 have hn:n=l.length:=by
  rcases h.2 with ⟨h0,-⟩ | ⟨g',cap,cur,h0,-⟩
  · cases h0
  · injection h0
 subst hn;have:=(World.ownsRow.stored h k (.string ⟨x.toArray⟩)).1;unfold Ck;rw [List.length_set,List.map_set];exact this
end
section
open Go.Shelf Go.RowKit Utf
def Hz:Go.Shelf.Ren:=⟨λ| 156=>155 | 165=>46 | 166=>47 | 169=>49 | 240=>63 | 241=>64 | 276=>93 | 277=>94 | n=>n,λ| 31=>120 | 9=>9 | 3=>3 | 4=>4 | 0=>0 | 20=>20 | 72=>86 | 76=>90 | 70=>84 | 37=>45 | 75=>89 | 127=>108 | 164=>150 | 5=>5 | 80=>93 | n=>n,λ| n=>n⟩
theorem Un:Go.Proofs.Lays.n156 prog Hz:={
 mixed:=by kernel_rfl
 f156:=Tryz.func155.trans (congrArg some jK)
 f165:=Tryz.func46.trans (congrArg some jK)
 f166:=Tryz.func47.trans (congrArg some jK)
 f169:=Tryz.func49.trans (congrArg some jK)
 f240:=Tryz.func63.trans (congrArg some jK)
 f241:=Tryz.func64.trans (congrArg some jK)
 f276:=Tryz.func93.trans (congrArg some jK)
 f277:=Tryz.func94.trans (congrArg some jK)
 t0:=underlying0
 a0:=Tryz.isAgg0
 z0:=Tryz.sizeOf0
 v0:=Tryz.zeroValue0
 t3:=underlying3
 a3:=Tryz.isAgg3
 z3:=Tryz.sizeOf3
 v3:=Tryz.zeroValue3
 t4:=underlying4
 a4:=Tryz.isAgg4
 z4:=Tryz.sizeOf4
 v4:=Tryz.zeroValue4
 t9:=underlying9
 a9:=Tryz.isAgg9
 z9:=Tryz.sizeOf9
 v9:=Tryz.zeroValue9
 t20:=underlying20
 a20:=Tryz.isAgg20
 z20:=Tryz.sizeOf20
 v20:=Tryz.zeroValue20
 t31:=underlying120
 a31:=Tryz.isAgg120
 z31:=Tryz.sizeOf120
 v31:=Tryz.zeroValue120
 t37:=underlying45
 a37:=Tryz.isAgg45
 z37:=Tryz.sizeOf45
 v37:=Tryz.zeroValue45
 t70:=underlying84
 a70:=Tryz.isAgg84
 z70:=Tryz.sizeOf84
 v70:=Tryz.zeroValue84
 t72:=underlying86
 a72:=Tryz.isAgg86
 z72:=Tryz.sizeOf86
 v72:=Tryz.zeroValue86
 t75:=underlying89
 a75:=Tryz.isAgg89
 z75:=Tryz.sizeOf89
 v75:=Tryz.zeroValue89
 t76:=underlying90
 a76:=Tryz.isAgg90
 z76:=Tryz.sizeOf90
 v76:=Tryz.zeroValue90
 t127:=underlying108
 a127:=Tryz.isAgg108
 z127:=Tryz.sizeOf108
 v127:=Tryz.zeroValue108
 t164:=underlying150
 a164:=Tryz.isAgg150
 z164:=Tryz.sizeOf150
 v164:=Tryz.zeroValue150 }
theorem Qu:Builder.Extra prog Hz:={
 sizeBuilder:=by kernel_rfl
 liesBuilder:=by kernel_rfl
 t5:=underlying5
 a5:=Tryz.isAgg5
 z5:=Tryz.sizeOf5
 v5:=Tryz.zeroValue5
 infoByte:=by kernel_rfl
 cellsByte:=by kernel_rfl
 sizeByte:=by kernel_rfl
 neB5:=by decide }
theorem Ti (l:List (List UInt8)):(l.map λb=>(⟨b.toArray⟩:ByteArray)).map (λs=>s.data.toList)=l:=by
 rw [List.map_map];exact (List.map_congr_left (g:=id) (λ_ _=>rfl)).trans (List.map_id _)
theorem Alu (base g n c:Nat) (l:List (List UInt8)) (sep:List UInt8) (w:World) (hv:Ck base (.slice (some ⟨g,0,none⟩) n c) l w) (hn:l.length<=1000000) (hlen:(Lib.join l sep).length<=140737488355328) :
  Calls prog 155 #[.slice (some ⟨g,0,none⟩) n c,.string ⟨sep.toArray⟩] w λe w'=>e=.returned (.string ⟨(Lib.join l sep).toArray⟩)/\Below w.heap.size w w':=by
 have hN:n=l.length:=by
  rcases hv.2 with ⟨h0,-⟩ | ⟨g',cap,cur,h0,-⟩
  ·cases h0
  ·injection h0
 subst hN;obtain ⟨A,c',e,hc,-⟩:=hv.strs.form;injection e with e1 e2 e3
 subst e3;have hg:=(World.ownsRow.lt hv g rfl).2;have h:=Any.strings_Join Un Qu g 0 c (l.map λb=>(⟨b.toArray⟩:ByteArray)) ⟨sep.toArray⟩ w
  (λj x hj=>by
   rw [List.getElem?_map] at hj;obtain ⟨y,hy,rfl⟩:=Option.map_eq_some_iff.1 hj;obtain ⟨hjl,hy⟩:=List.getElem?_eq_some_iff.1 hy;have h:=hv.cell j hjl;rw [getElem!_pos l j hjl,hy] at h;rw [Nat.zero_add];exact h) hg (by rw [jai];omega) (by rw [jai];exact hc) (by rw [Ti];exact hlen)
 rw [Ti,jai] at h;exact h
theorem Xx:∀ l:List (List UInt8),Dom.Cy l=Lib.join l [46]
 | []=>rfl
 | [x]=>by rw [Lib.join_one];rfl
 | x::y::l=>by
  have ih:=Xx (y::l);rw [Lib.join_cons] at ih ⊢;show x ++ 46::Dom.Cy (y::l)=_;rw [ih];rfl
end
section
open Go.Shelf
set_option maxRecDepth 100000
def A58:Go.Shelf.Ren:=⟨λ| 316=>76 | n=>n,λ| 0=>0 | 3=>3 | 4=>4 | 5=>5 | 9=>9 | 37=>45 | 127=>108 | n=>n,id⟩
theorem clone_lays:Go.Proofs.LaysM.n316 prog A58:={
 mixed:=by kernel_rfl
 f316:=Tryz.func76.trans (congrArg some jK)
 t0:=underlying0
 a0:=Tryz.isAgg0
 z0:=Tryz.sizeOf0
 v0:=Tryz.zeroValue0
 t3:=underlying3
 a3:=Tryz.isAgg3
 z3:=Tryz.sizeOf3
 v3:=Tryz.zeroValue3
 t4:=underlying4
 a4:=Tryz.isAgg4
 z4:=Tryz.sizeOf4
 v4:=Tryz.zeroValue4
 t9:=underlying9
 a9:=Tryz.isAgg9
 z9:=Tryz.sizeOf9
 v9:=Tryz.zeroValue9
 t37:=underlying45
 a37:=Tryz.isAgg45
 z37:=Tryz.sizeOf45
 v37:=Tryz.zeroValue45
 t127:=underlying108
 a127:=Tryz.isAgg108
 z127:=Tryz.sizeOf108
 v127:=Tryz.zeroValue108
 t5:=underlying5
 a5:=Tryz.isAgg5
 z5:=Tryz.sizeOf5
 v5:=Tryz.zeroValue5
 i0:=by kernel_rfl
 i3:=by kernel_rfl
 i4:=by kernel_rfl
 i5:=by kernel_rfl
 i9:=by kernel_rfl
 i37:=by kernel_rfl
 i127:=by kernel_rfl }
end
section
open Go.RowKit
set_option maxHeartbeats 1000000 in
set_option maxRecDepth 100000 in
theorem De (s:ByteArray) (w:World) (hs:s.size<=100000):Calls prog 54 #[.string s] w λe w'=>e=.returned (.string s)/\Below w.heap.size w w':=by
 have K:Calls prog 76 #[.string s] w λe w'=>e=.returned (.string s)/\Below w.heap.size w w':=Any.stringslite_Clone clone_lays s w jO;have K:=jH K;go_enter func54,ntmps54;go_wp2_with fail;with_reducible refine K.out.mono ?_
 rintro e w1 ⟨rfl,hb⟩;have B:=jH hb;clear hb;go_wp2;go_ret;exact ⟨rfl,B.out⟩
end
