import Derived.Shelf.Strings.OnBuilder
import Derived.Test.YtpcgbgfpnhiihaaGreatDoorDomPl
import Derived.Shelf.LaysM
import Derived.Shelf.Strconv.Clone
namespace Go.Proofs.YtpcgbgfpnhiihaaGreatDoor
section
open Go.RowKit
def Pm (bs:List UInt8):Value:=.string ⟨bs.toArray⟩
theorem Mj:(Tryz.prog.info? 9).map (λi=>(i.zero,i.size,i.bytes))=some (some (.string ⟨#[]⟩),1,16):=by kernel_rfl
def Ah9 (v:Value) (l:List (List UInt8)) (w:World):Prop:=Row v (l.map Pm) w
def Ci (base:Nat) (v:Value) (l:List (List UInt8)) (w:World):Prop:=w.ownsRow base 9 1 v l.length (l.map Pm)
theorem Ci.strs {base:Nat} {v:Value} {l:List (List UInt8)} {w:World} (h:Ci base v l w):Ah9 v l w:=Row.Xc h
theorem Ci.Ac {base:Nat} {v:Value} {l:List (List UInt8)} {w w':World} (h:Ci base v l w) (hb:Below w.heap.size w w'):Ci base v l w':=Xj h hb
theorem Ah9.nil (w:World):Ah9 (.slice none 0 0) [] w:=⟨none,0,rfl,Nat.le_refl _,λ_=>rfl,λh=>absurd h (by simp)⟩
theorem Ah9.form {v:Value} {l:List (List UInt8)} {w:World} (h:Ah9 v l w):∃ (A:Option Addr) (c:Nat),v=.slice A l.length c/\l.length<=c /\
  (∀ k,k<l.length->∃ ad,A=some ad/\ad.block<w.heap.size/\w.cell? (ad.add k)=some (Pm l[k]!)):=by
 obtain ⟨A,c,rfl,hc,-,ha⟩:=h
 simp only [List.length_map] at ha hc ⊢
 refine ⟨A,c,rfl,hc,λk hk=>?_⟩
 obtain ⟨ad,rfl,hlt,hcell⟩:=ha (by omega)
 refine ⟨ad,rfl,hlt,hcell k _ ?_⟩
 rw [List.getElem?_map,List.getElem?_eq_getElem hk,getElem!_pos l k hk]
 rfl
theorem Ags (w:World) (base N:Nat) (hN:N=w.heap.size) (hb:base<=w.heap.size) (l:List (List UInt8)) (hl:l.length<=1000):Ci base (.slice (some ⟨N,0,none⟩) l.length l.length) l (w.alloc (.cells (l.map Pm).toArray 9)):=by
 subst hN
 have h:=World.ownsRow_lit (size:=1) (e:=9) w (l.map Pm).toArray l.length hb (by simp only [maxLen];omega) (by simp)
 simpa [Ci] using h
theorem Ci.shape {base:Nat} {v:Value} {l:List (List UInt8)} {w:World} (h:Ci base v l w):∃ (A:Option Addr) (c:Nat),v=.slice A l.length c/\(0<l.length->∃ g,A=some ⟨g,0,none⟩/\base<=g/\g<w.heap.size):=by
 rcases h.2 with ⟨rfl,h0⟩ | ⟨g,cap,cur,rfl,hb,hg,hnc,hcm,hcs,hcur⟩
 · exact ⟨none,0,by rw [h0],λhp=>by omega⟩
 · exact ⟨some ⟨g,0,none⟩,cap,rfl,λ_=>⟨g,rfl,hb,(h.lt g rfl).2⟩⟩
theorem Ci.cell {base g n c:Nat} {l:List (List UInt8)} {w:World} (h:Ci base (.slice (some ⟨g,0,none⟩) n c) l w) (k:Nat) (hk:k<l.length):w.cell? ⟨g,k,none⟩=some (.string ⟨l[k]!.toArray⟩):=by
 have hn:n=l.length:=by
  rcases h.2 with ⟨h0,-⟩ | ⟨g',cap,cur,h0,-⟩
  · cases h0
  · injection h0
 subst hn
 have:=World.ownsRow.cellAt h k (by omega)
 rw [this,List.getElem?_map,List.getElem?_eq_getElem hk,getElem!_pos l k hk]
 rfl
theorem Ci.free {base g n c:Nat} {l:List (List UInt8)} {w:World} (h:Ci base (.slice (some ⟨g,0,none⟩) n c) l w) (k:Nat):w.frozen? ⟨g,k,none⟩=false:=by
 have hn:n=l.length:=by
  rcases h.2 with ⟨h0,-⟩ | ⟨g',cap,cur,h0,-⟩
  · cases h0
  · injection h0
 subst hn
 exact World.ownsRow.frozenAt h k
theorem Ci.put {base g n c:Nat} {l:List (List UInt8)} {w:World} (h:Ci base (.slice (some ⟨g,0,none⟩) n c) l w) (k:Nat) (x:List UInt8):Ci base (.slice (some ⟨g,0,none⟩) n c) (l.set k x) (w.setCell ⟨g,k,none⟩ (.string ⟨x.toArray⟩)):=by
 have hn:n=l.length:=by
  rcases h.2 with ⟨h0,-⟩ | ⟨g',cap,cur,h0,-⟩
  · cases h0
  · injection h0
 subst hn
 have:=(World.ownsRow.stored h k (.string ⟨x.toArray⟩)).1
 unfold Ci
 rw [List.length_set,List.map_set]
 exact this
end
section
open Go.Shelf Go.RowKit Utf
def G7:Go.Shelf.Ren:=⟨λ| 156=>193 | 165=>239 | 166=>171 | 169=>172 | 240=>221 | 241=>289 | 276=>271 | 277=>332 | n=>n,λ| 31=>114 | 9=>9 | 3=>3 | 4=>4 | 0=>0 | 20=>20 | 72=>195 | 76=>198 | 70=>193 | 37=>113 | 75=>197 | 127=>202 | 164=>267 | 5=>5 | 80=>200 | n=>n,λ| n=>n⟩
theorem So:Go.Proofs.Lays.n156 Tryz.prog G7:={
 mixed:=by kernel_rfl
 f156:=Tryz.func193.trans (congrArg some (by kernel_rfl))
 f165:=Tryz.func239.trans (congrArg some (by kernel_rfl))
 f166:=Tryz.func171.trans (congrArg some (by kernel_rfl))
 f169:=Tryz.func172.trans (congrArg some (by kernel_rfl))
 f240:=Tryz.func221.trans (congrArg some (by kernel_rfl))
 f241:=Tryz.func289.trans (congrArg some (by kernel_rfl))
 f276:=Tryz.func271.trans (congrArg some (by kernel_rfl))
 f277:=Tryz.func332.trans (congrArg some (by kernel_rfl))
 t0:=Tryz.underlying0
 a0:=Tryz.isAgg0
 z0:=Tryz.sizeOf0
 v0:=Tryz.zeroValue0
 t3:=Tryz.underlying3
 a3:=Tryz.isAgg3
 z3:=Tryz.sizeOf3
 v3:=Tryz.zeroValue3
 t4:=Tryz.underlying4
 a4:=Tryz.isAgg4
 z4:=Tryz.sizeOf4
 v4:=Tryz.zeroValue4
 t9:=Tryz.underlying9
 a9:=Tryz.isAgg9
 z9:=Tryz.sizeOf9
 v9:=Tryz.zeroValue9
 t20:=Tryz.underlying20
 a20:=Tryz.isAgg20
 z20:=Tryz.sizeOf20
 v20:=Tryz.zeroValue20
 t31:=Tryz.underlying114
 a31:=Tryz.isAgg114
 z31:=Tryz.sizeOf114
 v31:=Tryz.zeroValue114
 t37:=Tryz.underlying113
 a37:=Tryz.isAgg113
 z37:=Tryz.sizeOf113
 v37:=Tryz.zeroValue113
 t70:=Tryz.underlying193
 a70:=Tryz.isAgg193
 z70:=Tryz.sizeOf193
 v70:=Tryz.zeroValue193
 t72:=Tryz.underlying195
 a72:=Tryz.isAgg195
 z72:=Tryz.sizeOf195
 v72:=Tryz.zeroValue195
 t75:=Tryz.underlying197
 a75:=Tryz.isAgg197
 z75:=Tryz.sizeOf197
 v75:=Tryz.zeroValue197
 t76:=Tryz.underlying198
 a76:=Tryz.isAgg198
 z76:=Tryz.sizeOf198
 v76:=Tryz.zeroValue198
 t127:=Tryz.underlying202
 a127:=Tryz.isAgg202
 z127:=Tryz.sizeOf202
 v127:=Tryz.zeroValue202
 t164:=Tryz.underlying267
 a164:=Tryz.isAgg267
 z164:=Tryz.sizeOf267
 v164:=Tryz.zeroValue267 }
theorem O9:Builder.Extra Tryz.prog G7:={
 sizeBuilder:=by kernel_rfl
 liesBuilder:=by kernel_rfl
 t5:=Tryz.underlying5
 a5:=Tryz.isAgg5
 z5:=Tryz.sizeOf5
 v5:=Tryz.zeroValue5
 infoByte:=by kernel_rfl
 cellsByte:=by kernel_rfl
 sizeByte:=by kernel_rfl
 neB5:=by decide }
theorem Ro (l:List (List UInt8)):(l.map λb=>(⟨b.toArray⟩:ByteArray)).map (λs=>s.data.toList)=l:=by
 rw [List.map_map]
 exact (List.map_congr_left (g:=id) (λ_ _=>rfl)).trans (List.map_id _)
theorem Ahr (base g n c:Nat) (l:List (List UInt8)) (sep:List UInt8) (w:World) (hv:Ci base (.slice (some ⟨g,0,none⟩) n c) l w) (hn:l.length<=1000000) (hlen:(Lib.join l sep).length<=140737488355328) :
  Calls Tryz.prog 193 #[.slice (some ⟨g,0,none⟩) n c,.string ⟨sep.toArray⟩] w λe w'=>e=.returned (.string ⟨(Lib.join l sep).toArray⟩)/\Below w.heap.size w w':=by
 have hN:n=l.length:=by
  rcases hv.2 with ⟨h0,-⟩ | ⟨g',cap,cur,h0,-⟩
  ·cases h0
  ·injection h0
 subst hN
 obtain ⟨A,c',e,hc,-⟩:=hv.strs.form
 injection e with e1 e2 e3
 subst e3
 have hg:=(World.ownsRow.lt hv g rfl).2
 have h:=Any.strings_Join So O9 g 0 c (l.map λb=>(⟨b.toArray⟩:ByteArray)) ⟨sep.toArray⟩ w
  (λj x hj=>by
   rw [List.getElem?_map] at hj
   obtain ⟨y,hy,rfl⟩:=Option.map_eq_some_iff.1 hj
   obtain ⟨hjl,hy⟩:=List.getElem?_eq_some_iff.1 hy
   have h:=hv.cell j hjl
   rw [getElem!_pos l j hjl,hy] at h
   rw [Nat.zero_add]
   exact h) hg (by rw [List.length_map];omega) (by rw [List.length_map];exact hc) (by rw [Ro];exact hlen)
 rw [Ro,List.length_map] at h
 exact h
theorem Vv:∀ l:List (List UInt8),Dom.Cw l=Lib.join l [46]
 | []=>rfl
 | [x]=>by rw [Lib.join_one];rfl
 | x::y::l=>by
  have ih:=Vv (y::l)
  rw [Lib.join_cons] at ih ⊢
  show x ++ 46::Dom.Cw (y::l)=_
  rw [ih]
  rfl
end
section
open Go.Shelf
set_option maxRecDepth 100000
def Ayc:Go.Shelf.Ren:=⟨λ| 316=>115 | n=>n,λ| 0=>0 | 3=>3 | 4=>4 | 5=>5 | 9=>9 | 37=>113 | 127=>202 | n=>n,id⟩
theorem clone_lays:Go.Proofs.LaysM.n316 Tryz.prog Ayc:={
 mixed:=by kernel_rfl
 f316:=Tryz.func115.trans (congrArg some (by kernel_rfl))
 t0:=Tryz.underlying0
 a0:=Tryz.isAgg0
 z0:=Tryz.sizeOf0
 v0:=Tryz.zeroValue0
 t3:=Tryz.underlying3
 a3:=Tryz.isAgg3
 z3:=Tryz.sizeOf3
 v3:=Tryz.zeroValue3
 t4:=Tryz.underlying4
 a4:=Tryz.isAgg4
 z4:=Tryz.sizeOf4
 v4:=Tryz.zeroValue4
 t9:=Tryz.underlying9
 a9:=Tryz.isAgg9
 z9:=Tryz.sizeOf9
 v9:=Tryz.zeroValue9
 t37:=Tryz.underlying113
 a37:=Tryz.isAgg113
 z37:=Tryz.sizeOf113
 v37:=Tryz.zeroValue113
 t127:=Tryz.underlying202
 a127:=Tryz.isAgg202
 z127:=Tryz.sizeOf202
 v127:=Tryz.zeroValue202
 t5:=Tryz.underlying5
 a5:=Tryz.isAgg5
 z5:=Tryz.sizeOf5
 v5:=Tryz.zeroValue5
 i0:=by kernel_rfl
 i3:=by kernel_rfl
 i4:=by kernel_rfl
 i5:=by kernel_rfl
 i9:=by kernel_rfl
 i37:=by kernel_rfl
 i127:=by kernel_rfl }
end
section
open Go.RowKit
set_option maxHeartbeats 1000000 in
set_option maxRecDepth 100000 in
theorem Bk (s:ByteArray) (w:World) (hs:s.size<=100000):Calls Tryz.prog 80 #[.string s] w λe w'=>e=.returned (.string s)/\Below w.heap.size w w':=by
 have K:Calls Tryz.prog 115 #[.string s] w λe w'=>e=.returned (.string s)/\Below w.heap.size w w':=Any.stringslite_Clone clone_lays s w (by omega)
 have K:=jH K
 go_enter Tryz.func80,Tryz.ntmps80
 go_wp2_with fail
 with_reducible refine K.out.mono ?_
 rintro e w1 ⟨rfl,hb⟩
 have B:=jH hb
 clear hb
 go_wp2
 go_ret
 exact ⟨rfl,B.out⟩
end
end Go.Proofs.YtpcgbgfpnhiihaaGreatDoor
