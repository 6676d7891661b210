import Derived.Shelf.Strings.OnBuilder
import Derived.Test.YtppmbilonaflfaaGreatDoorDomPl
import Derived.Shelf.LaysM
import Derived.Shelf.Strconv.Clone
namespace Go.Proofs.YtppmbilonaflfaaGreatDoor
section
open Go.RowKit
def Pe (bs:List UInt8):Value:=.string ⟨bs.toArray⟩
theorem Mx:(Tryz.prog.info? 9).map (λi=>(i.zero,i.size,i.bytes))=some (some (.string ⟨#[]⟩),1,16):=by kernel_rfl
def Aih (v:Value) (l:List (List UInt8)) (w:World):Prop:=Row v (l.map Pe) w
def Co (base:Nat) (v:Value) (l:List (List UInt8)) (w:World):Prop:=w.ownsRow base 9 1 v l.length (l.map Pe)
theorem Co.strs {base:Nat} {v:Value} {l:List (List UInt8)} {w:World} (h:Co base v l w):Aih v l w:=Row.Yi h
theorem Co.Ac {base:Nat} {v:Value} {l:List (List UInt8)} {w w':World} (h:Co base v l w) (hb:Below w.heap.size w w'):Co base v l w':=Wm h hb
theorem Aih.nil (w:World):Aih (.slice none 0 0) [] w:=⟨none,0,rfl,Nat.le_refl _,λ_=>rfl,λh=>absurd h (by simp)⟩
theorem Aih.form {v:Value} {l:List (List UInt8)} {w:World} (h:Aih v l w):∃ (A:Option Addr) (c:Nat),v=.slice A l.length c/\l.length<=c /\
  (∀ k,k<l.length->∃ ad,A=some ad/\ad.block<w.heap.size/\w.cell? (ad.add k)=some (Pe l[k]!)):=by
 obtain ⟨A,c,rfl,hc,-,ha⟩:=h
 simp only [List.length_map] at ha hc ⊢
 refine ⟨A,c,rfl,hc,λk hk=>?_⟩
 obtain ⟨ad,rfl,hlt,hcell⟩:=ha (by omega)
 refine ⟨ad,rfl,hlt,hcell k _ ?_⟩
 rw [List.getElem?_map,List.getElem?_eq_getElem hk,getElem!_pos l k hk]
 rfl
theorem Ae5 (w:World) (base N:Nat) (hN:N=w.heap.size) (hb:base<=w.heap.size) (l:List (List UInt8)) (hl:l.length<=1000):Co base (.slice (some ⟨N,0,none⟩) l.length l.length) l (w.alloc (.cells (l.map Pe).toArray 9)):=by
 subst hN
 have h:=World.ownsRow_lit (size:=1) (e:=9) w (l.map Pe).toArray l.length hb (by simp only [maxLen];omega) (by simp)
 simpa [Co] using h
theorem Co.shape {base:Nat} {v:Value} {l:List (List UInt8)} {w:World} (h:Co base v l w):∃ (A:Option Addr) (c:Nat),v=.slice A l.length c/\(0<l.length->∃ g,A=some ⟨g,0,none⟩/\base<=g/\g<w.heap.size):=by
 rcases h.2 with ⟨rfl,h0⟩ | ⟨g,cap,cur,rfl,hb,hg,hnc,hcm,hcs,hcur⟩
 · exact ⟨none,0,by rw [h0],λhp=>by omega⟩
 · exact ⟨some ⟨g,0,none⟩,cap,rfl,λ_=>⟨g,rfl,hb,(h.lt g rfl).2⟩⟩
theorem Co.cell {base g n c:Nat} {l:List (List UInt8)} {w:World} (h:Co base (.slice (some ⟨g,0,none⟩) n c) l w) (k:Nat) (hk:k<l.length):w.cell? ⟨g,k,none⟩=some (.string ⟨l[k]!.toArray⟩):=by
 have hn:n=l.length:=by
  rcases h.2 with ⟨h0,-⟩ | ⟨g',cap,cur,h0,-⟩
  · cases h0
  · injection h0
 subst hn
 have:=World.ownsRow.cellAt h k (by omega)
 rw [this,List.getElem?_map,List.getElem?_eq_getElem hk,getElem!_pos l k hk]
 rfl
theorem Co.free {base g n c:Nat} {l:List (List UInt8)} {w:World} (h:Co base (.slice (some ⟨g,0,none⟩) n c) l w) (k:Nat):w.frozen? ⟨g,k,none⟩=false:=by
 have hn:n=l.length:=by
  rcases h.2 with ⟨h0,-⟩ | ⟨g',cap,cur,h0,-⟩
  · cases h0
  · injection h0
 subst hn
 exact World.ownsRow.frozenAt h k
theorem Co.put {base g n c:Nat} {l:List (List UInt8)} {w:World} (h:Co base (.slice (some ⟨g,0,none⟩) n c) l w) (k:Nat) (x:List UInt8):Co base (.slice (some ⟨g,0,none⟩) n c) (l.set k x) (w.setCell ⟨g,k,none⟩ (.string ⟨x.toArray⟩)):=by
 have hn:n=l.length:=by
  rcases h.2 with ⟨h0,-⟩ | ⟨g',cap,cur,h0,-⟩
  · cases h0
  · injection h0
 subst hn
 have:=(World.ownsRow.stored h k (.string ⟨x.toArray⟩)).1
 unfold Co
 rw [List.length_set,List.map_set]
 exact this
end
section
open Go.Shelf Go.RowKit Utf
def Hc:Go.Shelf.Ren:=⟨λ| 156=>173 | 165=>218 | 166=>151 | 169=>152 | 240=>199 | 241=>268 | 276=>249 | 277=>310 | n=>n,λ| 31=>95 | 9=>9 | 3=>3 | 4=>4 | 0=>0 | 20=>20 | 72=>173 | 76=>176 | 70=>171 | 37=>94 | 75=>175 | 127=>180 | 164=>244 | 5=>5 | 80=>178 | n=>n,λ| n=>n⟩
theorem R6:Go.Proofs.Lays.n156 Tryz.prog Hc:={
 mixed:=by kernel_rfl
 f156:=Tryz.func173.trans (congrArg some (by kernel_rfl))
 f165:=Tryz.func218.trans (congrArg some (by kernel_rfl))
 f166:=Tryz.func151.trans (congrArg some (by kernel_rfl))
 f169:=Tryz.func152.trans (congrArg some (by kernel_rfl))
 f240:=Tryz.func199.trans (congrArg some (by kernel_rfl))
 f241:=Tryz.func268.trans (congrArg some (by kernel_rfl))
 f276:=Tryz.func249.trans (congrArg some (by kernel_rfl))
 f277:=Tryz.func310.trans (congrArg some (by kernel_rfl))
 t0:=Tryz.underlying0
 a0:=Tryz.isAgg0
 z0:=Tryz.sizeOf0
 v0:=Tryz.zeroValue0
 t3:=Tryz.underlying3
 a3:=Tryz.isAgg3
 z3:=Tryz.sizeOf3
 v3:=Tryz.zeroValue3
 t4:=Tryz.underlying4
 a4:=Tryz.isAgg4
 z4:=Tryz.sizeOf4
 v4:=Tryz.zeroValue4
 t9:=Tryz.underlying9
 a9:=Tryz.isAgg9
 z9:=Tryz.sizeOf9
 v9:=Tryz.zeroValue9
 t20:=Tryz.underlying20
 a20:=Tryz.isAgg20
 z20:=Tryz.sizeOf20
 v20:=Tryz.zeroValue20
 t31:=Tryz.underlying95
 a31:=Tryz.isAgg95
 z31:=Tryz.sizeOf95
 v31:=Tryz.zeroValue95
 t37:=Tryz.underlying94
 a37:=Tryz.isAgg94
 z37:=Tryz.sizeOf94
 v37:=Tryz.zeroValue94
 t70:=Tryz.underlying171
 a70:=Tryz.isAgg171
 z70:=Tryz.sizeOf171
 v70:=Tryz.zeroValue171
 t72:=Tryz.underlying173
 a72:=Tryz.isAgg173
 z72:=Tryz.sizeOf173
 v72:=Tryz.zeroValue173
 t75:=Tryz.underlying175
 a75:=Tryz.isAgg175
 z75:=Tryz.sizeOf175
 v75:=Tryz.zeroValue175
 t76:=Tryz.underlying176
 a76:=Tryz.isAgg176
 z76:=Tryz.sizeOf176
 v76:=Tryz.zeroValue176
 t127:=Tryz.underlying180
 a127:=Tryz.isAgg180
 z127:=Tryz.sizeOf180
 v127:=Tryz.zeroValue180
 t164:=Tryz.underlying244
 a164:=Tryz.isAgg244
 z164:=Tryz.sizeOf244
 v164:=Tryz.zeroValue244 }
theorem Po:Builder.Extra Tryz.prog Hc:={
 sizeBuilder:=by kernel_rfl
 liesBuilder:=by kernel_rfl
 t5:=Tryz.underlying5
 a5:=Tryz.isAgg5
 z5:=Tryz.sizeOf5
 v5:=Tryz.zeroValue5
 infoByte:=by kernel_rfl
 cellsByte:=by kernel_rfl
 sizeByte:=by kernel_rfl
 neB5:=by decide }
theorem Py (l:List (List UInt8)):(l.map λb=>(⟨b.toArray⟩:ByteArray)).map (λs=>s.data.toList)=l:=by
 rw [List.map_map]
 exact (List.map_congr_left (g:=id) (λ_ _=>rfl)).trans (List.map_id _)
theorem Agk (base g n c:Nat) (l:List (List UInt8)) (sep:List UInt8) (w:World) (hv:Co base (.slice (some ⟨g,0,none⟩) n c) l w) (hn:l.length<=1000000) (hlen:(Lib.join l sep).length<=140737488355328) :
  Calls Tryz.prog 173 #[.slice (some ⟨g,0,none⟩) n c,.string ⟨sep.toArray⟩] w λe w'=>e=.returned (.string ⟨(Lib.join l sep).toArray⟩)/\Below w.heap.size w w':=by
 have hN:n=l.length:=by
  rcases hv.2 with ⟨h0,-⟩ | ⟨g',cap,cur,h0,-⟩
  ·cases h0
  ·injection h0
 subst hN
 obtain ⟨A,c',e,hc,-⟩:=hv.strs.form
 injection e with e1 e2 e3
 subst e3
 have hg:=(World.ownsRow.lt hv g rfl).2
 have h:=Any.strings_Join R6 Po g 0 c (l.map λb=>(⟨b.toArray⟩:ByteArray)) ⟨sep.toArray⟩ w
  (λj x hj=>by
   rw [List.getElem?_map] at hj
   obtain ⟨y,hy,rfl⟩:=Option.map_eq_some_iff.1 hj
   obtain ⟨hjl,hy⟩:=List.getElem?_eq_some_iff.1 hy
   have h:=hv.cell j hjl
   rw [getElem!_pos l j hjl,hy] at h
   rw [Nat.zero_add]
   exact h) hg (by rw [List.length_map];omega) (by rw [List.length_map];exact hc) (by rw [Py];exact hlen)
 rw [Py,List.length_map] at h
 exact h
theorem Xo:∀ l:List (List UInt8),Dom.Cq l=Lib.join l [46]
 | []=>rfl
 | [x]=>by rw [Lib.join_one];rfl
 | x::y::l=>by
  have ih:=Xo (y::l)
  rw [Lib.join_cons] at ih ⊢
  show x ++ 46::Dom.Cq (y::l)=_
  rw [ih]
  rfl
end
section
open Go.Shelf
set_option maxRecDepth 100000
def Axh:Go.Shelf.Ren:=⟨λ| 316=>97 | n=>n,λ| 0=>0 | 3=>3 | 4=>4 | 5=>5 | 9=>9 | 37=>94 | 127=>180 | n=>n,id⟩
theorem clone_lays:Go.Proofs.LaysM.n316 Tryz.prog Axh:={
 mixed:=by kernel_rfl
 f316:=Tryz.func97.trans (congrArg some (by kernel_rfl))
 t0:=Tryz.underlying0
 a0:=Tryz.isAgg0
 z0:=Tryz.sizeOf0
 v0:=Tryz.zeroValue0
 t3:=Tryz.underlying3
 a3:=Tryz.isAgg3
 z3:=Tryz.sizeOf3
 v3:=Tryz.zeroValue3
 t4:=Tryz.underlying4
 a4:=Tryz.isAgg4
 z4:=Tryz.sizeOf4
 v4:=Tryz.zeroValue4
 t9:=Tryz.underlying9
 a9:=Tryz.isAgg9
 z9:=Tryz.sizeOf9
 v9:=Tryz.zeroValue9
 t37:=Tryz.underlying94
 a37:=Tryz.isAgg94
 z37:=Tryz.sizeOf94
 v37:=Tryz.zeroValue94
 t127:=Tryz.underlying180
 a127:=Tryz.isAgg180
 z127:=Tryz.sizeOf180
 v127:=Tryz.zeroValue180
 t5:=Tryz.underlying5
 a5:=Tryz.isAgg5
 z5:=Tryz.sizeOf5
 v5:=Tryz.zeroValue5
 i0:=by kernel_rfl
 i3:=by kernel_rfl
 i4:=by kernel_rfl
 i5:=by kernel_rfl
 i9:=by kernel_rfl
 i37:=by kernel_rfl
 i127:=by kernel_rfl }
end
section
open Go.RowKit
set_option maxHeartbeats 1000000 in
set_option maxRecDepth 100000 in
theorem Cc (s:ByteArray) (w:World) (hs:s.size<=100000):Calls Tryz.prog 65 #[.string s] w λe w'=>e=.returned (.string s)/\Below w.heap.size w w':=by
 have K:Calls Tryz.prog 97 #[.string s] w λe w'=>e=.returned (.string s)/\Below w.heap.size w w':=Any.stringslite_Clone clone_lays s w (by omega)
 have K:=Lib.hid K
 go_enter Tryz.func65,Tryz.ntmps65
 go_wp2_with fail
 with_reducible refine K.out.mono ?_
 rintro e w1 ⟨rfl,hb⟩
 have B:=Lib.hid hb
 clear hb
 go_wp2
 go_ret
 exact ⟨rfl,B.out⟩
end
end Go.Proofs.YtppmbilonaflfaaGreatDoor
