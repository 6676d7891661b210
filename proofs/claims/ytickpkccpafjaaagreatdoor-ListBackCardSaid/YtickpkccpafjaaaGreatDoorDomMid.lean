import Derived.Shelf.Strings.OnBuilder
import Derived.Test.YtickpkccpafjaaaGreatDoorDomPl
import Derived.Shelf.LaysM
import Derived.Shelf.Strconv.Clone
namespace Go.Proofs.YtickpkccpafjaaaGreatDoor
open Tryz
section
open Go.RowKit
def Nt (bs:List UInt8):Value:=.string ⟨bs.toArray⟩
theorem Jj:(Tryz.prog.info? 9).map (λi=>(i.zero,i.size,i.bytes))=some (some (.string ⟨#[]⟩),1,16):=by kernel_rfl
def Aab (v:Value) (l:List (List UInt8)) (w:World):Prop:=Row v (l.map Nt) w
def Bl (base:Nat) (v:Value) (l:List (List UInt8)) (w:World):Prop:=w.ownsRow base 9 1 v l.length (l.map Nt)
theorem Aab.Ae {v:Value} {l:List (List UInt8)} {w w':World} (h:Aab v l w) (hb:Below w.heap.size w w'):Aab v l w':=Row.Ae h hb
theorem Bl.strs {base:Nat} {v:Value} {l:List (List UInt8)} {w:World} (h:Bl base v l w):Aab v l w:=Row.Ym h
theorem Bl.Ae {base:Nat} {v:Value} {l:List (List UInt8)} {w w':World} (h:Bl base v l w) (hb:Below w.heap.size w w'):Bl base v l w':=Yt h hb
theorem Aab.nil (w:World):Aab (.slice none 0 0) [] w:=⟨none,0,rfl,jaa _,λ_=>rfl,λh=>absurd h jS⟩
theorem Aab.form {v:Value} {l:List (List UInt8)} {w:World} (h:Aab v l w):∃ (A:Option Addr) (c:Nat),v=.slice A l.length c/\l.length<=c /\
  (∀ k,k<l.length->∃ ad,A=some ad/\ad.block<w.heap.size/\w.cell? (ad.add k)=some (Nt l[k]!)):=by
 obtain ⟨A,c,rfl,hc,-,ha⟩:=h;simp only [jai] at ha hc ⊢;refine ⟨A,c,rfl,hc,λk hk=>?_⟩;obtain ⟨ad,rfl,hlt,hcell⟩:=ha jO;refine ⟨ad,rfl,hlt,hcell k _ ?_⟩;rw [List.getElem?_map,List.getElem?_eq_getElem hk,getElem!_pos l k hk];rfl
theorem Aix (w:World) (base N:Nat) (hN:N=w.heap.size) (hb:base<=w.heap.size) (l:List (List UInt8)) (hl:l.length<=1000):Bl base (.slice (some ⟨N,0,none⟩) l.length l.length) l (w.alloc (.cells (l.map Nt).toArray 9)):=by
 subst hN;have h:=World.ownsRow_lit (size:=1) (e:=9) w (l.map Nt).toArray l.length hb (by simp only [maxLen];omega) jS;simpa [Bl] using h
theorem Bl.shape {base:Nat} {v:Value} {l:List (List UInt8)} {w:World} (h:Bl base v l w):∃ (A:Option Addr) (c:Nat),v=.slice A l.length c/\(0<l.length->∃ g,A=some ⟨g,0,none⟩/\base<=g/\g<w.heap.size):=by
 rcases h.2 with ⟨rfl,h0⟩ | ⟨g,cap,cur,rfl,hb,hg,hnc,hcm,hcs,hcur⟩
 · exact ⟨none,0,by rw [h0],λhp=>by omega⟩
 · exact ⟨some ⟨g,0,none⟩,cap,rfl,λ_=>⟨g,rfl,hb,(h.lt g rfl).2⟩⟩
theorem Bl.cell {base g n c:Nat} {l:List (List UInt8)} {w:World} (h:Bl base (.slice (some ⟨g,0,none⟩) n c) l w) (k:Nat) (hk:k<l.length):w.cell? ⟨g,k,none⟩=some (.string ⟨l[k]!.toArray⟩):=by
 have hn:n=l.length:=by
  rcases h.2 with ⟨h0,-⟩ | ⟨g',cap,cur,h0,-⟩
  · cases h0
  · injection h0
 subst hn;have:=World.ownsRow.cellAt h k jO;rw [this,List.getElem?_map,List.getElem?_eq_getElem hk,getElem!_pos l k hk];rfl
theorem Bl.free {base g n c:Nat} {l:List (List UInt8)} {w:World} (h:Bl base (.slice (some ⟨g,0,none⟩) n c) l w) (k:Nat):w.frozen? ⟨g,k,none⟩=false:=by
 have hn:n=l.length:=by
  rcases h.2 with ⟨h0,-⟩ | ⟨g',cap,cur,h0,-⟩
  · cases h0
  · injection h0
 subst hn;exact World.ownsRow.frozenAt h k
theorem Bl.put {base g n c:Nat} {l:List (List UInt8)} {w:World} (h:Bl base (.slice (some ⟨g,0,none⟩) n c) l w) (k:Nat) (x:List UInt8):Bl base (.slice (some ⟨g,0,none⟩) n c) (l.set k x) (w.setCell ⟨g,k,none⟩ (.string ⟨x.toArray⟩)):=by
 have hn:n=l.length:=by
  rcases h.2 with ⟨h0,-⟩ | ⟨g',cap,cur,h0,-⟩
  · cases h0
  · injection h0
 subst hn;have:=(World.ownsRow.stored h k (.string ⟨x.toArray⟩)).1;unfold Bl;rw [List.length_set,List.map_set];exact this
theorem Wr (W:World) (base:Nat) (v:Value) (l:List (List UInt8)) (hown:Bl base v l W) (hbase:base<=W.heap.size) (hlen:l.length<=1000000) (x:List UInt8)
  (N:Nat) (hN:N=W.heap.size)
  {ops:Array Oper} {rest:List Oper} {o:Oper} {a:Act} {Q:Exit->Act->World->Prop} (hgd:o.guard=none) (s y:Operand)
  (ho:o.op=.call { callee:=.builtin .append,args:=#[s,y],argTypes:=#[94,94] })
  (hs:a.eval s=v) (hx:a.eval y=.slice (some ⟨N,0,none⟩) 1 1)
  (h:∀ v' w',Bl base v' (l ++ [x]) w'->Below base W w'->wpList prog ops Q rest (a.put o.dst v') w'):wpList prog ops Q (o::rest) a (W.alloc (.cells #[.string ⟨x.toArray⟩] 9)):=by
 subst hN;obtain ⟨i0,hi0,hz0,hs0,hb0⟩:=info_parts Jj;have hown':=World.ownsRow.alloc hown (.cells #[.string ⟨x.toArray⟩] 9);refine wpList_append_own _ hgd s y 94 ho base 9 i0 (.string ⟨#[]⟩) 1 16 underlying94 hi0 hz0 hs0 hb0 rfl jD v l.length (l.map Nt) hs hown' ⟨W.heap.size,0,none⟩ 1 1 [.string ⟨x.toArray⟩] hx rfl ?_ (λu hu=>by rw [List.mem_singleton.1 hu];rfl) (by simp only [maxLen];omega) jO (by simp;omega) ?_
 ·intro j u hj;have e:(⟨W.heap.size,0,none⟩:Addr).add j=⟨W.heap.size,j,none⟩:=by unfold Addr.add;split<;>simp_all
  have hj':j<1:=(List.getElem?_eq_some_iff.1 hj).1;rw [e,World.cell?_alloc_at _ _ _ _ jS];rw [<- hj];obtain rfl:j=0:=jO
  rfl
 ·intro v' w' ho' hg _;refine h v' w' ?_ (((jan _ W).alloc hbase _).grown hg (by simp;omega) λk hk=>(World.ownsRow.lt hown' k hk).1);unfold Bl;rw [jab,List.map_append];exact ho'
end
section
open Go.Shelf Go.RowKit Utf
def Hk:Go.Shelf.Ren:=⟨λ| 156=>54 | 165=>81 | 166=>82 | 169=>83 | 240=>116 | 241=>117 | 276=>147 | 277=>148 | n=>n,λ| 31=>94 | 9=>9 | 3=>3 | 4=>4 | 0=>0 | 20=>20 | 72=>120 | 76=>124 | 70=>118 | 37=>98 | 75=>123 | 127=>106 | 164=>181 | 5=>5 | 80=>126 | n=>n,λ| n=>n⟩
theorem Tq:Go.Proofs.Lays.n156 prog Hk:={
 mixed:=by kernel_rfl
 f156:=Tryz.func54.trans (congrArg some jK)
 f165:=Tryz.func81.trans (congrArg some jK)
 f166:=Tryz.func82.trans (congrArg some jK)
 f169:=Tryz.func83.trans (congrArg some jK)
 f240:=Tryz.func116.trans (congrArg some jK)
 f241:=Tryz.func117.trans (congrArg some jK)
 f276:=Tryz.func147.trans (congrArg some jK)
 f277:=Tryz.func148.trans (congrArg some jK)
 t0:=underlying0
 a0:=Tryz.isAgg0
 z0:=Tryz.sizeOf0
 v0:=Tryz.zeroValue0
 t3:=underlying3
 a3:=Tryz.isAgg3
 z3:=Tryz.sizeOf3
 v3:=Tryz.zeroValue3
 t4:=underlying4
 a4:=Tryz.isAgg4
 z4:=Tryz.sizeOf4
 v4:=Tryz.zeroValue4
 t9:=underlying9
 a9:=Tryz.isAgg9
 z9:=Tryz.sizeOf9
 v9:=Tryz.zeroValue9
 t20:=underlying20
 a20:=Tryz.isAgg20
 z20:=Tryz.sizeOf20
 v20:=Tryz.zeroValue20
 t31:=underlying94
 a31:=Tryz.isAgg94
 z31:=Tryz.sizeOf94
 v31:=Tryz.zeroValue94
 t37:=underlying98
 a37:=Tryz.isAgg98
 z37:=Tryz.sizeOf98
 v37:=Tryz.zeroValue98
 t70:=underlying118
 a70:=Tryz.isAgg118
 z70:=Tryz.sizeOf118
 v70:=Tryz.zeroValue118
 t72:=underlying120
 a72:=Tryz.isAgg120
 z72:=Tryz.sizeOf120
 v72:=Tryz.zeroValue120
 t75:=underlying123
 a75:=Tryz.isAgg123
 z75:=Tryz.sizeOf123
 v75:=Tryz.zeroValue123
 t76:=underlying124
 a76:=Tryz.isAgg124
 z76:=Tryz.sizeOf124
 v76:=Tryz.zeroValue124
 t127:=underlying106
 a127:=Tryz.isAgg106
 z127:=Tryz.sizeOf106
 v127:=Tryz.zeroValue106
 t164:=underlying181
 a164:=Tryz.isAgg181
 z164:=Tryz.sizeOf181
 v164:=Tryz.zeroValue181 }
theorem Pv:Builder.Extra prog Hk:={
 sizeBuilder:=by kernel_rfl
 liesBuilder:=by kernel_rfl
 t5:=underlying5
 a5:=Tryz.isAgg5
 z5:=Tryz.sizeOf5
 v5:=Tryz.zeroValue5
 infoByte:=by kernel_rfl
 cellsByte:=by kernel_rfl
 sizeByte:=by kernel_rfl
 neB5:=by decide }
theorem Sf (l:List (List UInt8)):(l.map λb=>(⟨b.toArray⟩:ByteArray)).map (λs=>s.data.toList)=l:=by
 rw [List.map_map];exact (List.map_congr_left (g:=id) (λ_ _=>rfl)).trans (List.map_id _)
theorem Vf (base g n c:Nat) (l:List (List UInt8)) (sep:List UInt8) (w:World) (hv:Bl base (.slice (some ⟨g,0,none⟩) n c) l w) (hn:l.length<=1000000) (hlen:(Lib.join l sep).length<=140737488355328) :
  Calls prog 54 #[.slice (some ⟨g,0,none⟩) n c,.string ⟨sep.toArray⟩] w λe w'=>e=.returned (.string ⟨(Lib.join l sep).toArray⟩)/\Below w.heap.size w w':=by
 have hN:n=l.length:=by
  rcases hv.2 with ⟨h0,-⟩ | ⟨g',cap,cur,h0,-⟩
  ·cases h0
  ·injection h0
 subst hN;obtain ⟨A,c',e,hc,-⟩:=hv.strs.form;injection e with e1 e2 e3
 subst e3;have hg:=(World.ownsRow.lt hv g rfl).2;have h:=Any.strings_Join Tq Pv g 0 c (l.map λb=>(⟨b.toArray⟩:ByteArray)) ⟨sep.toArray⟩ w
  (λj x hj=>by
   rw [List.getElem?_map] at hj;obtain ⟨y,hy,rfl⟩:=Option.map_eq_some_iff.1 hj;obtain ⟨hjl,hy⟩:=List.getElem?_eq_some_iff.1 hy;have h:=hv.cell j hjl;rw [getElem!_pos l j hjl,hy] at h;rw [Nat.zero_add];exact h) hg (by rw [jai];omega) (by rw [jai];exact hc) (by rw [Sf];exact hlen)
 rw [Sf,jai] at h;exact h
theorem Wu:∀ l:List (List UInt8),Dom.Cp l=Lib.join l [46]
 | []=>rfl
 | [x]=>by rw [Lib.join_one];rfl
 | x::y::l=>by
  have ih:=Wu (y::l);rw [Lib.join_cons] at ih ⊢;show x ++ 46::Dom.Cp (y::l)=_;rw [ih];rfl
end
section
open Go.Shelf
set_option maxRecDepth 100000
def A12:Go.Shelf.Ren:=⟨λ| 316=>42 | n=>n,λ| 0=>0 | 3=>3 | 4=>4 | 5=>5 | 9=>9 | 37=>98 | 127=>106 | n=>n,id⟩
theorem clone_lays:Go.Proofs.LaysM.n316 prog A12:={
 mixed:=by kernel_rfl
 f316:=Tryz.func42.trans (congrArg some jK)
 t0:=underlying0
 a0:=Tryz.isAgg0
 z0:=Tryz.sizeOf0
 v0:=Tryz.zeroValue0
 t3:=underlying3
 a3:=Tryz.isAgg3
 z3:=Tryz.sizeOf3
 v3:=Tryz.zeroValue3
 t4:=underlying4
 a4:=Tryz.isAgg4
 z4:=Tryz.sizeOf4
 v4:=Tryz.zeroValue4
 t9:=underlying9
 a9:=Tryz.isAgg9
 z9:=Tryz.sizeOf9
 v9:=Tryz.zeroValue9
 t37:=underlying98
 a37:=Tryz.isAgg98
 z37:=Tryz.sizeOf98
 v37:=Tryz.zeroValue98
 t127:=underlying106
 a127:=Tryz.isAgg106
 z127:=Tryz.sizeOf106
 v127:=Tryz.zeroValue106
 t5:=underlying5
 a5:=Tryz.isAgg5
 z5:=Tryz.sizeOf5
 v5:=Tryz.zeroValue5
 i0:=by kernel_rfl
 i3:=by kernel_rfl
 i4:=by kernel_rfl
 i5:=by kernel_rfl
 i9:=by kernel_rfl
 i37:=by kernel_rfl
 i127:=by kernel_rfl }
end
section
open Go.RowKit
set_option maxHeartbeats 1000000 in
set_option maxRecDepth 100000 in
theorem Cn (s:ByteArray) (w:World) (hs:s.size<=100000):Calls prog 20 #[.string s] w λe w'=>e=.returned (.string s)/\Below w.heap.size w w':=by
 have K:Calls prog 42 #[.string s] w λe w'=>e=.returned (.string s)/\Below w.heap.size w w':=Any.stringslite_Clone clone_lays s w jO;have K:=jH K;go_enter func20,ntmps20;go_wp2_with fail;with_reducible refine K.out.mono ?_
 rintro e w1 ⟨rfl,hb⟩;have B:=jH hb;clear hb;go_wp2;go_ret;exact ⟨rfl,B.out⟩
end
