import Derived.Test.YtipkfalbepiphaaGreatDoorPathAll
import Derived.Lib.LaidTab
import Derived.Shelf.Strings.Prefix
import Derived.Shelf.Small.Wraps
import Derived.Shelf.Strconv.Atoi
import Derived.Shelf.Strconv.Itoa3
import Derived.Shelf.Slices.Turned
import Derived.Lib.SmallJoins
set_option maxRecDepth 100000
set_option maxHeartbeats 4000000
namespace Go.Proofs.YtipkfalbepiphaaGreatDoor
open Tryz
section
open Utf
namespace Cmd
def Len (n:Nat) (c:Com):Prop:=c.name.length<=n/\c.loc.length<=n/\c.dom.length<=n
theorem Es (n:Nat) (v:Int):Len n { zero with verb:=v }:=⟨Nat.zero_le _,Nat.zero_le _,Nat.zero_le _⟩
theorem Aro {p:L} {c:Com} {n:Nat} (h:Len n c):Len n (low p c).2:=by
 unfold low;split<;>exact h
theorem Zs {l had:List L} {c:Com} {n:Nat} (h:Len n c):Len n (params had l c).2:=by
 obtain ⟨⟨e,d⟩,hp⟩:∃ q,params had l c=q:=⟨_,rfl⟩
 obtain ⟨-,-,g2,-,g4,g5,-⟩:=Mx l had c hp;rw [hp];unfold Len at h ⊢;rw [g2,g4,g5];exact h
theorem A12 {m:Bool} {p q:L} {c:Com} {n:Nat} (h:Len n c):Len n (tail m p q c).2:=by
 unfold tail;split
 ·split
  ·exact Aro h
  ·exact h
 ·split
  ·exact Es n 0
  ·split
   ·exact Es n 0
   ·split
    · exact Zs h
    · exact Aro (Zs h)
theorem A0v {p x y:L} {k:Bool} {E:Int} (h:Pth.Bc p=(E,k,x,y)):x.length<=p.length/\y.length<=p.length:=by
 rcases Pth.N8 h with ⟨-,-,rfl,rfl⟩ | ⟨-,-,hr,-,h0⟩
 ·exact ⟨Nat.zero_le _,Nat.zero_le _⟩
 ·rcases Lex.Jg p with ⟨-,e⟩ | ⟨-,F,q,e,h1,-⟩ | ⟨-,us,e,-,-⟩
  ·rw [e] at h0;cases h0
  ·rw [e] at h0;have:F=0:=h0;omega
  ·rw [e] at hr;exact Pth.Ajq e hr
theorem Ao2 {m:Bool} {p q:L}:Len p.length (Ip m p q).2:=by
 unfold Ip;split
 ·exact Es _ 0
 ·obtain ⟨⟨E,k,x,y⟩,hp⟩:∃ z,Pth.Bc p=z:=⟨_,rfl⟩
  obtain ⟨h1,h2⟩:=A0v hp;rw [hp];exact A12 ⟨Nat.zero_le _,h1,h2⟩
theorem Len.mono {a b:Nat} {c:Com} (h:Len a c) (hab:a<=b):Len b c:=⟨Nat.le_trans h.1 hab,Nat.le_trans h.2.1 hab,Nat.le_trans h.2.2 hab⟩
theorem Aj3 {m:Bool} {r:L}:Len r.length (Mo m r).2:=by
 unfold Mo;generalize (if m=true then 6 else 4)=w;generalize (if m=true then Hd else toK)=wk;split
 ·exact Es _ 0
 ·unfold behind;split
  ·exact Es _ 0
  ·refine Ao2.mono ?_;simp only [jak,jaj];omega
theorem Ax3 {v:Nat} {r:L}:Len r.length (body v r).2:=by
 unfold body;split
 ·unfold Jr;split
  ·exact Es _ 0
  ·exact ⟨by show (r.drop 1).length<=_;rw [jaj];omega,Nat.zero_le _,Nat.zero_le _⟩
 ·split
  ·exact Aj3
  ·split
   ·exact Aj3
   ·split
    ·exact Es _ _
    ·split
     · exact Es _ _
     · exact Es _ 0
theorem Ad4 {s:L} {E:Int} {c:Com} (h:parse s=(E,c)):Len s.length c:=by
 have hr:Len s.length (raw s).2:=by
  unfold raw;split
  ·exact Es _ 0
  ·split
   ·exact Es _ 0
   ·refine Ax3.mono ?_;rw [jaj];omega
 unfold parse at h;split at h
 ·rw [h] at hr;exact hr
 ·injection h with _ h
  rw [<- h];exact Es _ 0
theorem Au0 {s:L} {c:Com} (h:parse s=(0,c)):s.length<=510:=by
 refine Nat.le_of_not_lt λhl=>?_;rw [Zu hl] at h;injection h with h _
 cases h
theorem Apk {c:Com} (h:right c=true):(0<=c.verb/\c.verb<=7)/\-1<=c.size/\c.size<=16777216:=by
 unfold right at h;simp only [jag,decide_eq_true_eq] at h;obtain ⟨⟨⟨v0,v7⟩,-⟩,hm⟩:=h;refine ⟨⟨v0,v7⟩,?_⟩;split at hm
 ·simp only [jag,decide_eq_true_eq] at hm;exact ⟨hm.1.2,hm.2⟩
 ·simp only [jag,decide_eq_true_eq] at hm;have:=hm.1.1.2;omega
theorem Zx (n:Bool) (x y:L):(Pth.A9 n x y).length<=2*x.length+y.length+10:=by
 unfold Pth.A9 Pth.Qb Mbx.Fq;have:=Mbx.Pe x;rw [jac,jab];split
 ·simp
 ·split
  · simp;omega
  · rw [jab,jac];simp;omega
theorem Avb {c:Com} (h:Len 510 c) (hz0:-1<=c.size) (hz:c.size<=16777216):(print c).length<=2200:=by
 obtain ⟨h1,h2,h3⟩:=h;have hw:(word c.verb).length<=4:=by
  by_cases hv:0<=c.verb/\c.verb<=7
  ·rw [To hv.1 hv.2];exact jaa _
  ·unfold word;by_cases h0:0<=c.verb
   · rw [if_pos h0,List.getElem?_eq_none (by show 8<=_;omega)];simp
   · rw [if_neg h0];simp
 have hp:=Zx c.null c.loc c.dom;have he:(extras c).length<=40:=by
  have hn:=(Ms c.size.toNat).2.2.2 7 (by show _<100000000;omega);unfold extras Alm;simp only [jab];have e1:(if 0<=c.size then [32,83,73,90,69,61] ++ num c.size.toNat else if c.size=-1 then ([]:L) else A2w c.size).length<=14:=by
   split
   · rw [jab];simp only [jac,List.length_nil];omega
   · rw [if_pos jO];simp
  have e2:(if c.eight=true then No else ([]:L)).length<=14:=by split<;>simp [No]
  have e3:(if c.wide=true then Wn else ([]:L)).length<=9:=by split<;>simp [Wn]
  omega
 unfold print;have f1:Nq.length=6:=rfl;have f2:toT.length=4:=rfl;split
 ·rw [jab,jac];omega
 ·split
  ·simp only [jab];omega
  ·split
   · simp only [jab];omega
   · omega
end Cmd
end
section
open Go.RowKit
def A2r (w:World):Prop:=Lib.TabIs prog w "internal/strconv.uint64pow10" .u64 Lib.pow10Tab/\∃ m,w.cell? ⟨3,0,none⟩=some (.int .i64 m)
theorem Alw:Tryz.prog.globalNamed "internal/strconv.uint64pow10" = some 2:=by kernel_rfl
theorem Awp {w w':World} (h:A2r w) (b:Below w.heap.size w w'):A2r w':=by
 obtain ⟨h1,m,h2⟩:=h;refine ⟨?_,m,?_⟩
 ·unfold Lib.TabIs World.var? at h1 ⊢;rw [Alw] at h1 ⊢;simp only [Option.bind_some] at h1 ⊢;have hlt:2<w.heap.size:=by
   rcases Nat.lt_or_ge 2 w.heap.size with h | h
   ·exact h
   ·rw [Array.getElem?_eq_none h] at h1;cases h1
  rw [b.block _ hlt];exact h1
 ·unfold World.cell? at h2 ⊢;have hlt:3<w.heap.size:=by
   rcases Nat.lt_or_ge 3 w.heap.size with h | h
   ·exact h
   ·simp only [Array.getElem?_eq_none h] at h2;cases h2
  simp only [b.block _ hlt];exact h2
end
section
open Go.RowKit Utf
structure Ha (w:World):Prop where
 tabs:A2r w
 words:∀ i (h:i<8),w.cell? ⟨0,i,none⟩=some (.string ⟨(Cmd.F6[i]'h).toArray⟩)
theorem Ha.Ac {w w':World} (h:Ha w) (b:Below w.heap.size w w'):Ha w':=⟨Awp h.tabs b,λi hi=>cell_kept (h.words i hi) b⟩
def D3 (w:World) (t:Value):Prop:=Table w t/\Ha w
theorem D3.below {w w':World} {t:Value} (h:D3 w t) (b:Below w.heap.size w w'):D3 w' t:=⟨h.1.below b,h.2.Ac b⟩
structure Is (w0:World) (S b0 b1 b2 b3:Nat) (w:World):Prop where
 below:Below w0.heap.size w0 w
 held:I6 S b0 b1 b2 b3 w
 table:D3 w (tbl b0 b1 b2 b3)
section
variable {w0 w w':World} {S b0 b1 b2 b3:Nat}
theorem Is.next (h:Is w0 S b0 b1 b2 b3 w) (hb:Below w.heap.size w w'):Is w0 S b0 b1 b2 b3 w':=⟨h.below.trans (hb.mono h.below.size),h.held.below hb,h.table.below hb⟩
theorem Is.alloc (h:Is w0 S b0 b1 b2 b3 w) (o:Obj):Is w0 S b0 b1 b2 b3 (w.alloc o):=h.next ((jan _ w).alloc (jaa _) o)
theorem Is.drew (h:Is w0 S b0 b1 b2 b3 w):Is w0 S b0 b1 b2 b3 w.drew:=h.next ((jan _ w).drew)
theorem Is.step (h:Is w0 S b0 b1 b2 b3 w) (hb:Below w.heap.size w w') (o:Obj):Is w0 S b0 b1 b2 b3 (w'.alloc o):=(h.next hb).alloc o
theorem Pc (hb:Below w0.heap.size w0 w) (hT:Table w (tbl b0 b1 b2 b3)) (C:Ha w0) (T:TypeId) :
  Is w0 w.heap.size b0 b1 b2 b3 (w.alloc (.cells #[.slice (some ⟨b0,0,none⟩) 74 74,.slice (some ⟨b1,0,none⟩) 10 10,.slice (some ⟨b2,0,none⟩) 11 11,.slice (some ⟨b3,0,none⟩) 42 42] T)) :=
 ⟨hb.alloc hb.size _,Ih _ _ _ _ _ _,⟨hT.below ((jan _ _).alloc (jaa _) _),C.Ac (hb.alloc hb.size _)⟩⟩
end
end
section
open Go.Shelf
set_option maxRecDepth 100000
def Qh:Go.Shelf.Ren:=⟨λ| 101=>55 | 103=>80 | 109=>110 | 110=>82 | 118=>66 | 129=>119 | 158=>33 | 165=>46 | 166=>47 | 167=>48 | 168=>67 | 169=>49 | 171=>32 | 172=>141 | 197=>65 | 203=>51 | 205=>235 | 206=>104 | 208=>77 | 210=>108 | 230=>50 | 240=>63 | 241=>64 | 242=>96 | 243=>45 | 244=>172 | 245=>173 | 246=>62 | 247=>201 | 260=>95 | 262=>69 | 270=>68 | 274=>124 | 275=>125 | 276=>93 | 277=>94 | 278=>123 | 279=>202 | 280=>203 | 281=>204 | 282=>205 | 283=>89 | 284=>90 | 285=>91 | 286=>92 | 287=>234 | 313=>97 | 316=>76 | 317=>118 | 318=>120 | 319=>121 | 320=>122 | 321=>270 | 322=>271 | 337=>149 | 338=>150 | n=>n,λ| 0=>0 | 2=>2 | 3=>3 | 4=>4 | 5=>5 | 9=>9 | 20=>20 | 21=>21 | 24=>79 | 31=>120 | 37=>45 | 46=>180 | 51=>130 | 53=>145 | 70=>84 | 72=>86 | 75=>89 | 76=>90 | 80=>93 | 85=>261 | 105=>109 | 107=>95 | 119=>182 | 127=>108 | 138=>184 | 139=>185 | 143=>310 | 145=>312 | 160=>186 | 162=>156 | 164=>150 | 167=>260 | 168=>263 | 171=>144 | 173=>148 | 175=>286 | 203=>154 | 206=>218 | 208=>220 | 210=>289 | 212=>177 | 213=>178 | 232=>248 | 233=>249 | n=>n,λ| 3=>4 | 4=>5 | 13=>1 | 15=>8 | 16=>9 | 17=>2 | 18=>6 | 19=>7 | n=>n⟩
theorem Ajc:Go.Proofs.LaysM.n171 prog Qh:={
 mixed:=by kernel_rfl
 f129:=Tryz.func119.trans (congrArg some jK)
 f171:=Tryz.func32.trans (congrArg some jK)
 f243:=Tryz.func45.trans (congrArg some jK)
 f246:=Tryz.func62.trans (congrArg some jK)
 f283:=Tryz.func89.trans (congrArg some jK)
 f284:=Tryz.func90.trans (congrArg some jK)
 f285:=Tryz.func91.trans (congrArg some jK)
 f286:=Tryz.func92.trans (congrArg some jK)
 f317:=Tryz.func118.trans (congrArg some jK)
 f318:=Tryz.func120.trans (congrArg some jK)
 f319:=Tryz.func121.trans (congrArg some jK)
 f320:=Tryz.func122.trans (congrArg some jK)
 f337:=Tryz.func149.trans (congrArg some jK)
 f338:=Tryz.func150.trans (congrArg some jK)
 t0:=underlying0
 a0:=Tryz.isAgg0
 z0:=Tryz.sizeOf0
 v0:=Tryz.zeroValue0
 t2:=underlying2
 a2:=Tryz.isAgg2
 z2:=Tryz.sizeOf2
 v2:=Tryz.zeroValue2
 t3:=underlying3
 a3:=Tryz.isAgg3
 z3:=Tryz.sizeOf3
 v3:=Tryz.zeroValue3
 t4:=underlying4
 a4:=Tryz.isAgg4
 z4:=Tryz.sizeOf4
 v4:=Tryz.zeroValue4
 t5:=underlying5
 a5:=Tryz.isAgg5
 z5:=Tryz.sizeOf5
 v5:=Tryz.zeroValue5
 t9:=underlying9
 a9:=Tryz.isAgg9
 z9:=Tryz.sizeOf9
 v9:=Tryz.zeroValue9
 t20:=underlying20
 a20:=Tryz.isAgg20
 z20:=Tryz.sizeOf20
 v20:=Tryz.zeroValue20
 t37:=underlying45
 a37:=Tryz.isAgg45
 z37:=Tryz.sizeOf45
 v37:=Tryz.zeroValue45
 t46:=underlying180
 a46:=Tryz.isAgg180
 z46:=Tryz.sizeOf180
 v46:=Tryz.zeroValue180
 t51:=underlying130
 a51:=Tryz.isAgg130
 z51:=Tryz.sizeOf130
 v51:=Tryz.zeroValue130
 t53:=underlying145
 a53:=Tryz.isAgg145
 z53:=Tryz.sizeOf145
 v53:=Tryz.zeroValue145
 t171:=underlying144
 a171:=Tryz.isAgg144
 z171:=Tryz.sizeOf144
 v171:=Tryz.zeroValue144
 t173:=underlying148
 a173:=Tryz.isAgg148
 z173:=Tryz.sizeOf148
 v173:=Tryz.zeroValue148
 t212:=underlying177
 a212:=Tryz.isAgg177
 z212:=Tryz.sizeOf177
 v212:=Tryz.zeroValue177
 t213:=underlying178
 a213:=Tryz.isAgg178
 z213:=Tryz.sizeOf178
 t232:=underlying248
 a232:=Tryz.isAgg248
 z232:=Tryz.sizeOf248
 v232:=Tryz.zeroValue248
 t233:=underlying249
 a233:=Tryz.isAgg249
 z233:=Tryz.sizeOf249
 v233:=Tryz.zeroValue249
 g17:=by kernel_rfl
 g18:=by kernel_rfl
 g19:=by kernel_rfl
 i0:=by kernel_rfl
 i2:=by kernel_rfl
 i3:=by kernel_rfl
 i4:=by kernel_rfl
 i5:=by kernel_rfl
 i9:=by kernel_rfl
 i20:=by kernel_rfl
 i37:=by kernel_rfl
 i46:=by kernel_rfl
 i51:=by kernel_rfl
 i53:=by kernel_rfl
 i171:=by kernel_rfl
 i173:=by kernel_rfl
 i212:=by kernel_rfl
 i232:=by kernel_rfl
 i233:=by kernel_rfl
 m17:=by kernel_rfl
 m18:=by kernel_rfl
 m19:=by kernel_rfl }
theorem Aht:Go.Proofs.Lays.n172 prog Qh:={
 mixed:=by kernel_rfl
 f129:=Tryz.func119.trans (congrArg some jK)
 f171:=Tryz.func32.trans (congrArg some jK)
 f172:=Tryz.func141.trans (congrArg some jK)
 f205:=Tryz.func235.trans (congrArg some jK)
 f243:=Tryz.func45.trans (congrArg some jK)
 f244:=Tryz.func172.trans (congrArg some jK)
 f245:=Tryz.func173.trans (congrArg some jK)
 f246:=Tryz.func62.trans (congrArg some jK)
 f247:=Tryz.func201.trans (congrArg some jK)
 f279:=Tryz.func202.trans (congrArg some jK)
 f280:=Tryz.func203.trans (congrArg some jK)
 f281:=Tryz.func204.trans (congrArg some jK)
 f282:=Tryz.func205.trans (congrArg some jK)
 f283:=Tryz.func89.trans (congrArg some jK)
 f284:=Tryz.func90.trans (congrArg some jK)
 f285:=Tryz.func91.trans (congrArg some jK)
 f286:=Tryz.func92.trans (congrArg some jK)
 f287:=Tryz.func234.trans (congrArg some jK)
 f316:=Tryz.func76.trans (congrArg some jK)
 f317:=Tryz.func118.trans (congrArg some jK)
 f318:=Tryz.func120.trans (congrArg some jK)
 f319:=Tryz.func121.trans (congrArg some jK)
 f320:=Tryz.func122.trans (congrArg some jK)
 f321:=Tryz.func270.trans (congrArg some jK)
 f322:=Tryz.func271.trans (congrArg some jK)
 f337:=Tryz.func149.trans (congrArg some jK)
 f338:=Tryz.func150.trans (congrArg some jK)
 t0:=underlying0
 a0:=Tryz.isAgg0
 z0:=Tryz.sizeOf0
 v0:=Tryz.zeroValue0
 t2:=underlying2
 a2:=Tryz.isAgg2
 z2:=Tryz.sizeOf2
 v2:=Tryz.zeroValue2
 t3:=underlying3
 a3:=Tryz.isAgg3
 z3:=Tryz.sizeOf3
 v3:=Tryz.zeroValue3
 t4:=underlying4
 a4:=Tryz.isAgg4
 z4:=Tryz.sizeOf4
 v4:=Tryz.zeroValue4
 t5:=underlying5
 a5:=Tryz.isAgg5
 z5:=Tryz.sizeOf5
 v5:=Tryz.zeroValue5
 t9:=underlying9
 a9:=Tryz.isAgg9
 z9:=Tryz.sizeOf9
 v9:=Tryz.zeroValue9
 t20:=underlying20
 a20:=Tryz.isAgg20
 z20:=Tryz.sizeOf20
 v20:=Tryz.zeroValue20
 t21:=underlying21
 a21:=Tryz.isAgg21
 z21:=Tryz.sizeOf21
 v21:=Tryz.zeroValue21
 t37:=underlying45
 a37:=Tryz.isAgg45
 z37:=Tryz.sizeOf45
 v37:=Tryz.zeroValue45
 t46:=underlying180
 a46:=Tryz.isAgg180
 z46:=Tryz.sizeOf180
 v46:=Tryz.zeroValue180
 t51:=underlying130
 a51:=Tryz.isAgg130
 z51:=Tryz.sizeOf130
 v51:=Tryz.zeroValue130
 t53:=underlying145
 a53:=Tryz.isAgg145
 z53:=Tryz.sizeOf145
 v53:=Tryz.zeroValue145
 t75:=underlying89
 a75:=Tryz.isAgg89
 z75:=Tryz.sizeOf89
 v75:=Tryz.zeroValue89
 t76:=underlying90
 a76:=Tryz.isAgg90
 z76:=Tryz.sizeOf90
 v76:=Tryz.zeroValue90
 t85:=underlying261
 a85:=Tryz.isAgg261
 z85:=Tryz.sizeOf261
 v85:=Tryz.zeroValue261
 t127:=underlying108
 a127:=Tryz.isAgg108
 z127:=Tryz.sizeOf108
 v127:=Tryz.zeroValue108
 t143:=underlying310
 a143:=Tryz.isAgg310
 z143:=Tryz.sizeOf310
 v143:=Tryz.zeroValue310
 t145:=underlying312
 a145:=Tryz.isAgg312
 z145:=Tryz.sizeOf312
 v145:=Tryz.zeroValue312
 t167:=underlying260
 a167:=Tryz.isAgg260
 z167:=Tryz.sizeOf260
 v167:=Tryz.zeroValue260
 t168:=underlying263
 a168:=Tryz.isAgg263
 z168:=Tryz.sizeOf263
 v168:=Tryz.zeroValue263
 t171:=underlying144
 a171:=Tryz.isAgg144
 z171:=Tryz.sizeOf144
 v171:=Tryz.zeroValue144
 t173:=underlying148
 a173:=Tryz.isAgg148
 z173:=Tryz.sizeOf148
 v173:=Tryz.zeroValue148
 t175:=underlying286
 a175:=Tryz.isAgg286
 z175:=Tryz.sizeOf286
 v175:=Tryz.zeroValue286
 t210:=underlying289
 a210:=Tryz.isAgg289
 z210:=Tryz.sizeOf289
 v210:=Tryz.zeroValue289
 t212:=underlying177
 a212:=Tryz.isAgg177
 z212:=Tryz.sizeOf177
 v212:=Tryz.zeroValue177
 t213:=underlying178
 a213:=Tryz.isAgg178
 z213:=Tryz.sizeOf178
 t232:=underlying248
 a232:=Tryz.isAgg248
 z232:=Tryz.sizeOf248
 v232:=Tryz.zeroValue248
 t233:=underlying249
 a233:=Tryz.isAgg249
 z233:=Tryz.sizeOf249
 v233:=Tryz.zeroValue249
 g15:=by kernel_rfl
 g16:=by kernel_rfl
 g17:=by kernel_rfl
 g18:=by kernel_rfl
 g19:=by kernel_rfl }
theorem Ahg:Go.Proofs.Lays.n158 prog Qh:={
 mixed:=by kernel_rfl
 f118:=Tryz.func66.trans (congrArg some jK)
 f158:=Tryz.func33.trans (congrArg some jK)
 f165:=Tryz.func46.trans (congrArg some jK)
 f166:=Tryz.func47.trans (congrArg some jK)
 f167:=Tryz.func48.trans (congrArg some jK)
 f168:=Tryz.func67.trans (congrArg some jK)
 f169:=Tryz.func49.trans (congrArg some jK)
 f197:=Tryz.func65.trans (congrArg some jK)
 f203:=Tryz.func51.trans (congrArg some jK)
 f230:=Tryz.func50.trans (congrArg some jK)
 f240:=Tryz.func63.trans (congrArg some jK)
 f241:=Tryz.func64.trans (congrArg some jK)
 f242:=Tryz.func96.trans (congrArg some jK)
 f260:=Tryz.func95.trans (congrArg some jK)
 f262:=Tryz.func69.trans (congrArg some jK)
 f270:=Tryz.func68.trans (congrArg some jK)
 f274:=Tryz.func124.trans (congrArg some jK)
 f275:=Tryz.func125.trans (congrArg some jK)
 f276:=Tryz.func93.trans (congrArg some jK)
 f277:=Tryz.func94.trans (congrArg some jK)
 f278:=Tryz.func123.trans (congrArg some jK)
 f313:=Tryz.func97.trans (congrArg some jK)
 t0:=underlying0
 a0:=Tryz.isAgg0
 z0:=Tryz.sizeOf0
 v0:=Tryz.zeroValue0
 t3:=underlying3
 a3:=Tryz.isAgg3
 z3:=Tryz.sizeOf3
 v3:=Tryz.zeroValue3
 t4:=underlying4
 a4:=Tryz.isAgg4
 z4:=Tryz.sizeOf4
 v4:=Tryz.zeroValue4
 t5:=underlying5
 a5:=Tryz.isAgg5
 z5:=Tryz.sizeOf5
 v5:=Tryz.zeroValue5
 t9:=underlying9
 a9:=Tryz.isAgg9
 z9:=Tryz.sizeOf9
 v9:=Tryz.zeroValue9
 t20:=underlying20
 a20:=Tryz.isAgg20
 z20:=Tryz.sizeOf20
 v20:=Tryz.zeroValue20
 t21:=underlying21
 a21:=Tryz.isAgg21
 z21:=Tryz.sizeOf21
 v21:=Tryz.zeroValue21
 t37:=underlying45
 a37:=Tryz.isAgg45
 z37:=Tryz.sizeOf45
 v37:=Tryz.zeroValue45
 t46:=underlying180
 a46:=Tryz.isAgg180
 z46:=Tryz.sizeOf180
 v46:=Tryz.zeroValue180
 t51:=underlying130
 a51:=Tryz.isAgg130
 z51:=Tryz.sizeOf130
 v51:=Tryz.zeroValue130
 t70:=underlying84
 a70:=Tryz.isAgg84
 z70:=Tryz.sizeOf84
 v70:=Tryz.zeroValue84
 t72:=underlying86
 a72:=Tryz.isAgg86
 z72:=Tryz.sizeOf86
 v72:=Tryz.zeroValue86
 t75:=underlying89
 a75:=Tryz.isAgg89
 z75:=Tryz.sizeOf89
 v75:=Tryz.zeroValue89
 t76:=underlying90
 a76:=Tryz.isAgg90
 z76:=Tryz.sizeOf90
 v76:=Tryz.zeroValue90
 t105:=underlying109
 a105:=Tryz.isAgg109
 z105:=Tryz.sizeOf109
 v105:=Tryz.zeroValue109
 t107:=underlying95
 a107:=Tryz.isAgg95
 z107:=Tryz.sizeOf95
 v107:=Tryz.zeroValue95
 t119:=underlying182
 a119:=Tryz.isAgg182
 z119:=Tryz.sizeOf182
 t127:=underlying108
 a127:=Tryz.isAgg108
 z127:=Tryz.sizeOf108
 v127:=Tryz.zeroValue108
 t138:=underlying184
 a138:=Tryz.isAgg184
 z138:=Tryz.sizeOf184
 v138:=Tryz.zeroValue184
 t139:=underlying185
 a139:=Tryz.isAgg185
 z139:=Tryz.sizeOf185
 v139:=Tryz.zeroValue185
 t160:=underlying186
 a160:=Tryz.isAgg186
 z160:=Tryz.sizeOf186
 v160:=Tryz.zeroValue186
 t162:=underlying156
 a162:=Tryz.isAgg156
 z162:=Tryz.sizeOf156
 v162:=Tryz.zeroValue156
 t164:=underlying150
 a164:=Tryz.isAgg150
 z164:=Tryz.sizeOf150
 v164:=Tryz.zeroValue150
 t203:=underlying154
 a203:=Tryz.isAgg154
 z203:=Tryz.sizeOf154
 v203:=Tryz.zeroValue154
 t206:=underlying218
 a206:=Tryz.isAgg218
 z206:=Tryz.sizeOf218
 v206:=Tryz.zeroValue218
 t208:=underlying220
 a208:=Tryz.isAgg220
 z208:=Tryz.sizeOf220
 v208:=Tryz.zeroValue220
 g3:=by kernel_rfl
 g4:=by kernel_rfl
 g13:=by kernel_rfl }
theorem Yv:Go.Proofs.Lays.n110 prog Qh:={
 mixed:=by kernel_rfl
 f109:=Tryz.func110.trans (congrArg some jK)
 f110:=Tryz.func82.trans (congrArg some jK)
 t0:=underlying0
 a0:=Tryz.isAgg0
 z0:=Tryz.sizeOf0
 v0:=Tryz.zeroValue0
 t3:=underlying3
 a3:=Tryz.isAgg3
 z3:=Tryz.sizeOf3
 v3:=Tryz.zeroValue3
 t4:=underlying4
 a4:=Tryz.isAgg4
 z4:=Tryz.sizeOf4
 v4:=Tryz.zeroValue4
 t9:=underlying9
 a9:=Tryz.isAgg9
 z9:=Tryz.sizeOf9
 v9:=Tryz.zeroValue9
 t31:=underlying120
 a31:=Tryz.isAgg120
 z31:=Tryz.sizeOf120
 v31:=Tryz.zeroValue120 }
theorem Alz:Go.Proofs.Lays.n101 prog Qh:={
 mixed:=by kernel_rfl
 f101:=Tryz.func55.trans (congrArg some jK)
 f206:=Tryz.func104.trans (congrArg some jK)
 f208:=Tryz.func77.trans (congrArg some jK)
 t3:=underlying3
 a3:=Tryz.isAgg3
 z3:=Tryz.sizeOf3
 v3:=Tryz.zeroValue3
 t4:=underlying4
 a4:=Tryz.isAgg4
 z4:=Tryz.sizeOf4
 v4:=Tryz.zeroValue4
 t9:=underlying9
 a9:=Tryz.isAgg9
 z9:=Tryz.sizeOf9
 v9:=Tryz.zeroValue9 }
theorem Aih:Go.Proofs.Lays.n103 prog Qh:={
 mixed:=by kernel_rfl
 f103:=Tryz.func80.trans (congrArg some jK)
 f206:=Tryz.func104.trans (congrArg some jK)
 f210:=Tryz.func108.trans (congrArg some jK)
 t3:=underlying3
 a3:=Tryz.isAgg3
 z3:=Tryz.sizeOf3
 v3:=Tryz.zeroValue3
 t4:=underlying4
 a4:=Tryz.isAgg4
 z4:=Tryz.sizeOf4
 v4:=Tryz.zeroValue4
 t9:=underlying9
 a9:=Tryz.isAgg9
 z9:=Tryz.sizeOf9
 v9:=Tryz.zeroValue9
 t24:=underlying79
 a24:=Tryz.isAgg79
 z24:=Tryz.sizeOf79
 v24:=Tryz.zeroValue79 }
theorem Ab0:Builder.Extra prog Qh:={
 sizeBuilder:=by kernel_rfl
 liesBuilder:=by kernel_rfl
 t5:=underlying5
 a5:=Tryz.isAgg5
 z5:=Tryz.sizeOf5
 v5:=Tryz.zeroValue5
 infoByte:=by kernel_rfl
 cellsByte:=by kernel_rfl
 sizeByte:=by kernel_rfl
 neB5:=by decide }
end
section
open Go.RowKit Utf Go.Shelf
theorem Afb (w:World) (k:Nat) (os:Array Obj):Below w.heap.size w (Go.Sort.grow (w.drewN k) os) :=
 ⟨rfl,rfl,rfl,by show w.heap.size<=(w.heap ++ os).size;rw [Array.size_append];omega,λj hj=>by
  show (w.heap ++ os)[j]? = w.heap[j]?;exact Array.getElem?_append_left hj⟩
theorem A56 (z:Int) (w:World) (hT:A2r w) (h0:-9223372036854775808<=z) (h1:z<=9223372036854775807):Calls prog 32 #[.int .i64 z] w λe w'=>e=.returned (.string ⟨(Lib.itoa z).toArray⟩)/\Below w.heap.size w w' :=
 (show Calls prog 32 #[.int .i64 z] w λe w'=>e=.returned (.string ⟨(Lib.itoa z).toArray⟩)/\∃ k os,w'=Go.Sort.grow (w.drewN k) os from Any.strconv_Itoa Ajc z h0 h1 w hT.1).mono λ_ _ ⟨h,k,os,hw⟩=>⟨h,hw ▸ Afb w k os⟩
theorem A5f (s:ByteArray) (n:Nat) (w:World) (h:Cmd.number s.data.toList=some n):Calls prog 141 #[.string s] w λe w'=>e=.returned (.tuple #[.int .i64 n,.nilIface])/\Below w.heap.size w w':=by
 obtain ⟨h1,h2,-⟩:=Cmd.Ahu h;have hs:s.data.toList.length=s.size:=by simp
 exact (show Calls prog 141 #[.string s] w λe w'=>e=.returned (.tuple #[.int .i64 n,.nilIface])/\∃ t,w'=Lib.bytesWorld w 5 t from Any.strconv_Atoi Aht s n jO h1 w).mono λ_ _ ⟨h,t,hw⟩=>⟨h,hw ▸ Go.Joins.below_bytesWorld _ w _ t (jaa _)⟩
theorem A4w (s:ByteArray) (w:World) (hs:s.size<=100000) (h:∀ b ∈ s.data.toList,b.toNat<128):Calls prog 33 #[.string s] w λe w'=>e=.returned (.string ⟨(Lib.toUpperA s.data.toList).toArray⟩)/\Below w.heap.size w w' :=
 Any.strings_ToUpper_ascii Ahg Ab0 s w jO λj b hb=>h b (List.mem_of_getElem? hb)
theorem A6x (base:Nat) (v:Value) (l:List (List UInt8)) (x:ByteArray) (w:World) (hv:Ck base v l w) (hl:l.length<=100000):Calls prog 82 #[v,.string x] w λe w'=>e=.returned (.bool (decide (x.data.toList ∈ l)))/\Below w.heap.size w w':=by
 obtain ⟨A,c,rfl,hf⟩:=hv.shape;rcases Nat.eq_zero_or_pos l.length with h0 | h0
 ·rw [h0,List.length_eq_zero_iff.1 h0];exact (show Calls prog 82 #[.slice A 0 c,.string x] w λe w'=>e=.returned (.bool false)/\w'=w from Any.slices_Contains_string_empty Yv A c x w).mono λ_ _ ⟨h,hw⟩=>⟨by rw [h];rfl,hw ▸ jan _ _⟩
 ·obtain ⟨g,rfl,-,-⟩:=hf h0;obtain ⟨zs,hzs⟩:∃ zs:List ByteArray,zs=l.map λu=>(⟨u.toArray⟩:ByteArray):=⟨_,rfl⟩
  have hzl:zs.length=l.length:=by rw [hzs,jai]
  have hcell:∀ j,j<zs.length->w.cell? ⟨g,0+j,none⟩=some (.string (zs.getD j ByteArray.empty)):=λj hj=>by
   rw [hzl] at hj;rw [Nat.zero_add,hv.cell j hj,List.getD_eq_getElem?_getD,hzs,List.getElem?_map,List.getElem?_eq_getElem hj,getElem!_pos l j hj];rfl
  have K:Calls prog 82 #[.slice (some ⟨g,0,none⟩) l.length c,.string x] w λe w'=>e=.returned (.bool (Lib.containsS (zs.take l.length) x))/\w'=w :=
   Any.slices_Contains_string Yv g 0 l.length c zs x w jO jO hcell
  refine K.mono λ_ _ ⟨h,hw⟩=>⟨?_,hw ▸ jan _ _⟩
  rw [h];congr 2;rw [Bool.eq_iff_iff,Lib.containsS_iff,decide_eq_true_eq,List.take_of_length_le jO,hzs,List.mem_map];constructor
  ·rintro ⟨u,hu,rfl⟩;exact hu
  ·exact λhx=>⟨_,hx,rfl⟩
theorem A6l (s:ByteArray) (w:World):Calls prog 55 #[.string s,.string ⟨#[32]⟩] w λe w'=>e=.returned (.string ⟨(Lib.trimPrefix s.data.toList [32]).toArray⟩)/\w'=w :=
 Any.strings_TrimPrefix Alz s ⟨#[32]⟩ w
theorem Ayd (s:ByteArray) (w:World):Calls prog 80 #[.string s,.string ⟨#[32]⟩] w λe w'=>e=.returned (.tuple #[.string ⟨(Lib.trimPrefix s.data.toList [32]).toArray⟩,.bool (Lib.hasPrefix s.data.toList [32])])/\w'=w :=
 Any.strings_CutPrefix Aih s ⟨#[32]⟩ w
namespace Cmd
theorem Adm:∀ x:L,Lib.indexByte x 61=-1->Bj x=x
 | [],_=>rfl
 | b::l,h=>by
  rw [show Lib.indexByte (b::l) 61=if b == 61 then 0 else if Lib.indexByte l 61 == -1 then -1 else Lib.indexByte l 61+1 from rfl] at h;have hge:=Lib.indexByte_ge l 61;by_cases hb:b=61
  ·rw [if_pos (by simpa using hb)] at h;cases h
  ·rw [if_neg (by simpa using hb)] at h;have hl:Lib.indexByte l 61=-1:=by
    by_cases h2:Lib.indexByte l 61=-1
    · exact h2
    · rw [if_neg (by simpa using h2)] at h;omega
   unfold Bj;rw [List.takeWhile_cons_of_pos (by simpa using hb)];exact congrArg (b::·) (Adm l hl)
theorem Adn:∀ (x:L) (i:Nat),Lib.indexByte x 61=(i:Int)->i<x.length/\Bj x=x.take i
 | [],i,h=>by
  rw [show Lib.indexByte [] 61=-1 from rfl] at h;omega
 | b::l,i,h=>by
  rw [show Lib.indexByte (b::l) 61=if b == 61 then 0 else if Lib.indexByte l 61 == -1 then -1 else Lib.indexByte l 61+1 from rfl] at h;by_cases hb:b=61
  ·rw [if_pos (by simpa using hb)] at h;obtain rfl:i=0:=jO
   refine ⟨by simp,?_⟩;unfold Bj;rw [List.takeWhile_cons_of_neg (by simpa using hb)];rfl
  ·rw [if_neg (by simpa using hb)] at h;by_cases h2:Lib.indexByte l 61=-1
   ·rw [if_pos (by simpa using h2)] at h;omega
   ·rw [if_neg (by simpa using h2)] at h;obtain ⟨j,rfl⟩:∃ j,i=j+1:=⟨i - 1,by have:=Lib.indexByte_ge l 61;omega⟩
    obtain ⟨h3,h4⟩:=Adn l j jO;refine ⟨by rw [jac];omega,?_⟩;unfold Bj at h4 ⊢;rw [List.takeWhile_cons_of_pos (by simpa using hb),h4,List.take_succ_cons]
end Cmd
theorem At6 (s:ByteArray) (w:World) (hs:s.size<=100000):Calls prog 109 #[.string s,.string ⟨#[61]⟩] w λe w'=>∃ b,e=.returned (.tuple #[.string ⟨(Cmd.Bj s.data.toList).toArray⟩,.string ⟨(Cmd.Om s.data.toList).toArray⟩,.bool b])/\Below w.heap.size w w':=by
 have K:=Py 61 s ⟨#[61]⟩ rfl w;have hsl:s.data.toList.length=s.size:=by simp
 rcases Lex.Vx 61 s.data.toList with hi | ⟨i,hi⟩
 ·have hk:=Cmd.Adm _ hi;have hv:Cmd.Om s.data.toList=[]:=by unfold Cmd.Om;rw [hk];exact List.drop_eq_nil_of_le jO
  rw [hi] at K;rw [hk,hv,Lex.Gn];have K:=jH K;clear hi hk hv hsl;go_enter func109,ntmps109;go_wp2_with fail;refine K.out.mono ?_;rintro e w1 ⟨rfl,rfl⟩;go_wp2;go_ret3;exact ⟨_,rfl,jan _ _⟩
 ·obtain ⟨h1,hk⟩:=Cmd.Adn _ i hi;have hv:Cmd.Om s.data.toList=s.data.toList.drop (i+1):=by unfold Cmd.Om;rw [hk,jak,Nat.min_eq_left jO]
  have e1:(⟨(s.data.toList.take i).toArray⟩:ByteArray)=s.extract 0 i:=by
   have:=Lex.J5 s 0 i;rw [List.drop_zero,Nat.sub_zero] at this;rw [<- this,Lex.Gn]
  have e2:(⟨(s.data.toList.drop (i+1)).toArray⟩:ByteArray)=s.extract (i+1) s.size:=by rw [<- Lex.Oz s (i+1),Lex.Gn]
  rw [hi] at K;rw [hk,hv,e1,e2];have K:=jH K;have z1:(i:Int)<=(s.size:Int):=jO
  have z2:(i:Int)+1<=(s.size:Int):=jO
  have z3:¬ (i:Int)<0:=jO
  have z4:wrap64 ((i:Int)+1)=(i:Int)+1:=by unfold wrap64;omega
  have BW:=jH (jan w.heap.size w);clear hi hk hv hsl e1 e2 h1;go_enter func109,ntmps109;go_wp2_with fail;refine K.out.mono ?_;rintro e w1 ⟨rfl,rfl⟩;go_wp2_with fail;go_quiet (fail);go_wp2_with fail;go_ret3;exact ⟨_,rfl,below_drewN BW.out nq⟩
theorem A6s (s:ByteArray) (w:World) (hs:s.size<=100000):Calls prog 81 #[.string s,.string ⟨#[61]⟩] w λe w'=>∃ b,e=.returned (.tuple #[.string ⟨(Cmd.Bj s.data.toList).toArray⟩,.string ⟨(Cmd.Om s.data.toList).toArray⟩,.bool b])/\Below w.heap.size w w':=by
 have K:=jH (At6 s w hs);generalize (⟨(Cmd.Bj s.data.toList).toArray⟩:ByteArray)=x at K ⊢;generalize (⟨(Cmd.Om s.data.toList).toArray⟩:ByteArray)=y at K ⊢;go_enter func81,ntmps81;go_wp2_with fail;refine K.out.mono ?_;rintro e w1 ⟨b,rfl,hb⟩;have HB:=jH hb;clear hb;go_wp2;go_ret3;exact ⟨_,rfl,HB.out⟩
theorem Ayb (g:Nat) (ok:UInt8->Bool) (p:Int->Bool) (hlow:∀ c:UInt8,c.toNat<128->p (c.toNat:Int)=!ok c) (hhigh:∀ r:Int,128<=r->p r=true) (hok:∀ c:UInt8,¬ c.toNat<128->ok c=false)
  (eg:∀ args w,(callFunc g args).run prog w=.ok (.enter g args) w) (hp:∀ (W:World) (r:Int),Calls prog g #[.int .i32 r] W λe W'=>e=.returned (.bool (p r))/\W=W') (s:ByteArray) (w:World) :
  Calls prog 34 #[.string s,.func (.func g) #[] #[]] w λe w'=>e=.returned (.bool (!(s.data.toList.all ok)))/\Below w.heap.size w w':=by
 have K:=jH (Js (hi:=true) g ok p hlow hhigh hok s w eg λW r _ _=>(hp W r).mono λe w' ⟨h1,h2⟩=>⟨h1,h2 ▸ jan _ _⟩);generalize s.data.toList.all ok=p at K ⊢;cases p
 all_goals
  go_enter func34,ntmps34;go_wp2_with (go_at_call 52;go_in);refine K.out.mono ?_;rintro e w3 ⟨z,rfl,hz,hb⟩;have HB:=jH hb;clear hb;go_wp2;go_ret;exact ⟨rfl,HB.out⟩
theorem Ahz (r:Int) (w:World):Calls prog 35 #[.int .i32 r] w λe w'=>e=.returned (.bool (decide (r<33) || decide (126<r)))/\w=w':=by
 cases h1:decide (r<33)<;>cases h2:decide (126<r)
 all_goals
  go_enter func35,ntmps35;go_wp2;go_ret;exact ⟨rfl,rfl⟩
theorem Akd (r:Int) (w:World):Calls prog 140 #[.int .i32 r] w λe w'=>e=.returned (.bool (decide (r<48) || decide (57<r)))/\w=w':=by
 cases h1:decide (r<48)<;>cases h2:decide (57<r)
 all_goals
  go_enter func140,ntmps140;go_wp2;go_ret;exact ⟨rfl,rfl⟩
theorem A6c (s:ByteArray) (w:World):Calls prog 34 #[.string s,.func (.func 35) #[] #[]] w λe w'=>e=.returned (.bool (!(s.data.toList.all Cmd.Pz)))/\Below w.heap.size w w' :=
 Ayb 35 Cmd.Pz (λr=>decide (r<33) || decide (126<r)) (λc _=>by
   rw [Bool.eq_iff_iff];simp [Cmd.Pz];omega) (λr h=>by simp;omega) (λc h=>by simp [Cmd.Pz];omega)
  (enters_of func35 jK rfl) (λW r=>Ahz r W) s w
theorem A26 (s:ByteArray) (w:World):Calls prog 34 #[.string s,.func (.func 140) #[] #[]] w λe w'=>e=.returned (.bool (!(s.data.toList.all Cmd.Cm)))/\Below w.heap.size w w' :=
 Ayb 140 Cmd.Cm (λr=>decide (r<48) || decide (57<r)) (λc _=>by
   rw [Bool.eq_iff_iff];simp [Cmd.Cm];omega) (λr h=>by simp;omega) (λc h=>by simp [Cmd.Cm];omega)
  (enters_of func140 jK rfl) (λW r=>Akd r W) s w
end
section
open Go.RowKit Utf
structure Ai (C:Nat) (v:Int) (nm:ByteArray) (k:Bool) (x y:ByteArray) (z:Int) (e d:Bool) (W:World):Prop where
 blk:W.heap[C]? = some (.cells #[.int .i64 v,.string nm,.bool k,.string x,.string y,.int .i64 z,.bool e,.bool d] 27 (0,0))
section
variable {C:Nat} {v z:Int} {nm x y:ByteArray} {k e d:Bool} {W W':World}
theorem Ai.lt (H:Ai C v nm k x y z e d W):C<W.heap.size:=(Array.getElem?_eq_some_iff.1 H.blk).1
theorem Ai.all (H:Ai C v nm k x y z e d W):W.cell? ⟨C,0,none⟩=some (.int .i64 v)/\W.cell? ⟨C,1,none⟩=some (.string nm)/\W.cell? ⟨C,2,none⟩=some (.bool k)/\W.cell? ⟨C,3,none⟩=some (.string x)/\W.cell? ⟨C,4,none⟩=some (.string y) /\
 W.cell? ⟨C,5,none⟩=some (.int .i64 z)/\W.cell? ⟨C,6,none⟩=some (.bool e)/\W.cell? ⟨C,7,none⟩=some (.bool d):=by have:=H.blk;simp [World.cell?,this]
theorem Ai.Ac (H:Ai C v nm k x y z e d W) (hb:Below W.heap.size W W'):Ai C v nm k x y z e d W':=⟨(hb.block C H.lt).trans H.blk⟩
theorem Ai.step (H:Ai C v nm k x y z e d W) (hb:Below W.heap.size W W') (o:Obj):Ai C v nm k x y z e d (W'.alloc o):=H.Ac (Aa hb (Ab W' o))
theorem Ai.new (W:World) (v:Int) (nm:ByteArray) (k:Bool) (x y:ByteArray) (z:Int) (e d:Bool):Ai W.heap.size v nm k x y z e d (W.alloc (.cells #[.int .i64 v,.string nm,.bool k,.string x,.string y,.int .i64 z,.bool e,.bool d] 27)):=⟨heap_alloc_new W _⟩
theorem Ai.fr (H:Ai C v nm k x y z e d W) (j:Nat):W.frozen? ⟨C,j,none⟩=false:=by have:=H.blk;simp [World.frozen?,this]
theorem Ai.apart {B:Nat} (H:Ai C v nm k x y z e d W) (hb:Below B W W') (hC:C<B):Ai C v nm k x y z e d W':=⟨(hb.block C hC).trans H.blk⟩
theorem Ai.put (H:Ai C v nm k x y z e d W) (v':Int) (nm':ByteArray) (k':Bool) (x' y':ByteArray) (z':Int) (e' d':Bool):Ai C v' nm' k' x' y' z' e' d' ((((((((W.setCell ⟨C,0,none⟩ (.int .i64 v')).setCell ⟨C,1,none⟩ (.string nm')).setCell ⟨C,2,none⟩ (.bool k')).setCell ⟨C,3,none⟩ (.string x')).setCell ⟨C,4,none⟩ (.string y')).setCell ⟨C,5,none⟩ (.int .i64 z')).setCell ⟨C,6,none⟩ (.bool e')).setCell ⟨C,7,none⟩ (.bool d')) :=
 ⟨by have:=H.blk;simp [World.setCell,Array.getElem?_modify,this]⟩
theorem Hg {w:World} {B:Nat} (h:Below B w W) (hB:B<=C) (a0 a1 a2 a3 a4 a5 a6 a7:Value):Below B w ((((((((W.setCell ⟨C,0,none⟩ a0).setCell ⟨C,1,none⟩ a1).setCell ⟨C,2,none⟩ a2).setCell ⟨C,3,none⟩ a3).setCell ⟨C,4,none⟩ a4).setCell ⟨C,5,none⟩ a5).setCell ⟨C,6,none⟩ a6).setCell ⟨C,7,none⟩ a7) :=
 (((((((h.setCell (p:=⟨C,0,none⟩) hB a0).setCell (p:=⟨C,1,none⟩) hB a1).setCell (p:=⟨C,2,none⟩) hB a2).setCell (p:=⟨C,3,none⟩) hB a3).setCell (p:=⟨C,4,none⟩) hB a4).setCell (p:=⟨C,5,none⟩) hB a5).setCell (p:=⟨C,6,none⟩) hB a6).setCell (p:=⟨C,7,none⟩) hB a7
end
structure Ahl:Prop where
 parse:∀ (t:Value) (s:ByteArray) (w:World),D3 w t->s.size<=1000->∀ {E v:Int} {nm:List UInt8} {k:Bool} {x y:List UInt8} {z:Int} {e d:Bool},Cmd.parse s.data.toList=(E,⟨v,nm,k,x,y,z,e,d⟩) ->
  Calls prog 12 #[t,.string s] w λr w'=>r=.returned (.tuple #[.agg #[.int .i64 v,.string ⟨nm.toArray⟩,.bool k,.string ⟨x.toArray⟩,.string ⟨y.toArray⟩,.int .i64 z,.bool e,.bool d],.int .i64 E])/\Below w.heap.size w w'
 print:∀ (v:Int) (nm:ByteArray) (k:Bool) (x y:ByteArray) (z:Int) (e d:Bool) (w:World),Ha w->nm.size<=1000->x.size<=1000->y.size<=1000->-9223372036854775808<=v/\v<=9223372036854775807->-9223372036854775808<=z/\z<=9223372036854775807 ->
  ∀ {p:List UInt8},Cmd.print ⟨v,nm.data.toList,k,x.data.toList,y.data.toList,z,e,d⟩=p ->
  Calls prog 9 #[.agg #[.int .i64 v,.string nm,.bool k,.string x,.string y,.int .i64 z,.bool e,.bool d]] w λr w'=>r=.returned (.string ⟨p.toArray⟩)/\Below w.heap.size w w'
 right:∀ (t:Value) (v:Int) (nm:ByteArray) (k:Bool) (x y:ByteArray) (z:Int) (e d:Bool) (w:World),D3 w t->nm.size<=1000->x.size<=1000->y.size<=510->-9223372036854775808<=v/\v<=9223372036854775807->-9223372036854775808<=z/\z<=9223372036854775807 ->
  ∀ {b:Bool},Cmd.right ⟨v,nm.data.toList,k,x.data.toList,y.data.toList,z,e,d⟩=b ->
  Calls prog 10 #[t,.agg #[.int .i64 v,.string nm,.bool k,.string x,.string y,.int .i64 z,.bool e,.bool d]] w λr w'=>r=.returned (.bool b)/\Below w.heap.size w w'
 word:∀ (v:Int) (w:World),Ha w->-9223372036854775808<=v/\v<=9223372036854775807->∀ {p:List UInt8},Cmd.word v=p->Calls prog 14 #[.int .i64 v] w λr w'=>r=.returned (.string ⟨p.toArray⟩)/\Below w.heap.size w w'
end
section
open Go.RowKit Utf
namespace Cmd
theorem Aa5 {v:Int} (h:v<0\/8<=v):word v=[]:=by
 unfold word;rcases h with h | h
 · rw [if_neg jO]
 · rw [if_pos jO,List.getElem?_eq_none (by show 8<=_;omega)];rfl
theorem A40 {n:Nat} (h:n<8):word (n:Int)=F6[n]'h:=by
 match n,h with
 | 0,_ | 1,_ | 2,_ | 3,_ | 4,_ | 5,_ | 6,_ | 7,_=>rfl
theorem Aqj (v:Int):(word v=[]) ↔ ¬ (0<=v/\v<=7):=by
 constructor
 ·rintro h ⟨h1,h2⟩;have:=To h1 h2;rw [h] at this;cases this
 ·intro h;exact Aa5 jO
end Cmd
theorem Aqi (v:Int) (w:World) (hC:Ha w):Calls prog 14 #[.int .i64 v] w λr w'=>r=.returned (.string ⟨(Cmd.word v).toArray⟩)/\w=w':=by
 by_cases h0:v<0
 ·have E:=jH (Cmd.Aa5 (.inl h0));clear hC;go_enter func14,ntmps14;go_wp2;go_ret;exact ⟨by rw [E.out];rfl,rfl⟩
 by_cases h8:8<=v
 ·have E:=jH (Cmd.Aa5 (.inr h8));clear hC;go_enter func14,ntmps14;go_wp2;go_ret;exact ⟨by rw [E.out];rfl,rfl⟩
 obtain ⟨n,rfl⟩:∃ n:Nat,v=n:=⟨v.toNat,by omega⟩
 have hn:n<8:=jO
 have hc:=hC.words n hn;have E:=jH (Cmd.A40 hn);generalize Cmd.F6[n]=x at hc E;have h8':¬ (8:Int)<=(n:Int):=h8;have h9:(n:Int)<8:=jO
 clear hC;go_enter func14,ntmps14;go_wp2;go_ret;exact ⟨by rw [E.out];rfl,rfl⟩
theorem A0e (w:World):Calls prog 26 #[] w λr w'=>r=.returned (.agg #[.int .i64 0,.string ⟨#[]⟩,.bool false,.string ⟨#[]⟩,.string ⟨#[]⟩,.int .i64 (-1),.bool false,.bool false])/\Below w.heap.size w w':=by
 obtain ⟨W,hW⟩:∃ W,w.alloc (.cells #[.int .i64 0,.string ⟨#[]⟩,.bool false,.string ⟨#[]⟩,.string ⟨#[]⟩,.int .i64 (-1),.bool false,.bool false] 27)=W:=⟨_,rfl⟩
 have B0:=Ab w (.cells #[.int .i64 0,.string ⟨#[]⟩,.bool false,.string ⟨#[]⟩,.string ⟨#[]⟩,.int .i64 (-1),.bool false,.bool false] 27);obtain ⟨c0,c1,c2,c3,c4,c5,c6,c7⟩:=(Ai.new w 0 ⟨#[]⟩ false ⟨#[]⟩ ⟨#[]⟩ (-1) false false).all;rw [hW] at B0 c0 c1 c2 c3 c4 c5 c6 c7;have BB:=jH B0;have HW:=jH hW;clear B0 hW;go_enter func26,ntmps26;go_wp2;rw [HW.out];exact bodyPost_ret (v:=.agg #[.int .i64 0,.string ⟨#[]⟩,.bool false,.string ⟨#[]⟩,.string ⟨#[]⟩,.int .i64 (-1),.bool false,.bool false]) (by simp [results,results26,go_sem,c0,c1,c2,c3,c4,c5,c6,c7]) rfl ⟨rfl,BB.out⟩
end
section
open Go.RowKit Utf
theorem Afj {w:World} {B:Nat} (hB:w.heap.size=B) (b0 b1 b2 b3:Nat) (v:Int) (nm:ByteArray) (k:Bool) (x y:ByteArray) (z:Int) (e d:Bool) {W:World}
  (hW:W=(w.alloc (.cells #[.slice (some ⟨b0,0,none⟩) 74 74,.slice (some ⟨b1,0,none⟩) 10 10,.slice (some ⟨b2,0,none⟩) 11 11,.slice (some ⟨b3,0,none⟩) 42 42] 35)).alloc (.cells #[.int .i64 v,.string nm,.bool k,.string x,.string y,.int .i64 z,.bool e,.bool d] 27)) :
  TAt B b0 b1 b2 b3 W/\Ai (B+1) v nm k x y z e d W/\Below w.heap.size w W:=by
 subst hB;have hs:(w.alloc (.cells #[.slice (some ⟨b0,0,none⟩) 74 74,.slice (some ⟨b1,0,none⟩) 10 10,.slice (some ⟨b2,0,none⟩) 11 11,.slice (some ⟨b3,0,none⟩) 42 42] 35)).heap.size=w.heap.size+1:=by simp
 rw [hW];exact ⟨(TAt.new w b0 b1 b2 b3).Ac (Ab _ _),hs ▸ Ai.new _ v nm k x y z e d,Bl _ _ _⟩
theorem Fw {x:ByteArray} (h:x.size=0):x=⟨#[]⟩:=ByteArray.ext (Array.eq_empty_of_size_eq_zero h)
theorem Fc {x:ByteArray} (h:¬ x.size=0):(x.toList == [])=false/\(x.toList != [])=true/\x.data.toList.isEmpty=false:=by
 have h1:=O6 h;refine ⟨h1,by rw [bne,h1];rfl,?_⟩;rw [List.isEmpty_eq_false_iff];exact Nw h
namespace Cmd
def N5 (v:Int) (nm:L):Bool:=if Iv v then Jv nm else nm.isEmpty
def U4 (v:Int) (k:Bool) (x y:L):Bool:=if v=2 then decide (Pth.Bo k x y=0) else if v=3 then decide (Pth.Bo k x y=0) && !k else !k && x.isEmpty && y.isEmpty
def Ad2 (v z:Int) (e d:Bool):Bool:=if v=2 then decide (-1<=z) && decide (z<=16777216) else decide (z=-1) && !e && !d
theorem Oc (v:Int) (nm:L) (k:Bool) (x y:L) (z:Int) (e d:Bool):right ⟨v,nm,k,x,y,z,e,d⟩=(!(word v).isEmpty && N5 v nm && U4 v k x y && Ad2 v z e d):=by
 have hw:(!(word v).isEmpty)=(decide (0<=v) && decide (v<=7)):=by
  rw [Bool.eq_iff_iff,Bool.not_eq_true',List.isEmpty_eq_false_iff,Ne,Aqj];simp
 rw [hw];unfold right N5 U4 Ad2;simp only;by_cases h2:v=2
 ·simp only [if_pos h2,Bool.and_assoc]
 ·by_cases h3:v=3
  · simp only [if_neg h2,if_pos h3,Bool.and_assoc]
  · simp only [if_neg h2,if_neg h3,Bool.and_assoc]
end Cmd
theorem V8 (v:Int) (nm:ByteArray) (k:Bool) (x y:ByteArray) (z:Int) (e d:Bool) (w:World) :
  Calls prog 22 #[.agg #[.int .i64 v,.string nm,.bool k,.string x,.string y,.int .i64 z,.bool e,.bool d]] w λr w'=>r=.returned (.bool (Cmd.N5 v nm.data.toList))/\Below w.heap.size w w':=by
 obtain ⟨R,hR⟩:∃ R,R=Cmd.N5 v nm.data.toList:=⟨_,rfl⟩
 rw [<- hR];have B0:=jH (Ab w (.cells #[.int .i64 v,.string nm,.bool k,.string x,.string y,.int .i64 z,.bool e,.bool d] 27));have hsl:nm.data.toList.length=nm.size:=by simp
 have K:=λW=>A6c nm W;unfold Cmd.N5 Cmd.Iv Cmd.Jv at hR;generalize nm.data.toList.all Cmd.Pz=a at hR K;have KK:=jH K;by_cases hv:v=0\/v=1
 ·rw [if_pos (by simpa using hv)] at hR;have h01:v=0\/(v ≠ 0/\v=1):=jO
  clear hv K;by_cases hE:nm.size=0
  ·obtain rfl:=Fw hE;have HR:=jH (show R=false by rw [hR];rfl);clear hR hsl hE KK;rcases h01 with rfl | ⟨hv0,rfl⟩
   all_goals
    go_enter func22,ntmps22;go_wp2;go_ret;exact ⟨by rw [HR.out];rfl,B0.out⟩
  ·obtain ⟨e1,e2,e3⟩:=Fc hE;rw [e3,hsl] at hR;by_cases hl:nm.size<=255
   ·have hz:(nm.size:Int)<=255:=jO
    rw [decide_eq_true hl] at hR;have HR:=jH (show R=a by rw [hR];cases a<;>rfl);clear hR hE hsl hl e3;rcases h01 with rfl | ⟨hv0,rfl⟩
    all_goals
     cases a
     all_goals
      go_enter func22,ntmps22;go_wp2_with fail;refine (KK.out _).mono ?_;rintro r w1 ⟨rfl,hb⟩;have BB:=jH (Aa B0.out hb);clear hb;go_wp2;go_ret;exact ⟨by rw [HR.out];rfl,BB.out⟩
   ·have hz:¬ (nm.size:Int)<=255:=jO
    rw [decide_eq_false hl] at hR;have HR:=jH (show R=false by rw [hR];rfl);clear hR hE hsl hl e3 KK;rcases h01 with rfl | ⟨hv0,rfl⟩
    all_goals
     go_enter func22,ntmps22;go_wp2;go_ret;exact ⟨by rw [HR.out];rfl,B0.out⟩
 ·rw [if_neg (by simpa using hv)] at hR;have h0:v ≠ 0:=λh=>hv (.inl h);have h1:v ≠ 1:=λh=>hv (.inr h);clear hv K KK hsl;by_cases hE:nm.size=0
  ·obtain rfl:=Fw hE;have HR:=jH (show R=true by rw [hR];rfl);clear hR hE;go_enter func22,ntmps22;go_wp2;go_ret;exact ⟨by rw [HR.out];rfl,B0.out⟩
  ·obtain ⟨e1,e2,e3⟩:=Fc hE;have HR:=jH (show R=false by rw [hR,e3]);clear hR hE e3;go_enter func22,ntmps22;go_wp2;go_ret;exact ⟨by rw [HR.out];rfl,B0.out⟩
theorem Ala (t:Value) (v:Int) (nm:ByteArray) (k:Bool) (x y:ByteArray) (z:Int) (e d:Bool) (w:World) (hT:Table w t) (hx:x.size<=100000) (hy:Cx y) :
  Calls prog 23 #[t,.agg #[.int .i64 v,.string nm,.bool k,.string x,.string y,.int .i64 z,.bool e,.bool d]] w λr w'=>r=.returned (.bool (Cmd.U4 v k x.data.toList y.data.toList))/\Below w.heap.size w w':=by
 obtain ⟨R,hR⟩:∃ R,R=Cmd.U4 v k x.data.toList y.data.toList:=⟨_,rfl⟩
 rw [<- hR];have hT0:=hT;obtain ⟨b0,b1,b2,b3,rfl,-,-,-,-⟩:=hT0;obtain ⟨B,hB⟩:∃ B,w.heap.size=B:=⟨_,rfl⟩
 obtain ⟨W0,hW0⟩:∃ W0,W0=(w.alloc (.cells #[.slice (some ⟨b0,0,none⟩) 74 74,.slice (some ⟨b1,0,none⟩) 10 10,.slice (some ⟨b2,0,none⟩) 11 11,.slice (some ⟨b3,0,none⟩) 42 42] 35)).alloc (.cells #[.int .i64 v,.string nm,.bool k,.string x,.string y,.int .i64 z,.bool e,.bool d] 27):=⟨_,rfl⟩
 obtain ⟨-,C0,B0⟩:=Afj hB b0 b1 b2 b3 v nm k x y z e d hW0;have HW0:=jH hW0.symm;have BB:=jH B0;have CA:=jH C0;unfold Cmd.U4 at hR;obtain ⟨E,hE⟩:∃ E,Pth.Bo k x.data.toList y.data.toList=E:=⟨_,rfl⟩
 have KR:=jH (Agm _ k x y W0 (hT.below B0) hx hy hE);rw [hE] at hR;clear hT hy hx hE B0 C0 hW0;by_cases h2:v=2
 ·subst h2;rw [if_pos rfl] at hR;by_cases h0:E=0
  ·subst h0;have HR:=jH (show R=true from hR);clear hR;go_enter func23,ntmps23;go_wp2_with fail;rw [HW0.out];refine KR.out.mono ?_;rintro r w1 ⟨rfl,hb⟩;replace BB:=jH (Aa BB.out hb);clear hb;go_wp2;go_ret;exact ⟨by rw [HR.out];rfl,BB.out⟩
  ·have HR:=jH (show R=false by rw [hR,decide_eq_false h0]);have h0':(E == 0)=false:=beq_eq_false_iff_ne.2 h0;clear hR h0;go_enter func23,ntmps23;go_wp2_with fail;rw [HW0.out];refine KR.out.mono ?_;rintro r w1 ⟨rfl,hb⟩;replace BB:=jH (Aa BB.out hb);clear hb;go_wp2;go_ret;exact ⟨by rw [HR.out];rfl,BB.out⟩
 by_cases h3:v=3
 ·subst h3;rw [if_neg jD,if_pos rfl] at hR;by_cases h0:E=0
  ·subst h0;have HR:=jH (show R=!k by rw [hR];cases k<;>rfl);clear hR h2;cases k
   all_goals
    go_enter func23,ntmps23;go_wp2_with fail;rw [HW0.out];refine KR.out.mono ?_;rintro r w1 ⟨rfl,hb⟩;replace BB:=jH (Aa BB.out hb);obtain ⟨-,-,c2,-⟩:=(CA.out.Ac hb).all;clear hb;go_wp2;go_ret;exact ⟨by rw [HR.out];rfl,BB.out⟩
  ·have HR:=jH (show R=false by rw [hR,decide_eq_false h0];rfl);have h0':(E == 0)=false:=beq_eq_false_iff_ne.2 h0;clear hR h0 h2;go_enter func23,ntmps23;go_wp2_with fail;rw [HW0.out];refine KR.out.mono ?_;rintro r w1 ⟨rfl,hb⟩;replace BB:=jH (Aa BB.out hb);clear hb;go_wp2;go_ret;exact ⟨by rw [HR.out];rfl,BB.out⟩
 ·rw [if_neg h2,if_neg h3] at hR;clear KR;by_cases hx0:x.size=0
  ·obtain rfl:=Fw hx0;by_cases hy0:y.size=0
   ·obtain rfl:=Fw hy0;have HR:=jH (show R=!k by rw [hR];cases k<;>rfl);clear hR hx0 hy0;cases k
    all_goals
     go_enter func23,ntmps23;go_wp2;rw [HW0.out];go_ret;exact ⟨by rw [HR.out];rfl,BB.out⟩
   ·obtain ⟨e1,e2,e3⟩:=Fc hy0;have HR:=jH (show R=false by rw [hR,e3];simp);clear hR hx0 hy0 e3;cases k
    all_goals
     go_enter func23,ntmps23;go_wp2;rw [HW0.out];go_ret;exact ⟨by rw [HR.out];rfl,BB.out⟩
  ·obtain ⟨e1,e2,e3⟩:=Fc hx0;have HR:=jH (show R=false by rw [hR,e3];simp);clear hR hx0 e3;cases k
   all_goals
    go_enter func23,ntmps23;go_wp2;rw [HW0.out];go_ret;exact ⟨by rw [HR.out];rfl,BB.out⟩
theorem Ak9 (v:Int) (nm:ByteArray) (k:Bool) (x y:ByteArray) (z:Int) (e d:Bool) (w:World) :
  Calls prog 24 #[.agg #[.int .i64 v,.string nm,.bool k,.string x,.string y,.int .i64 z,.bool e,.bool d]] w λr w'=>r=.returned (.bool (Cmd.Ad2 v z e d))/\Below w.heap.size w w':=by
 have B0:=jH (Ab w (.cells #[.int .i64 v,.string nm,.bool k,.string x,.string y,.int .i64 z,.bool e,.bool d] 27));obtain ⟨R,hR⟩:∃ R,R=Cmd.Ad2 v z e d:=⟨_,rfl⟩
 rw [<- hR];unfold Cmd.Ad2 at hR;by_cases h2:v=2
 ·subst h2;rw [if_pos rfl] at hR;cases h1:decide (-1<=z)<;>cases h3:decide (z<=16777216)
  all_goals
   rw [h1,h3] at hR;have HR:=jH hR;clear hR;go_enter func24,ntmps24;go_wp2;go_ret;exact ⟨by rw [HR.out];rfl,B0.out⟩
 ·rw [if_neg h2] at hR;have h2':(v == 2)=false:=beq_eq_false_iff_ne.2 h2;by_cases hz:z=-1
  ·subst hz;cases e<;>cases d
   all_goals
    have HR:=jH hR;clear hR;go_enter func24,ntmps24;go_wp2;go_ret;exact ⟨by rw [HR.out];rfl,B0.out⟩
  ·have hz':(z == -1)=false:=beq_eq_false_iff_ne.2 hz;rw [decide_eq_false hz] at hR;have HR:=jH hR;clear hR;go_enter func24,ntmps24;go_wp2;go_ret;exact ⟨by rw [HR.out];rfl,B0.out⟩
theorem A4i (t:Value) (v:Int) (nm:ByteArray) (k:Bool) (x y:ByteArray) (z:Int) (e d:Bool) (w:World) (hT:D3 w t) (hx:x.size<=100000) (hy:Cx y) :
  Calls prog 10 #[t,.agg #[.int .i64 v,.string nm,.bool k,.string x,.string y,.int .i64 z,.bool e,.bool d]] w λr w'=>r=.returned (.bool (Cmd.right ⟨v,nm.data.toList,k,x.data.toList,y.data.toList,z,e,d⟩))/\Below w.heap.size w w':=by
 obtain ⟨R,hR⟩:∃ R,R=Cmd.right ⟨v,nm.data.toList,k,x.data.toList,y.data.toList,z,e,d⟩:=⟨_,rfl⟩
 rw [<- hR];rw [Cmd.Oc] at hR;have hT0:=hT.1;obtain ⟨b0,b1,b2,b3,rfl,-,-,-,-⟩:=hT0;obtain ⟨B,hB⟩:∃ B,w.heap.size=B:=⟨_,rfl⟩
 obtain ⟨W0,hW0⟩:∃ W0,W0=(w.alloc (.cells #[.slice (some ⟨b0,0,none⟩) 74 74,.slice (some ⟨b1,0,none⟩) 10 10,.slice (some ⟨b2,0,none⟩) 11 11,.slice (some ⟨b3,0,none⟩) 42 42] 35)).alloc (.cells #[.int .i64 v,.string nm,.bool k,.string x,.string y,.int .i64 z,.bool e,.bool d] 27):=⟨_,rfl⟩
 obtain ⟨T0,C0,B0⟩:=Afj hB b0 b1 b2 b3 v nm k x y z e d hW0;have HW0:=jH hW0.symm;have KW:=jH (Aqi v W0 (hT.2.Ac B0));have KN:=jH (λW=>V8 v nm k x y z e d W);have KP:=jH (λW (h:Below W0.heap.size W0 W)=>Ala _ v nm k x y z e d W ((hT.1.below B0).below h) hx hy);have KQ:=jH (λW=>Ak9 v nm k x y z e d W);have TT:=jH T0;have CA:=jH C0;have BB:=jH B0;have B1:=jH (jan W0.heap.size W0);clear hT hx hy T0 C0 B0 hW0;obtain ⟨T,hTw⟩:∃ T:ByteArray,T=⟨(Cmd.word v).toArray⟩:=⟨_,rfl⟩
 rw [<- hTw] at KW;have hwe:(Cmd.word v).isEmpty=T.data.toList.isEmpty:=by rw [hTw]
 rw [hwe] at hR;clear hTw hwe;by_cases hT0:T.size=0
 ·obtain rfl:=Fw hT0;have HR:=jH (show R=false by rw [hR];rfl);clear hR hT0;go_enter func10,ntmps10;go_wp2_with fail;rw [HW0.out];refine KW.out.mono ?_;rintro r w1 ⟨rfl,rfl⟩;go_wp2;go_ret;exact ⟨by rw [HR.out];rfl,BB.out⟩
 obtain ⟨e1,e2,e3⟩:=Fc hT0;rw [e3] at hR;clear hT0 e3;generalize Cmd.N5 v nm.data.toList=a at hR KN;generalize Cmd.U4 v k x.data.toList y.data.toList=p at hR KP;generalize Cmd.Ad2 v z e d=q at hR KQ;cases a
 ·have HR:=jH (show R=false by rw [hR];rfl);clear hR;go_enter func10,ntmps10;go_wp2_with fail;rw [HW0.out];refine KW.out.mono ?_;rintro r w1 ⟨rfl,rfl⟩;obtain ⟨c0,c1,c2,c3,c4,c5,c6,c7⟩:=CA.out.all;go_wp2_with fail;refine (KN.out _).mono ?_;rintro r w2 ⟨rfl,hb⟩;replace BB:=jH (Aa BB.out hb);clear hb c0 c1 c2 c3 c4 c5 c6 c7;go_wp2;go_ret;exact ⟨by rw [HR.out];rfl,BB.out⟩
 cases p
 ·have HR:=jH (show R=false by rw [hR];rfl);clear hR;go_enter func10,ntmps10;go_wp2_with fail;rw [HW0.out];refine KW.out.mono ?_;rintro r w1 ⟨rfl,rfl⟩;obtain ⟨c0,c1,c2,c3,c4,c5,c6,c7⟩:=CA.out.all;go_wp2_with fail;refine (KN.out _).mono ?_;rintro r w2 ⟨rfl,hb⟩;replace BB:=jH (Aa BB.out hb);replace B1:=jH (B1.out.trans (hb.mono (jaa _)));replace CA:=jH (CA.out.Ac hb);replace TT:=jH (TT.out.Ac hb);clear hb c0 c1 c2 c3 c4 c5 c6 c7;obtain ⟨t0,t1,t2,t3⟩:=TT.out.all;obtain ⟨c0,c1,c2,c3,c4,c5,c6,c7⟩:=CA.out.all;go_wp2_with fail;refine (KP.out _ B1.out).mono ?_;rintro r w3 ⟨rfl,hb⟩;replace BB:=jH (Aa BB.out hb);clear hb c0 c1 c2 c3 c4 c5 c6 c7 t0 t1 t2 t3;go_wp2;go_ret;exact ⟨by rw [HR.out];rfl,BB.out⟩
 ·have HR:=jH (show R=q by rw [hR];cases q<;>rfl);clear hR;go_enter func10,ntmps10;go_wp2_with fail;rw [HW0.out];refine KW.out.mono ?_;rintro r w1 ⟨rfl,rfl⟩;obtain ⟨c0,c1,c2,c3,c4,c5,c6,c7⟩:=CA.out.all;go_wp2_with fail;refine (KN.out _).mono ?_;rintro r w2 ⟨rfl,hb⟩;replace BB:=jH (Aa BB.out hb);replace B1:=jH (B1.out.trans (hb.mono (jaa _)));replace CA:=jH (CA.out.Ac hb);replace TT:=jH (TT.out.Ac hb);clear hb c0 c1 c2 c3 c4 c5 c6 c7;obtain ⟨t0,t1,t2,t3⟩:=TT.out.all;obtain ⟨c0,c1,c2,c3,c4,c5,c6,c7⟩:=CA.out.all;go_wp2_with fail;refine (KP.out _ B1.out).mono ?_;rintro r w3 ⟨rfl,hb⟩;replace BB:=jH (Aa BB.out hb);replace CA:=jH (CA.out.Ac hb);clear hb c0 c1 c2 c3 c4 c5 c6 c7 t0 t1 t2 t3;obtain ⟨c0,c1,c2,c3,c4,c5,c6,c7⟩:=CA.out.all;go_wp2_with fail;refine (KQ.out _).mono ?_;rintro r w4 ⟨rfl,hb⟩;replace BB:=jH (Aa BB.out hb);clear hb c0 c1 c2 c3 c4 c5 c6 c7;go_wp2;go_ret;exact ⟨by rw [HR.out];rfl,BB.out⟩
end
