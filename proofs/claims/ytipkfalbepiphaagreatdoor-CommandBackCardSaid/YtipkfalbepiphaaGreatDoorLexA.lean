import Derived.Test.YtipkfalbepiphaaGreatDoorLexPl
import Derived.Lib.Bytealg
import Derived.BigGuard
import Derived.Lib.Strings
set_option maxRecDepth 100000
set_option maxHeartbeats 4000000
namespace Go.Proofs.YtipkfalbepiphaaGreatDoor
open Tryz
section
open Go.RowKit Utf
namespace Lex
def Tok.v (k:Tok):Value:=.agg #[.int .i64 k.kind,.string ⟨k.text.toArray⟩,.int .i64 k.place]
def Tok.cs (k:Tok):List Value:=[.int .i64 k.kind,.string ⟨k.text.toArray⟩,.int .i64 k.place]
def cells (ts:List Tok):List Value:=ts.flatMap Tok.cs
theorem Ah9:∀ (ts:List Tok) (i:Nat),i<ts.length->(cells ts)[i*3]? = some (.int .i64 (nth ts i).kind)/\(cells ts)[i*3+1]? = some (.string ⟨(nth ts i).text.toArray⟩)/\(cells ts)[i*3+2]? = some (.int .i64 (nth ts i).place)
 | [],_,h=>absurd h (Nat.not_lt_zero _)
 | k::ts,0,_=>⟨rfl,rfl,rfl⟩
 | k::ts,i+1,h=>by
  rw [jac] at h;obtain ⟨h1,h2,h3⟩:=Ah9 ts i jO;have e:∀ j,(cells (k::ts))[j+3]? = (cells ts)[j]?:=λj=>by
   show ([Value.int .i64 k.kind,.string ⟨k.text.toArray⟩,.int .i64 k.place] ++ cells ts)[j+3]? = _;rw [List.getElem?_append_right jS];rfl
  rw [A0i,show (i+1)*3=i*3+3 by omega,show i*3+3+1=(i*3+1)+3 by omega,show i*3+3+2=(i*3+2)+3 by omega,e,e,e];exact ⟨h1,h2,h3⟩
theorem Asw (a b:List Tok):cells (a ++ b)=cells a ++ cells b:=by unfold cells;rw [List.flatMap_append]
end Lex
open Lex (Tok)
def A44 (g o:Nat) (k:Tok) (w:World):Prop:=w.cell? ⟨g,o,none⟩=some (.int .i64 k.kind)/\w.cell? ⟨g,o+1,none⟩=some (.string ⟨k.text.toArray⟩)/\w.cell? ⟨g,o+2,none⟩=some (.int .i64 k.place)
def Abc (v:Value) (ts:List Tok) (w:World):Prop :=
 ∃ (A:Option Addr) (c:Nat),v=.slice A ts.length c/\ts.length<=c/\(0<ts.length->∃ g o,A=some ⟨g,o,none⟩/\g<w.heap.size/\∀ i,i<ts.length->A44 g (o+i*3) (Lex.nth ts i) w)
theorem Abc.nil (w:World):Abc (.slice none 0 0) [] w:=⟨none,0,rfl,jaa _,λh=>absurd h jS⟩
def Nh (base:Nat) (v:Value) (ts:List Tok) (w:World):Prop:=w.ownsRow base 83 3 v ts.length (Lex.cells ts)
theorem Nh.nil (base:Nat) (w:World):Nh base (.slice none 0 0) [] w:=World.ownsRow_nil w base _ _
theorem Nh.shape {base:Nat} {v:Value} {ts:List Tok} {w:World} (h:Nh base v ts w):∃ (A:Option Addr) (c:Nat),v=.slice A ts.length c/\ts.length<=c/\(0<ts.length->∃ g,A=some ⟨g,0,none⟩/\base<=g/\g<w.heap.size):=by
 rcases h.2 with ⟨rfl,h0⟩ | ⟨g,cap,cur,rfl,hb,hg,hnc,hcm,hcs,hcur⟩
 · exact ⟨none,0,by rw [h0],by omega,λhp=>by omega⟩
 · exact ⟨some ⟨g,0,none⟩,cap,rfl,hnc,λ_=>⟨g,rfl,hb,(World.ownsRow.lt h g rfl).2⟩⟩
theorem Nh.cell {base g n c:Nat} {ts:List Tok} {w:World} (h:Nh base (.slice (some ⟨g,0,none⟩) n c) ts w) (i:Nat) (hi:i<ts.length):A44 g (i*3) (Lex.nth ts i) w:=by
 have hn:n=ts.length:=by
  rcases h.2 with ⟨h0,-⟩ | ⟨g',cap,cur,h0,-⟩
  · cases h0
  · injection h0
 subst hn;obtain ⟨h1,h2,h3⟩:=Lex.Ah9 ts i hi;exact ⟨(World.ownsRow.cellAt h (i*3) jO).trans h1,(World.ownsRow.cellAt h (i*3+1) jO).trans h2,(World.ownsRow.cellAt h (i*3+2) jO).trans h3⟩
theorem Nh.Aha {base:Nat} {v:Value} {ts:List Tok} {w:World} (h:Nh base v ts w):Abc v ts w:=by
 obtain ⟨A,c,rfl,hc,hs⟩:=h.shape;refine ⟨A,c,rfl,hc,λhp=>?_⟩;obtain ⟨g,rfl,-,hg⟩:=hs hp;exact ⟨g,0,rfl,hg,λi hi=>by rw [Nat.zero_add];exact h.cell i hi⟩
theorem Nh.Ac {base:Nat} {v:Value} {ts:List Tok} {w w':World} (h:Nh base v ts w) (hb:Below w.heap.size w w'):Nh base v ts w':=by
 have hlt:=World.ownsRow.lt h;refine ⟨h.1,?_⟩;rcases h.2 with h0 | ⟨g,cap,cur,rfl,h1,hg,h2⟩
 · exact .inl h0
 · exact .inr ⟨g,cap,cur,rfl,h1,(hb.block g (hlt g rfl).2).trans hg,h2⟩
theorem Azf:(Tryz.prog.info? 83).map (λi=>(i.zero,i.size,i.bytes))=some (some (.agg #[.int .i64 0,.string ⟨#[]⟩,.int .i64 0]),3,32):=by kernel_rfl
theorem Amp (W:World) (base:Nat) (v:Value) (ts:List Tok) (hown:Nh base v ts W) (hbase:base<=W.heap.size) (hlen:ts.length<=1000000) (k:Tok)
  (N:Nat) (hN:N=W.heap.size)
  {ops:Array Oper} {rest:List Oper} {o:Oper} {a:Act} {Q:Exit->Act->World->Prop} (hgd:o.guard=none) (s y:Operand)
  (ho:o.op=.call { callee:=.builtin .append,args:=#[s,y],argTypes:=#[163,163] })
  (hs:a.eval s=v) (hx:a.eval y=.slice (some ⟨N,0,none⟩) 1 1)
  (h:∀ v' w',Nh base v' (ts ++ [k]) w'->Below base W w'->wpList prog ops Q rest (a.put o.dst v') w'):wpList prog ops Q (o::rest) a (W.alloc (.cells #[.int .i64 k.kind,.string ⟨k.text.toArray⟩,.int .i64 k.place] 83)):=by
 subst hN;obtain ⟨i0,hi0,hz0,hs0,hb0⟩:=info_parts Azf;have hown':=World.ownsRow.alloc hown (.cells #[.int .i64 k.kind,.string ⟨k.text.toArray⟩,.int .i64 k.place] 83);refine wpList_append_own _ hgd s y 163 ho base 83 i0 (.agg #[.int .i64 0,.string ⟨#[]⟩,.int .i64 0]) 3 32 underlying163 hi0 hz0 hs0 hb0 rfl jD v ts.length (Lex.cells ts) hs hown' ⟨W.heap.size,0,none⟩ 1 1 (Lex.Tok.cs k) hx rfl ?_ (λu hu=>?_) (by simp only [maxLen];omega) jO (by simp;omega) ?_
 ·intro j u hj;have e:(⟨W.heap.size,0,none⟩:Addr).add j=⟨W.heap.size,j,none⟩:=by unfold Addr.add;split<;>simp_all
  have hj':j<3:=(List.getElem?_eq_some_iff.1 hj).1;rw [e,World.cell?_alloc_at _ _ _ _ jS];rw [<- hj];rcases j with _ | _ | _ | j
  · rfl
  · rfl
  · rfl
  · omega
 ·unfold Lex.Tok.cs at hu;simp only [jal,List.not_mem_nil,or_false] at hu;rcases hu with rfl | rfl | rfl<;>rfl
 ·intro v' w' ho' hg _;refine h v' w' ?_ (((jan _ W).alloc hbase _).grown hg (by simp;omega) λk hk=>(World.ownsRow.lt hown' k hk).1);unfold Nh;rw [jab,Lex.Asw,show Lex.cells [k]=Lex.Tok.cs k by unfold Lex.cells;simp];exact ho'
end
section
open Go.RowKit Utf
open Lex (Tok)
def Rc (E:Int) (p:Nat) (ts:List Tok) (w:World) (e:Ending) (w':World):Prop :=
 ∃ (A:Option Addr) (c:Nat),e=.returned (.tuple #[.slice A ts.length c,.int .i64 p,.int .i64 E])/\Abc (.slice A ts.length c) ts w'/\Below w.heap.size w w'
theorem Ml {E:Int} {p:Nat} {ts:List Tok} {w w':World} {e:Ending} {v:Value} (he:e=.returned (.tuple #[v,.int .i64 p,.int .i64 E])) (hT:Abc v ts w') (hb:Below w.heap.size w w'):Rc E p ts w e w':=by
 obtain ⟨A,c,rfl,h⟩:=hT;exact ⟨A,c,he,⟨A,c,rfl,h⟩,hb⟩
structure Axg:Prop where
 lex:∀ (s:ByteArray) (w:World),s.size<=100000->Calls prog 105 #[.string s] w (Rc (Lex.Ee s.data.toList).1 (Lex.Ee s.data.toList).2.1 (Lex.Ee s.data.toList).2.2 w)
 source:∀ (k p:Int) (s:ByteArray) (w:World),s.size<=100000->Calls prog 44 #[.agg #[.int .i64 k,.string s,.int .i64 p]] w λe w'=>e=.returned (.string ⟨(Lex.Co k s.data.toList).toArray⟩)/\Below w.heap.size w w'
 plain:∀ (s:ByteArray) (w:World),s.size<=100000->Calls prog 59 #[.string s] w λe w'=>e=.returned (.bool (Lex.Fg s.data.toList))/\Below w.heap.size w w'
 words:∀ (s:ByteArray) (w:World),s.size<=100000->Calls prog 43 #[.string s] w λe w'=>e=.returned (.bool (Lex.Df s.data.toList))/\Below w.heap.size w w'
theorem Axg.A59 (B:Axg) (s:ByteArray) (w:World) (hs:s.size<=100000) {E:Int} {p:Nat} {ts:List Tok} (hx:Lex.Ee s.data.toList=(E,p,ts)):Calls prog 105 #[.string s] w (Rc E p ts w):=by
 have:=B.lex s w hs;rwa [hx] at this
end
section
open Go.RowKit Utf
theorem Kh (s:ByteArray) (c:UInt8) (w:World):Calls prog 168 #[.string s,.int .u8 (c.toNat:Int)] w λe w'=>e=.returned (.int .i64 (Lib.indexByte s.data.toList c))/\w=w':=by
 go_enter func168,ntmps168;go_wp2;rw [run_callFunc_extern func199 jK jK jK (e:=Extern.BytealgIndexByte.indexByte) jK,Lib.run_indexByteString,Int.toNat_natCast,show c.toNat.toUInt8=c from UInt8.ofNat_toNat];simp only [Result.andThen];rw [Oper.upon_value];go_wp2;go_ret;exact ⟨rfl,rfl⟩
theorem Hy (s:ByteArray) (c:UInt8) (w:World):Calls prog 142 #[.string s,.int .u8 (c.toNat:Int)] w λe w'=>e=.returned (.int .i64 (Lib.indexByte s.data.toList c))/\w=w':=by
 go_enter func142,ntmps142;go_wp2_with (go_at_call 168;with_reducible refine (Kh s c w).mono ?_;rintro e w' ⟨rfl,rfl⟩);go_ret;exact ⟨rfl,rfl⟩
namespace Lex
theorem I9:∀ (l:List UInt8) (c:UInt8),decide (0<=Lib.indexByte l c)=l.contains c
 | [],_=>rfl
 | b::l,c=>by
  have ih:=I9 l c;have hge:=Lib.indexByte_ge l c;rw [List.contains_cons,<- ih,show Lib.indexByte (b::l) c=if b == c then 0 else if Lib.indexByte l c == -1 then -1 else Lib.indexByte l c+1 from rfl];by_cases h:b=c
  ·subst h;simp
  ·have h1:(b == c)=false:=by simpa using h
   have h2:(c == b)=false:=by simpa using λe=>h e.symm
   rw [h1,h2];simp only [Bool.false_eq_true,if_false,Bool.false_or];split
   ·rename_i h3
    have:Lib.indexByte l c=-1:=by simpa using h3
    rw [this]
   ·rename_i h3
    have:Lib.indexByte l c ≠ -1:=by simpa using h3
    rw [decide_eq_decide];omega
end Lex
theorem Nu (b:UInt8) (w:World):Calls prog 194 #[.int .u8 (b.toNat:Int)] w λe w'=>e=.returned (.bool (Lex.Bm b))/\w=w':=by
 have hb:=Dq b;unfold Lex.Bm Lex.E8;generalize b.toNat=n at hb ⊢;by_cases h1:n=32
 ·subst h1;go_enter func194,ntmps194;go_wp2;go_ret;exact ⟨rfl,rfl⟩
 ·by_cases h2:n=9
  ·subst h2;go_enter func194,ntmps194;go_wp2;go_ret;exact ⟨rfl,rfl⟩
  ·have e1:((n:Int) == 32)=false:=by simpa using (by omega:¬ (n:Int)=32)
   have e2:((n:Int) == 9)=false:=by simpa using (by omega:¬ (n:Int)=9)
   have e3:(n == 32 || n == 9)=false:=by simp [h1,h2]
   rw [e3];clear h1 h2 e3;go_enter func194,ntmps194;go_wp2;go_ret;exact ⟨rfl,rfl⟩
theorem Px (b:UInt8) (w:World):Calls prog 193 #[.int .u8 (b.toNat:Int)] w λe w'=>e=.returned (.bool (Lex.Em b.toNat))/\w=w':=by
 have hb:=Dq b;unfold Lex.Em;generalize b.toNat=n at hb ⊢;obtain ⟨x,hx⟩:∃ x,x=(decide (33<=n) && decide (n<=126) || decide (128<=n)):=⟨_,rfl⟩
 rw [<- hx];have d1:decide ((33:Int)<=(n:Int))=decide (33<=n):=decide_eq_decide.2 jO;have d2:decide ((n:Int)<=126)=decide (n<=126):=decide_eq_decide.2 jO;have d3:decide ((128:Int)<=(n:Int))=decide (128<=n):=decide_eq_decide.2 jO;rcases Nat.lt_or_ge n 33 with h | h
 ·rw [decide_eq_false (show ¬ 33<=n by omega)] at d1 hx;rw [decide_eq_true (show n<=126 by omega)] at d2 hx;rw [decide_eq_false (show ¬ 128<=n by omega)] at d3 hx;subst hx;clear h;go_enter func193,ntmps193;go_wp2;go_ret;exact ⟨rfl,rfl⟩
 ·rcases Nat.lt_or_ge 126 n with h2 | h2
  ·rw [decide_eq_true h] at d1 hx;rw [decide_eq_false (show ¬ n<=126 by omega)] at d2 hx;rcases Nat.lt_or_ge n 128 with h3 | h3
   ·rw [decide_eq_false (show ¬ 128<=n by omega)] at d3 hx;subst hx;clear h h2 h3;go_enter func193,ntmps193;go_wp2;go_ret;exact ⟨rfl,rfl⟩
   ·rw [decide_eq_true h3] at d3 hx;subst hx;clear h h2 h3;go_enter func193,ntmps193;go_wp2;go_ret;exact ⟨rfl,rfl⟩
  ·rw [decide_eq_true h] at d1 hx;rw [decide_eq_true h2] at d2 hx;have:x=true:=by rw [hx];rfl
   subst this;clear h h2 hx d3;go_enter func193,ntmps193;go_wp2;go_ret;exact ⟨rfl,rfl⟩
theorem Y2 (b:UInt8) (w:World):Calls prog 192 #[.int .u8 (b.toNat:Int)] w λe w'=>e=.returned (.bool (Lex.Aw b))/\w=w':=by
 have K1:=Nu b w;have K2:=Px b w;unfold Lex.Bm at K1;unfold Lex.Aw Lex.Ai3;generalize Lex.E8 b.toNat=x at K1 ⊢;generalize Lex.Em b.toNat=y at K2 ⊢;generalize (b.toNat:Int)=n at K1 K2 ⊢;cases x
 ·go_enter func192,ntmps192;go_wp2_with (first | (go_at_call 194;with_reducible refine K1.mono ?_;rintro e w1 ⟨rfl,rfl⟩) | (go_at_call 193;with_reducible refine K2.mono ?_;rintro e w1 ⟨rfl,rfl⟩));go_ret;exact ⟨rfl,rfl⟩
 ·go_enter func192,ntmps192;go_wp2_with (first | (go_at_call 194;with_reducible refine K1.mono ?_;rintro e w1 ⟨rfl,rfl⟩));go_ret;exact ⟨rfl,rfl⟩
namespace Lex
def Ahv:List UInt8:=[33,35,36,37,38,39,42,43,45,47,61,63,94,95,96,123,124,125,126]
def Alk:List UInt8:=[60,62,58,59,64,44,46]
theorem Axv (c:UInt8):Ahv.contains c=[33,35,36,37,38,39,42,43,45,47,61,63,94,95,96,123,124,125,126].contains c.toNat:=by
 have h:=Dl (p:=λc=>Ahv.contains c == [33,35,36,37,38,39,42,43,45,47,61,63,94,95,96,123,124,125,126].contains c.toNat) (by decide +kernel) c;simpa using h
theorem A1o (c:UInt8):Alk.contains c=D9 c.toNat:=by
 have h:=Dl (p:=λc=>Alk.contains c == D9 c.toNat) (by decide +kernel) c;simpa using h
end Lex
theorem Yy (b:UInt8) (w:World):Calls prog 114 #[.int .u8 (b.toNat:Int)] w λe w'=>e=.returned (.bool (Lex.Al b))/\w=w':=by
 have hb:=Dq b;have K:=Hy ⟨#[33,35,36,37,38,39,42,43,45,47,61,63,94,95,96,123,124,125,126]⟩ b w;have hi:=Lex.I9 Lex.Ahv b;rw [Lex.Axv] at hi;rw [show (ByteArray.mk #[33,35,36,37,38,39,42,43,45,47,61,63,94,95,96,123,124,125,126]).data.toList=Lex.Ahv from rfl] at K;unfold Lex.Al Lex.Vq;generalize Lib.indexByte Lex.Ahv b=i at K hi;generalize b.toNat=n at hb K hi ⊢;generalize [33,35,36,37,38,39,42,43,45,47,61,63,94,95,96,123,124,125,126].contains n=z at hi ⊢;obtain ⟨x,hx⟩:∃ x,x=(decide (128<=n) || decide (97<=n) && decide (n<=122) || decide (65<=n) && decide (n<=90) || decide (48<=n) && decide (n<=57) || z):=⟨_,rfl⟩
 rw [<- hx];have e1:decide ((97:Int)<=(n:Int))=decide (97<=n):=decide_eq_decide.2 jO;have e2:decide ((n:Int)<=122)=decide (n<=122):=decide_eq_decide.2 jO;have e3:decide ((65:Int)<=(n:Int))=decide (65<=n):=decide_eq_decide.2 jO;have e4:decide ((n:Int)<=90)=decide (n<=90):=decide_eq_decide.2 jO;have e5:decide ((48:Int)<=(n:Int))=decide (48<=n):=decide_eq_decide.2 jO;have e6:decide ((n:Int)<=57)=decide (n<=57):=decide_eq_decide.2 jO;have e7:decide ((128:Int)<=(n:Int))=decide (128<=n):=decide_eq_decide.2 jO;have K:=jH K;cases d1:decide (97<=n)<;>cases d2:decide (n<=122)<;>cases d3:decide (65<=n)<;>cases d4:decide (n<=90)<;>cases d5:decide (48<=n)<;>cases d6:decide (n<=57)<;>cases d7:decide (128<=n) <;>
  (try (exfalso;clear e1 e2 e3 e4 e5 e6 e7 hx K hi;simp only [decide_eq_true_eq,decide_eq_false_iff_not] at d1 d2 d3 d4 d5 d6 d7;omega))
 all_goals
  rw [d1] at e1;rw [d2] at e2;rw [d3] at e3;rw [d4] at e4;rw [d5] at e5;rw [d6] at e6;rw [d7] at e7;rw [d1,d2,d3,d4,d5,d6,d7] at hx;clear d1 d2 d3 d4 d5 d6 d7 hb;subst hx
 all_goals
  go_enter func114,ntmps114;go_wp2_with (go_at_call 142;with_reducible refine K.out.mono ?_;rintro e w1 ⟨rfl,rfl⟩);go_ret;exact ⟨rfl,rfl⟩
end
section
open Go.RowKit Utf
namespace Lex
def Rl:List UInt8->Nat
 | []=>0
 | c::_=>if Al c then 1 else 0
def Cw:List UInt8->Nat
 | []=>0
 | c::t =>
  if Bm c then 1
  else match t with
   | d::e::_=>if c.toNat=13/\d.toNat=10/\Bm e=true then 3 else 0
   | _=>0
def run (n:List UInt8->Nat):Nat->List UInt8->Nat
 | 0,_=>0
 | f+1,l=>if n l=0 then 0 else n l+run n f (l.drop (n l))
theorem Tb {n:List UInt8->Nat} (hn:∀ l,n l<=l.length):∀ (f g:Nat) (l:List UInt8),l.length<=f->l.length<=g->run n f l=run n g l
 | 0,g,l,h,_=>by
  have h0:n l=0:=by have:=hn l;omega
  cases g with
  | zero=>rfl
  | succ g=>unfold run;rw [if_pos h0]
 | f+1,0,l,_,h=>by
  have h0:n l=0:=by have:=hn l;omega
  unfold run;rw [if_pos h0]
 | f+1,g+1,l,h1,h2=>by
  unfold run;split
  ·rfl
  ·rename_i h0
   rw [Tb hn f g _ (by rw [jaj];omega) (by rw [jaj];omega)]
theorem Aps {n:List UInt8->Nat} (hn:∀ l,n l<=l.length) {l:List UInt8} (h:n l ≠ 0):run n l.length l=n l+run n (l.drop (n l)).length (l.drop (n l)):=by
 have h2:=hn l;rw [Tb hn l.length (l.length+1) l (jaa _) jO];show (if n l=0 then 0 else n l+run n l.length (l.drop (n l)))=_;rw [if_neg h,Tb hn l.length (l.drop (n l)).length (l.drop (n l)) (by rw [jaj];omega) (jaa _)]
theorem Agz {n:List UInt8->Nat} (hn:∀ l,n l<=l.length) {l:List UInt8} (h:n l=0):run n l.length l=0:=by
 rw [Tb hn l.length (l.length+1) l (jaa _) jO];show (if n l=0 then 0 else n l+run n l.length (l.drop (n l)))=_;rw [if_pos h]
theorem Rm (l:List UInt8):Rl l<=l.length:=by
 cases l with
 | nil=>exact jaa _
 | cons c t =>
  show (if Al c=true then 1 else 0)<=t.length+1;split<;>omega
theorem Aab:∀ l:List UInt8,run Rl l.length l=(l.takeWhile Al).length
 | []=>rfl
 | c::t=>by
  by_cases h:Al c=true
  ·have h1:Rl (c::t)=1:=by show (if Al c=true then 1 else 0)=1;rw [if_pos h]
   rw [Aps Rm (by rw [h1];decide),h1,List.takeWhile_cons_of_pos h,jac];show 1+run Rl t.length t=_;rw [Aab t];omega
  ·have h1:Rl (c::t)=0:=by show (if Al c=true then 1 else 0)=0;rw [if_neg h]
   rw [Agz Rm h1,List.takeWhile_cons_of_neg h];rfl
theorem Po (l:List UInt8):Cw l<=l.length:=by
 match l with
 | []=>exact jaa _
 | [c] =>
  show (if Bm c=true then 1 else 0)<=1;split<;>omega
 | [c,d] =>
  show (if Bm c=true then 1 else 0)<=2;split<;>omega
 | c::d::e::t =>
  show (if Bm c=true then 1 else if c.toNat=13/\d.toNat=10/\Bm e=true then 3 else 0)<=t.length+1+1+1;split
  · omega
  · split<;>omega
theorem Aex (l:List UInt8):(Cw l=0/\Am l=0)\/(Cw l ≠ 0/\Am l=Cw l+Am (l.drop (Cw l))):=by
 match l with
 | []=>exact .inl ⟨rfl,rfl⟩
 | c::t =>
  cases hc:Bm c with
  | true =>
   have h1:Cw (c::t)=1:=by rw [Cw.eq_def];simp only [hc,if_true]
   refine .inr ⟨by rw [h1];decide,?_⟩;rw [h1,On hc];show Am t+1=1+Am t;omega
  | false =>
   match t with
   | [] =>
    refine .inl ⟨?_,?_⟩
    ·rw [Cw.eq_def];simp [hc]
    ·rw [Am.eq_def];simp [hc]
   | [_] =>
    refine .inl ⟨?_,?_⟩
    ·rw [Cw.eq_def];simp [hc]
    ·rw [Am.eq_def];simp [hc]
   | d::e::r =>
    by_cases h:c.toNat=13/\d.toNat=10/\Bm e=true
    ·have h1:Cw (c::d::e::r)=3:=by rw [Cw.eq_def];simp only [hc,Bool.false_eq_true,if_false,if_pos h]
     refine .inr ⟨by rw [h1];decide,?_⟩;rw [h1,Q8 hc h];show Am r+3=3+Am r;omega
    ·refine .inl ⟨?_,?_⟩
     · rw [Cw.eq_def];simp only [hc,Bool.false_eq_true,if_false,if_neg h]
     · rw [Am.eq_def];simp only [hc,Bool.false_eq_true,if_false,if_neg h]
theorem Aef:∀ (m:Nat) (l:List UInt8),l.length<=m->run Cw l.length l=Am l
 | 0,l,h=>by
  obtain rfl:l=[]:=List.eq_nil_of_length_eq_zero jO;rfl
 | m+1,l,h=>by
  rcases Aex l with ⟨h1,h2⟩ | ⟨h1,h2⟩
  · rw [Agz Po h1,h2]
  · rw [Aps Po h1,h2,Aef m _ (by rw [jaj];have:=Po l;omega)]
theorem Al4 (l:List UInt8):(0<Cw l)=(Am l ≠ 0):=by
 rcases Aex l with ⟨h1,h2⟩ | ⟨h1,h2⟩
 ·rw [h1,h2];simp
 ·have:Am l ≠ 0:=jO
  simp [this];omega
theorem Gn (s:ByteArray):(⟨s.data.toList.toArray⟩:ByteArray)=s:=by
 apply ByteArray.ext;simp
theorem Oz (s:ByteArray) (k:Nat):(s.extract k s.size).data.toList=s.data.toList.drop k:=by
 rw [ByteArray.data_extract,Array.toList_extract,List.extract_eq_take_drop];rw [List.take_of_length_le jS]
theorem J5 (s:ByteArray) (i j:Nat):(s.extract i j).data.toList=(s.data.toList.drop i).take (j - i):=by
 rw [ByteArray.data_extract,Array.toList_extract,List.extract_eq_take_drop]
end Lex
theorem Rn (t:ByteArray) (w:World) (hs:t.size<=100000):Calls prog 86 #[.string t] w λe w'=>e=.returned (.int .i64 (Lex.Rl t.data.toList:Nat))/\w=w':=by
 by_cases h0:t.size=0
 ·obtain rfl:t=ByteArray.empty:=ByteArray.size_eq_zero_iff.1 h0;go_enter func86,ntmps86;go_wp2;go_ret;exact ⟨rfl,rfl⟩
 ·have hpos:0<t.size:=jO
  have hne:(t.toList == [])=false:=by
   cases hh:t.toList with
   | nil=>exact absurd (by have:=congrArg List.length hh;simpa [ByteArray.toList_eq] using this) h0
   | cons _ _=>rfl
  have hd:Lex.Rl t.data.toList=if Lex.Al t[0] then 1 else 0:=by
   have:=As t 0 hpos;rw [List.drop_zero] at this;rw [this];rfl
  rw [hd];have K:=Yy t[0] w;have hz:(0:Int)<(t.size:Int):=jO
  clear hd h0;generalize Lex.Al t[0]=x at K ⊢;have K:=jH K;cases x
  ·go_enter func86,ntmps86;go_wp2_with (go_at_call 114;with_reducible refine K.out.mono ?_;rintro e w1 ⟨rfl,rfl⟩);go_ret;exact ⟨rfl,rfl⟩
  ·go_enter func86,ntmps86;go_wp2_with (go_at_call 114;with_reducible refine K.out.mono ?_;rintro e w1 ⟨rfl,rfl⟩);go_ret;exact ⟨rfl,rfl⟩
theorem Ze (s:ByteArray) (w:World):Calls prog 104 #[.string s,.string ⟨#[13,10]⟩] w λe w'=>e=.returned (.bool (Lib.hasPrefix s.data.toList [13,10]))/\w=w':=by
 have hx:(decide (2<=s.size) && ((s.extract 0 2).toList == [13,10]))=Lib.hasPrefix s.data.toList [13,10]:=by
  have h:=Lib.hasPrefix_raw s ⟨#[13,10]⟩;rw [ByteArray.toList_eq (ByteArray.mk #[13,10])] at h;exact h
 rw [<- hx];clear hx;by_cases h:2<=s.size
 ·have hz:(2:Int)<=(s.size:Int):=jO
  rw [decide_eq_true h,Bool.true_and];clear h;go_enter func104,ntmps104;go_wp2;go_ret;exact ⟨rfl,rfl⟩
 ·have hz:¬ (2:Int)<=(s.size:Int):=jO
  rw [decide_eq_false h,Bool.false_and];clear h;go_enter func104,ntmps104;go_wp2;go_ret;exact ⟨rfl,rfl⟩
theorem Z1 (s:ByteArray) (w:World):Calls prog 100 #[.string s,.string ⟨#[13,10]⟩] w λe w'=>e=.returned (.bool (Lib.hasPrefix s.data.toList [13,10]))/\w=w':=by
 go_enter func100,ntmps100;go_wp2_with (go_at_call 104;with_reducible refine (Ze s w).mono ?_;rintro e w1 ⟨rfl,rfl⟩);go_ret;exact ⟨rfl,rfl⟩
namespace Lex
theorem Aw3 (t:ByteArray) (h0:0<t.size):(Bm t[0]=true/\Cw t.data.toList=1)\/(Bm t[0]=false/\Lib.hasPrefix t.data.toList [13,10]=false/\Cw t.data.toList=0) \/
  (Bm t[0]=false/\Lib.hasPrefix t.data.toList [13,10]=true/\t.size=2/\Cw t.data.toList=0) \/
  (Bm t[0]=false/\Lib.hasPrefix t.data.toList [13,10]=true/\∃ h2:2<t.size,Cw t.data.toList=if Bm t[2]=true then 3 else 0):=by
 have e0:=As t 0 h0;rw [List.drop_zero] at e0;rw [e0];cases hb:Bm t[0] with
 | true =>
  refine .inl ⟨rfl,?_⟩;rw [Cw.eq_def];simp only [hb,if_true]
 | false =>
  refine .inr ?_;by_cases h1:1<t.size
  ·have e1:=As t 1 h1;rw [show (0:Nat)+1=1 from rfl,e1];cases hp:Lib.hasPrefix (t[0]::t[1]::t.data.toList.drop (1+1)) [13,10] with
   | false =>
    refine .inl ⟨rfl,rfl,?_⟩;rw [Cw.eq_def];simp only [hb,Bool.false_eq_true,if_false];cases t.data.toList.drop (1+1) with
    | nil=>rfl
    | cons e r =>
     simp only;rw [if_neg];rintro ⟨h3,h4,-⟩;have q0:t[0]=13:=UInt8.toNat_inj.1 h3;have q1:t[1]=10:=UInt8.toNat_inj.1 h4;rw [q0,q1] at hp;simp [Lib.hasPrefix] at hp
   | true =>
    refine .inr ?_;have hq:t[0]=13/\t[1]=10:=by
     simp [Lib.hasPrefix] at hp;exact ⟨hp.1.symm,hp.2.symm⟩
    by_cases h2:2<t.size
    ·refine .inr ⟨rfl,rfl,h2,?_⟩;have e2:=As t 2 h2;rw [show (1:Nat)+1=2 from rfl,e2,Cw.eq_def];simp only [hb,Bool.false_eq_true,if_false];rw [hq.1,hq.2];cases Bm t[2]<;>rfl
    ·refine .inl ⟨rfl,rfl,by omega,?_⟩;rw [List.drop_of_length_le (by simp;omega),Cw.eq_def];simp only [hb,Bool.false_eq_true,if_false]
  ·have e1:t.data.toList.drop (0+1)=[]:=List.drop_of_length_le (by simp;omega);rw [e1];refine .inl ⟨rfl,by simp [Lib.hasPrefix,List.isPrefixOf],?_⟩;rw [Cw.eq_def];simp only [hb,Bool.false_eq_true,if_false]
theorem ne_nil {t:ByteArray} (h:0<t.size):(t.toList == [])=false:=by
 cases hh:t.toList with
 | nil=>exact absurd (by have:=congrArg List.length hh;simpa [ByteArray.toList_eq] using this) (by omega:¬ t.size=0)
 | cons _ _=>rfl
end Lex
theorem Qc (t:ByteArray) (w:World) (hs:t.size<=100000):Calls prog 162 #[.string t] w λe w'=>e=.returned (.int .i64 (Lex.Cw t.data.toList:Nat))/\w=w':=by
 by_cases h0:t.size=0
 ·obtain rfl:t=ByteArray.empty:=ByteArray.size_eq_zero_iff.1 h0;have K:Calls prog 100 #[.string ByteArray.empty,.string ⟨#[13,10]⟩] w λe w'=>e=.returned (.bool false)/\w=w':=Z1 ByteArray.empty w;have K:=jH K;go_enter func162,ntmps162;go_wp2_with (go_at_call 100;with_reducible refine K.out.mono ?_;rintro e w1 ⟨rfl,rfl⟩);go_ret;exact ⟨rfl,rfl⟩
 ·have hpos:0<t.size:=jO
  have hne:=Lex.ne_nil hpos;have K0:=jH (Nu t[0] w);have K1:=jH (Z1 t w);have hz:(0:Int)<(t.size:Int):=jO
  clear h0;rcases Lex.Aw3 t hpos with ⟨h1,h2⟩ | ⟨h1,h2,h3⟩ | ⟨h1,h2,h3,h4⟩ | ⟨h1,h2,h3,h4⟩
  ·rw [h2];rw [h1] at K0;clear h1 h2;go_enter func162,ntmps162;go_wp2_with (go_at_call 194;with_reducible refine K0.out.mono ?_;rintro e w1 ⟨rfl,rfl⟩);go_ret;exact ⟨rfl,rfl⟩
  ·rw [h3];rw [h1] at K0;rw [h2] at K1;clear h1 h2 h3;go_enter func162,ntmps162;go_wp2_with (first | (go_at_call 194;with_reducible refine K0.out.mono ?_;rintro e w1 ⟨rfl,rfl⟩) | (go_at_call 100;with_reducible refine K1.out.mono ?_;rintro e w1 ⟨rfl,rfl⟩));go_ret;exact ⟨rfl,rfl⟩
  ·rw [h4];rw [h1] at K0;rw [h2] at K1;have h3z:¬ (2:Int)<(t.size:Int):=jO
   clear h1 h2 h3 h4;go_enter func162,ntmps162;go_wp2_with (first | (go_at_call 194;with_reducible refine K0.out.mono ?_;rintro e w1 ⟨rfl,rfl⟩) | (go_at_call 100;with_reducible refine K1.out.mono ?_;rintro e w1 ⟨rfl,rfl⟩));go_ret;exact ⟨rfl,rfl⟩
  ·rw [h4];rw [h1] at K0;rw [h2] at K1;have h3z:(2:Int)<(t.size:Int):=jO
   have K2:=jH (Nu t[2] w);clear h1 h2 h4;cases hx:Lex.Bm t[2]
   ·rw [hx] at K2;clear hx;go_enter func162,ntmps162;go_wp2_with (first | (go_at_call 194;with_reducible refine K0.out.mono ?_;rintro e w1 ⟨rfl,rfl⟩) | (go_at_call 100;with_reducible refine K1.out.mono ?_;rintro e w1 ⟨rfl,rfl⟩) | (go_at_call 194;with_reducible refine K2.out.mono ?_;rintro e w1 ⟨rfl,rfl⟩));go_ret;exact ⟨rfl,rfl⟩
   ·rw [hx] at K2;clear hx;go_enter func162,ntmps162;go_wp2_with (first | (go_at_call 194;with_reducible refine K0.out.mono ?_;rintro e w1 ⟨rfl,rfl⟩) | (go_at_call 100;with_reducible refine K1.out.mono ?_;rintro e w1 ⟨rfl,rfl⟩) | (go_at_call 194;with_reducible refine K2.out.mono ?_;rintro e w1 ⟨rfl,rfl⟩));go_ret;exact ⟨rfl,rfl⟩
theorem Adu (s:ByteArray) (k:Nat) (hk:k<s.size) (w:World) (hs:s.size<=100000) :
  Calls prog 191 #[.string s,.int .i64 k] w λe w'=>e=.returned (.int .i64 ((if s[k].toNat=92/\k+1<s.size then k+1 else k:Nat):Int))/\w=w':=by
 have hkz:(k:Int)<(s.size:Int):=jO
 by_cases h1:s[k].toNat=92
 ·by_cases h2:k+1<s.size
  ·rw [if_pos ⟨h1,h2⟩];have h2z:(k:Int)+1<(s.size:Int):=jO
   go_enter func191,ntmps191;go_wp2;go_ret;exact ⟨by simp,rfl⟩
  ·rw [if_neg (λh=>h2 h.2)];have h2z:¬ (k:Int)+1<(s.size:Int):=jO
   go_enter func191,ntmps191;go_wp2;go_ret;exact ⟨rfl,rfl⟩
 ·rw [if_neg (λh=>h1 h.1)];have h1z:((s[k].toNat:Int) == 92)=false:=by simpa using (by omega:¬ (s[k].toNat:Int)=92)
  clear h1;go_enter func191,ntmps191;go_wp2;go_ret;exact ⟨rfl,rfl⟩
theorem Q1 (g:Nat) (n:List UInt8->Nat) (hn:∀ l,n l<=l.length) (eg:∀ args w,(callFunc g args).run prog w=.ok (.enter g args) w)
  (hf:∀ (t:ByteArray) (W:World),t.size<=100000->Calls prog g #[.string t] W λe w'=>e=.returned (.int .i64 (n t.data.toList:Nat))/\W=w')
  (s:ByteArray) (k:Nat) (hk:k<=s.size) (w:World) (hs:s.size<=100000) :
  Calls prog 85 #[.string s,.int .i64 k,.func (.func g) #[] #[]] w λe w'=>e=.returned (.int .i64 ((k+Lex.run n (s.data.toList.drop k).length (s.data.toList.drop k):Nat):Int))/\w=w':=by
 have hkz:(k:Int)<=(s.size:Int):=jO
 have K:Hid (∀ j,j<=s.size->Calls prog g #[.string (s.extract j s.size)] w λe w'=>e=.returned (.int .i64 (n (s.data.toList.drop j):Nat))/\w=w'):=jH λj hj=>by
  have h:=hf (s.extract j s.size) w (by rw [ByteArray.size_extract];omega);rwa [Lex.Oz] at h
 have NL:Hid (∀ j,j<=s.size->n (s.data.toList.drop j)<=s.size - j):=jH λj _=>by
  have h:=hn (s.data.toList.drop j);rw [jaj] at h;simpa using h
 have N0:Hid (∀ j,j<=s.size->n (s.data.toList.drop j)=0->Lex.run n (s.data.toList.drop j).length (s.data.toList.drop j)=0):=jH λj _ h=>Lex.Agz hn h;have N1:Hid (∀ j,j<=s.size->n (s.data.toList.drop j) ≠ 0->Lex.run n (s.data.toList.drop j).length (s.data.toList.drop j)=n (s.data.toList.drop j)+Lex.run n (s.data.toList.drop (j+n (s.data.toList.drop j))).length (s.data.toList.drop (j+n (s.data.toList.drop j)))):=jH λj _ h=>by
  have:=Lex.Aps hn h;rw [List.drop_drop] at this;exact this
 obtain ⟨N,hN⟩:∃ N,N=λj=>n (s.data.toList.drop j):=⟨_,rfl⟩
 obtain ⟨R,hR⟩:∃ R,R=λj=>Lex.run n (s.data.toList.drop j).length (s.data.toList.drop j):=⟨_,rfl⟩
 have K:Hid (∀ j,j<=s.size->Calls prog g #[.string (s.extract j s.size)] w λe w'=>e=.returned (.int .i64 (N j:Int))/\w=w'):=by rw [hN];exact K
 have NL:Hid (∀ j,j<=s.size->N j<=s.size - j):=by rw [hN];exact NL
 have N0:Hid (∀ j,j<=s.size->N j=0->R j=0):=by rw [hN,hR];exact N0
 have N1:Hid (∀ j,j<=s.size->N j ≠ 0->R j=N j+R (j+N j)):=by rw [hN,hR];exact N1
 obtain ⟨T,hT⟩:∃ T,T=k+R k:=⟨_,rfl⟩
 rw [show k+Lex.run n (s.data.toList.drop k).length (s.data.toList.drop k)=T by rw [hT,hR]];have HT:=jH hT;clear hT;clear hN hR hn hf;obtain ⟨a,ha⟩:∃ a,a=N k:=⟨_,rfl⟩
 have K0:=K.out k hk;rw [<- ha] at K0;have K0:=jH K0;have HA:=jH ha;clear ha;go_enter func85,ntmps85;go_wp2_with fail;refine K0.out.mono ?_;rintro e w1 ⟨rfl,rfl⟩;go_wp2;go_loopg [1,7] (s.size+1) (λgk s1 s7 wr=>∃ j a:Nat,s1=.int .i64 j/\s7=.int .i64 a/\j<=s.size/\s.size - j<gk/\Hid (a=N j/\j+R j=T)/\w=wr)
 case atStart=>exact ⟨k,a,rfl,rfl,hk,by omega,⟨HA.out,HT.out.symm⟩,rfl⟩
 case round =>
  obtain ⟨j,a,rfl,rfl,hj,hg,I,rfl⟩:=hrel;by_cases h0:a=0
  ·have haz:¬ (0:Int)<(a:Int):=jO
   have I2:Hid (j=T):=jH (by
    have h1:=N0.out j hj (by rw [<- I.out.1];exact h0);have:=I.out.2;omega)
   clear h0 I;go_wp2;go_ret;obtain rfl:j=T:=I2.out;exact ⟨rfl,rfl⟩
  ·have ha:0<a:=jO
   have haz:(0:Int)<(a:Int):=jO
   have hle:j+a<=s.size:=by have:=NL.out j hj;rw [<- I.out.1] at this;omega
   have hlez:(j:Int)+(a:Int)<=(s.size:Int):=jO
   obtain ⟨b,hb⟩:∃ b,b=N (j+a):=⟨_,rfl⟩
   have K1:=K.out (j+a) hle;rw [<- hb] at K1;have K1:=jH K1;have I2:Hid (b=N (j+a)/\(j+a)+R (j+a)=T):=jH ⟨hb,by
    have h1:=N1.out j hj (by rw [<- I.out.1];exact h0);rw [<- I.out.1] at h1;have:=I.out.2;omega⟩
   clear hb h0;go_wp2_with fail;refine K1.out.mono ?_;rintro e w1 ⟨rfl,rfl⟩;go_wp2;go_roundg (s.size - j)
   case measure=>omega
   case rel=>exact ⟨j+a,b,by go_num,rfl,hle,by omega,I2,rfl⟩
end
