import Derived.Test.YtipkfalbepiphaaGreatDoorLabMid
set_option maxRecDepth 100000
set_option maxHeartbeats 8000000
namespace Go.Proofs.YtipkfalbepiphaaGreatDoor
open Tryz
section
open Go.RowKit Utf
theorem A0x (g:Nat) (s:ByteArray) (w:World) (hc:w.cell? ⟨g,0,none⟩=some (.string s)) :
  Calls prog 228 #[.pointer (some ⟨g,0,none⟩)] w λe w'=>e=.returned (.bool (decide (s.size=0)))/\Below w.heap.size w w':=by
 have hsl:s.data.toList.length=s.size:=by simp
 by_cases h0:s.size=0
 ·obtain rfl:s=⟨#[]⟩:=ByteArray.ext (Array.eq_empty_of_size_eq_zero h0);clear hsl h0;go_enter func228,ntmps228;go_wp2;go_ret;exact ⟨rfl,jan _ _⟩
 ·have hne:s.toList.isEmpty=false:=by rw [ByteArray.toList_eq,List.isEmpty_eq_false_iff];intro e;rw [e] at hsl;simp at hsl;omega
  rw [decide_eq_false h0];clear hsl h0;go_enter func228,ntmps228;go_wp2;go_ret;exact ⟨rfl,jan _ _⟩
theorem A0y (g:Nat) (s:ByteArray) (w:World) (hc:w.cell? ⟨g,0,none⟩=some (.string s)) :
  Calls prog 229 #[.pointer (some ⟨g,0,none⟩)] w λe w'=>e=.returned (.bool (decide (63<s.size)))/\Below w.heap.size w w':=by
 by_cases hz:63<s.size
 ·have hzz:(63:Int)<(s.size:Int):=jO
  rw [decide_eq_true hz];go_enter func229,ntmps229;go_wp2;go_ret;exact ⟨rfl,jan _ _⟩
 ·have hzz:¬ (63:Int)<(s.size:Int):=jO
  rw [decide_eq_false hz];go_enter func229,ntmps229;go_wp2;go_ret;exact ⟨rfl,jan _ _⟩
theorem A0z (g:Nat) (s:ByteArray) (w:World) (hs:s.size<=100000) (hc:w.cell? ⟨g,0,none⟩=some (.string s)) :
  Calls prog 230 #[.pointer (some ⟨g,0,none⟩)] w λe w'=>e=.returned (.bool (!(s.data.toList.all λc=>Bidi.Ce (c.toNat:Int))))/\Below w.heap.size w w':=by
 have K:=jH (Ajb s w hs);generalize (s.data.toList.all λc=>Bidi.Ce (c.toNat:Int))=p at K ⊢;clear hs;cases p
 all_goals
  go_enter func230,ntmps230;go_wp2_with fail;refine K.out.mono ?_;rintro e w2 ⟨rfl,hb2⟩;have BX:=jH hb2;clear hb2;go_wp2;go_ret;exact ⟨rfl,BX.out⟩
theorem A00 (gs:Nat) (s:ByteArray) (w:World) (hs:s.size<=100000) (hc:w.cell? ⟨gs,0,none⟩=some (.string s)) :
  Calls prog 232 #[.pointer (some ⟨gs,0,none⟩)] w λe w'=>e=.returned (.bool (Lab.F3 s.data.toList))/\Below w.heap.size w w':=by
 have KE:=jH (Ns s w hs);clear hs;go_enter func232,ntmps232;go_wp2_with fail;refine KE.out.mono ?_;rintro e w3 ⟨rfl,rfl⟩;go_wp2;go_ret;exact ⟨rfl,jan _ _⟩
def Abx (s:ByteArray):Nat->Int
 | 0=>if decide (s.size=0) then 13 else 0
 | 1=>if decide (63<s.size) then 5 else 0
 | 2=>if !(s.data.toList.all λc=>Bidi.Ce (c.toNat:Int)) then 8 else 0
 | _=>if Lab.F3 s.data.toList then 11 else 0
theorem A6f (s:ByteArray) (w:World) {e:Ending} {w':World} (h:Oo 4 (Abx s) (λ_ W=>Below w.heap.size w W) e w'):e=.returned (.int .i64 (Lab.F9 s.data.toList))/\Below w.heap.size w w':=by
 have hsl:s.data.toList.length=s.size:=by simp
 obtain ⟨k,hk,h0,h⟩:=h;have q0:0<k->¬ s.size=0:=λh e=>by have:=h0 0 h;unfold Abx at this;rw [decide_eq_true e] at this;exact absurd this jS
 have q1:1<k->¬ 63<s.size:=λh e=>by have:=h0 1 h;unfold Abx at this;rw [decide_eq_true e] at this;exact absurd this jS
 have q2:2<k->¬ (s.data.toList.all λc=>Bidi.Ce (c.toNat:Int))=false:=λh e=>by have:=h0 2 h;unfold Abx at this;rw [e] at this;exact absurd this jS
 have q3:3<k->¬ Lab.F3 s.data.toList=true:=λh e=>by have:=h0 3 h;unfold Abx at this;rw [e] at this;exact absurd this jS
 unfold Lab.F9;rw [hsl];clear h0;rcases h with ⟨hlt,hne,rfl,hb⟩ | ⟨rfl,rfl,hb⟩
 ·refine ⟨?_,hb⟩;clear hb;obtain rfl | rfl | rfl | rfl:k=0\/k=1\/k=2\/k=3:=jO
  ·unfold Abx at hne ⊢;by_cases e:s.size=0
   · rw [if_pos e,decide_eq_true e];rfl
   · rw [decide_eq_false e] at hne;exact absurd rfl hne
  ·rw [if_neg (q0 jO)];unfold Abx at hne ⊢;by_cases e:63<s.size
   · rw [if_pos e,decide_eq_true e];rfl
   · rw [decide_eq_false e] at hne;exact absurd rfl hne
  ·rw [if_neg (q0 jO),if_neg (q1 jO)];unfold Abx at hne ⊢;cases e:(s.data.toList.all λc=>Bidi.Ce (c.toNat:Int))
   · rfl
   · rw [e] at hne;exact absurd rfl hne
  ·rw [if_neg (q0 jO),if_neg (q1 jO),if_neg (q2 jO)];unfold Abx at hne ⊢;cases e:Lab.F3 s.data.toList
   · rw [e] at hne;exact absurd rfl hne
   · rfl
 ·rw [if_neg (q0 jO),if_neg (q1 jO),if_neg (q2 jO),if_neg (q3 jO)];exact ⟨rfl,hb⟩
theorem C8 (w:World) {R:Nat} (hR:w.heap.size=R) (vs:Array Value) (T:TypeId) {k:Nat} {v:Value} (hv:vs[k]? = some v):(w.alloc (.cells vs T)).cell? ((⟨R,0,none⟩:Addr).add k)=some v:=by
 subst hR;have h:(w.alloc (.cells vs T)).heap[((⟨w.heap.size,0,none⟩:Addr).add k).block]? = some (.cells vs T (0,0)):=by rw [Bf];exact heap_alloc_new w _
 unfold World.cell?;rw [h];by_cases e:k=0
 ·subst e;simpa [Addr.add] using hv
 ·simpa [Addr.add,e] using hv
theorem Cr {n:Nat} {x:Int} {g:Nat} {cb:Array Value} {e:Ending} {w w':World} (hn:w.heap.size=n) (h:Rh n x g cb e w w'):Below w.heap.size w w':=by
 rw [hn];exact h.2.2.2.2
def Gk (n:Nat):Value:=.func (.func 267) #[] #[.pointer (some ⟨n+1,0,none⟩),.pointer (some ⟨n,0,none⟩)]
theorem En:∀ args w,(callFunc 267 args).run prog w=.ok (.enter 267 args) w:=enters_of func267 jK rfl
theorem Au6 (B n0 n1 n2 n3 R:Nat) (s:ByteArray) (w:World) (hs:s.size<=100000) (hB:B<w.heap.size) (hR:R<w.heap.size) (hc:w.cell? ⟨B,0,none⟩=some (.string s))
  (A0:D6 n0 13 228 #[.pointer (some ⟨B,0,none⟩)] w) (A1:D6 n1 5 229 #[.pointer (some ⟨B,0,none⟩)] w)
  (A2:D6 n2 8 230 #[.pointer (some ⟨B,0,none⟩)] w) (A3:D6 n3 11 232 #[.pointer (some ⟨B,0,none⟩)] w)
  (r0:w.cell? ((⟨R,0,none⟩:Addr).add 0)=some (Gk n0)) (r1:w.cell? ((⟨R,0,none⟩:Addr).add 1)=some (Gk n1)) (r2:w.cell? ((⟨R,0,none⟩:Addr).add 2)=some (Gk n2)) (r3:w.cell? ((⟨R,0,none⟩:Addr).add 3)=some (Gk n3)) :
  Calls prog 222 #[.slice (some ⟨R,0,none⟩) 4 4] w λe w'=>e=.returned (.int .i64 (Lab.F9 s.data.toList))/\Below w.heap.size w w':=by
 refine (Uh ⟨R,0,none⟩ 4 (Abx s) (λ_ W=>Below w.heap.size w W) w jO (jan _ _) ?_).mono (λe w' h=>A6f s w h);intro k hk h0 W hW;have hcW:=(hW.cell (p:=⟨B,0,none⟩) hB).trans hc;have rW:∀ k,W.cell? ((⟨R,0,none⟩:Addr).add k)=w.cell? ((⟨R,0,none⟩:Addr).add k):=λk=>hW.cell (by rw [Bf];exact hR);obtain rfl | rfl | rfl | rfl:k=0\/k=1\/k=2\/k=3:=jO
 ·exact ⟨_,_,(rW 0).trans r0,En,((A0.Ac hW).calls (enters_of func228 jK rfl) (A0x B s W hcW) rfl).mono λe w' ⟨h1,h2⟩=>⟨h1,hW.trans (h2.mono hW.size)⟩⟩
 ·exact ⟨_,_,(rW 1).trans r1,En,((A1.Ac hW).calls (enters_of func229 jK rfl) (A0y B s W hcW) rfl).mono λe w' ⟨h1,h2⟩=>⟨h1,hW.trans (h2.mono hW.size)⟩⟩
 ·exact ⟨_,_,(rW 2).trans r2,En,((A2.Ac hW).calls (enters_of func230 jK rfl) (A0z B s W hs hcW) rfl).mono λe w' ⟨h1,h2⟩=>⟨h1,hW.trans (h2.mono hW.size)⟩⟩
 ·exact ⟨_,_,(rW 3).trans r3,En,((A3.Ac hW).calls (enters_of func232 jK rfl) (A00 B s W hs hcW) rfl).mono λe w' ⟨h1,h2⟩=>⟨h1,hW.trans (h2.mono hW.size)⟩⟩
theorem Ao7 (s:ByteArray) (w:World) (hs:s.size<=100000):Calls prog 189 #[.string s] w λe w'=>e=.returned (.int .i64 (Lab.F9 s.data.toList))/\Below w.heap.size w w':=by
 obtain ⟨B,hB⟩:∃ B,w.heap.size=B:=⟨_,rfl⟩
 have hb0:=jH (Ab w (.cells #[.string s] 9));have hc0:=jH (Jf w (.string s) 9);have HS:=jH hs;have s0:(w.alloc (.cells #[.string s] 9)).heap.size=B+1:=by simp [hB]
 go_enter func189,ntmps189;go_wp2_with fail;refine (Dr (B+1) 13 _ _ _ s0).mono ?_;rintro e w1 h1;have A1:=jH h1.ask;have B1:=jH (Cr s0 h1);obtain ⟨rfl,s1,-,-,-⟩:=h1;go_wp2_with fail;refine (Dr (B+1+2) 5 _ _ _ s1).mono ?_;rintro e w2 h2;have A2:=jH h2.ask;have B2:=jH (Cr s1 h2);obtain ⟨rfl,s2,-,-,-⟩:=h2;go_wp2_with fail;refine (Dr (B+1+2+2) 8 _ _ _ s2).mono ?_;rintro e w3 h3;have A3:=jH h3.ask;have B3:=jH (Cr s2 h3);obtain ⟨rfl,s3,-,-,-⟩:=h3;go_wp2_with fail;refine (Dr (B+1+2+2+2) 11 _ _ _ s3).mono ?_;rintro e w4 h4;have A4:=jH h4.ask;have B4:=jH (Cr s3 h4);obtain ⟨rfl,s4,-,-,-⟩:=h4;go_wp2_with fail;obtain ⟨o,ho⟩:∃ o,o=w4.alloc (.cells #[Gk (B+1),Gk (B+1+2),Gk (B+1+2+2),Gk (B+1+2+2+2)] 284):=⟨_,rfl⟩
 have B5:Below w4.heap.size w4 o:=by rw [ho];exact Ab _ _
 have all1:Below w.heap.size w w1:=Aa hb0.out B1.out;have all2:Below w.heap.size w w2:=Aa all1 B2.out;have all3:Below w.heap.size w w3:=Aa all2 B3.out;have all4:Below w.heap.size w w4:=Aa all3 B4.out;have all5:Below w.heap.size w o:=Aa all4 B5;have c1:o.cell? ⟨B,0,none⟩=some (.string s):=by
  rw [<- hB];have h1:=B1.out.cell (p:=⟨w.heap.size,0,none⟩) (by rw [s0,hB];exact Nat.lt_succ_self _);have h2:=B2.out.cell (p:=⟨w.heap.size,0,none⟩) (show w.heap.size<_ by omega);have h3:=B3.out.cell (p:=⟨w.heap.size,0,none⟩) (show w.heap.size<_ by omega);have h4:=B4.out.cell (p:=⟨w.heap.size,0,none⟩) (show w.heap.size<_ by omega);have h5:=B5.cell (p:=⟨w.heap.size,0,none⟩) (show w.heap.size<_ by omega);rw [h5,h4,h3,h2,h1];exact hc0.out
 have hsz:w4.heap.size<o.heap.size:=by rw [ho];simp
 have K:=Au6 B (B+1) (B+1+2) (B+1+2+2) (B+1+2+2+2) (B+1+2+2+2+2) s o HS.out jO jO c1
  ((((A1.out.Ac B2.out).Ac B3.out).Ac B4.out).Ac B5) (((A2.out.Ac B3.out).Ac B4.out).Ac B5) ((A3.out.Ac B4.out).Ac B5) (A4.out.Ac B5)
  (by rw [ho];exact C8 w4 s4 _ _ rfl) (by rw [ho];exact C8 w4 s4 _ _ rfl) (by rw [ho];exact C8 w4 s4 _ _ rfl) (by rw [ho];exact C8 w4 s4 _ _ rfl)
 have ALL:=jH all5;rw [ho] at K ALL;refine K.mono ?_;rintro e w6 ⟨rfl,hb6⟩;have HB:=jH (Aa ALL.out hb6);clear hb6 c1 hsz ho;go_wp2;go_ret;exact ⟨rfl,HB.out⟩
end
section
open Go.RowKit Utf
def Pr (E:Nat->Int) (k:Nat):Nat->Int
 | 0=>0
 | n+1=>if E k ≠ 0 then E k else Pr E (k+1) n
theorem A4l (E:Nat->Int) {n:Nat}:∀ {k d:Nat},d<n->(∀ j,j<d->E (k+j)=0)->E (k+d) ≠ 0->Pr E k n=E (k+d):=by
 induction n with
 | zero=>intro k d h;omega
 | succ n ih =>
  intro k d hd h0 hn;unfold Pr;cases d with
  | zero=>rw [Nat.add_zero] at hn ⊢;exact if_pos hn
  | succ d =>
   rw [if_neg (by have:=h0 0 jO;simpa using this),ih (d:=d) jO (λj hj=>by have:=h0 (j+1) jO;rwa [show k+(j+1)=k+1+j by omega] at this) (by rwa [show k+1+d=k+(d+1) by omega]),show k+1+d=k+(d+1) by omega]
theorem A1l (E:Nat->Int) {n:Nat}:∀ {k:Nat},(∀ j,j<n->E (k+j)=0)->Pr E k n=0:=by
 induction n with
 | zero=>intro k _;rfl
 | succ n ih =>
  intro k h0;unfold Pr;rw [if_neg (by have:=h0 0 jO;simpa using this)];exact ih (λj hj=>by have:=h0 (j+1) jO;rwa [show k+(j+1)=k+1+j by omega] at this)
theorem Oo.seq {n:Nat} {E:Nat->Int} {I:Nat->World->Prop} {e:Ending} {w':World} (h:Oo n E I e w'):e=.returned (.int .i64 (Pr E 0 n))/\(Pr E 0 n=0->I n w')/\∃ k,k<=n/\I k w':=by
 obtain ⟨k,hk,h0,⟨hlt,hne,rfl,hi⟩ | ⟨rfl,rfl,hi⟩⟩:=h
 ·have hq:=A4l E (k:=0) hlt (λj hj=>by rw [Nat.zero_add];exact h0 j hj) (by rwa [Nat.zero_add]);rw [Nat.zero_add] at hq;rw [hq];exact ⟨rfl,λh=>absurd h hne,k+1,by omega,hi⟩
 ·have hq:=A1l E (n:=k) (k:=0) (λj hj=>by rw [Nat.zero_add];exact h0 j hj);rw [hq];exact ⟨rfl,λ_=>hi,k,jaa _,hi⟩
theorem Gs (b:Bool) {c:Int} (hc:c ≠ 0) (r:Int):(if (if b then c else 0) ≠ 0 then (if b then c else 0) else r)=if b then c else r:=by
 cases b
 · rfl
 · exact if_pos hc
def Ano (s:ByteArray) (l:List Int) (z:Int):Nat->Int
 | 0=>if decide (0<=z) then 7 else 0
 | 1=>if (decide (Ao s.data.toList<0) || !(Ah (Fe false true l) == s.toList)) then 4 else 0
 | 2=>if Lab.F3 s.data.toList then 11 else 0
 | 3=>if Ec l[0]! == 4 then 10 else 0
 | 4=>if Lab.Hc l then 8 else 0
 | 5=>if (Bidi.has l && !Bidi.Aby l) then 9 else 0
 | 6=>if !true then 12 else 0
 | _=>if decide (59<(⟨(Puny.Bq l).toArray⟩:ByteArray).size) then 5 else 0
theorem A3e (s:ByteArray) (l:List Int) (z:Int):Pr (Ano s l z) 0 8 =
  if decide (0<=z) then 7 else if (decide (Ao s.data.toList<0) || !(Ah (Fe false true l) == s.toList)) then 4 else if Lab.F3 s.data.toList then 11 else if Ec l[0]! == 4 then 10 else if Lab.Hc l then 8
  else if (Bidi.has l && !Bidi.Aby l) then 9 else if !true then 12 else if decide (59<(⟨(Puny.Bq l).toArray⟩:ByteArray).size) then 5 else 0:=by
 simp only [Pr,Ano];rw [Gs _ jD,Gs _ jD,Gs _ jD,Gs _ jD,Gs _ jD,Gs _ jD,Gs _ jD,Gs _ jD]
theorem Asd {s:ByteArray} {m:List Nat} {z:Int} (hrd:Au s.data.toList=(m,z)):Pr (Ano s (ints m) z) 0 8=Lab.Fz s.data.toList:=by
 rw [A3e];unfold Lab.Fz;rw [hrd];rcases (Eu hrd).2.2 with ⟨rfl,-⟩ | ⟨k,rfl,-,-⟩
 ·rw [decide_eq_false (show ¬ (0:Int)<=-1 by decide),if_pos rfl,if_neg jD];obtain ⟨h1,h2⟩:=Lab.Sx (s:=s.data.toList) (by rw [hrd]);rw [hrd] at h1 h2;have h4:s.data.toList=Ah (ints m):=h2;have h1:Ae (ints m)=true:=h1;rw [ByteArray.toList_eq,h4];generalize ints m=l at h1;unfold Lab.Ev;have hA:(decide (Ao (Ah l)<0) || !(Ah (Fe false true l) == Ah l))=decide (Lab.Eb (Ah l)=true\/Lab.nfc l ≠ l):=by
   have hn:(Ah (Fe false true l) == Ah l)=decide (Lab.nfc l=l):=by
    have hd:Fe false true l=Lab.nfc l:=rfl;rw [hd];by_cases e:Lab.nfc l=l
    ·rw [decide_eq_true e,e,beq_self_eq_true]
    ·rw [decide_eq_false e,beq_eq_false_iff_ne];exact λh=>e (Lab.Jp (by rw [<- hd];exact Ys false true h1) h1 h)
   rw [hn];rcases Lab.Gg (Ah l) with ⟨ha,he⟩ | ⟨ha,he⟩
   ·rw [he,ha];simp
   ·rw [ha,decide_eq_false (show ¬ Ao (Ah l)<0 by omega)];simp
  rw [hA];have hL:(⟨(Puny.Bq l).toArray⟩:ByteArray).size=(Puny.Bq l).length:=by simp [ByteArray.size]
  rw [hL];simp only [Bool.not_true,Bool.false_eq_true,if_false,decide_eq_true_eq,beq_iff_eq]
 ·rw [decide_eq_true (show (0:Int)<=(k:Int) by omega),if_pos rfl,if_neg (show ¬ ((k:Int)=-1) by omega)]
def Qi (l:List Int) (k:Nat):List UInt8:=if k<=6 then [] else Puny.Bq l
def Asf (C:Nat) (l:List Int) (w0:World) (k:Nat) (W:World):Prop:=Lo C ⟨(Qi l k).toArray⟩ (decide (6<k)) w0 W
theorem Asf.next {C:Nat} {l:List Int} {w0 W W':World} {k:Nat} (h:Asf C l w0 k W) (hk:k ≠ 6) (hb:Below W.heap.size W W'):Asf C l w0 (k+1) W':=by
 have e1:Qi l (k+1)=Qi l k:=by
  unfold Qi;by_cases h6:k<=6
  · rw [if_pos h6,if_pos jO]
  · rw [if_neg h6,if_neg jO]
 have e2:decide (6<k+1)=decide (6<k):=by rw [Bool.eq_iff_iff,decide_eq_true_eq,decide_eq_true_eq];omega
 unfold Asf at h ⊢;rw [e1,e2];exact h.Ac hb
theorem Lo.cell {C:Nat} {code:ByteArray} {is:Bool} {w0 W:World} (h:Lo C code is w0 W) {n:Nat} (hn:n<C+2) (o:Nat):W.cell? ⟨n,o,none⟩=w0.cell? ⟨n,o,none⟩:=h.1.cell (p:=⟨n,o,none⟩) hn
theorem Lo.held {C:Nat} {code:ByteArray} {is:Bool} {w0 W:World} (h:Lo C code is w0 W) {B b0 b1 b2 b3:Nat} (hn:B<C+2) (hH:I6 B b0 b1 b2 b3 w0):I6 B b0 b1 b2 b3 W :=
 ⟨jas hH.1 h.1.size,(h.cell hn 0).trans hH.2.1,(h.cell hn 1).trans hH.2.2.1,(h.cell hn 2).trans hH.2.2.2.1,(h.cell hn 3).trans hH.2.2.2.2⟩
theorem Lo.ask {C:Nat} {code:ByteArray} {is:Bool} {w0 W:World} (h:Lo C code is w0 W) {n:Nat} {x:Int} {g:Nat} {cb:Array Value} (hn:C+4<=n) (hA:D6 n x g cb w0):D6 n x g cb W :=
 hA.same h.1.size (h.2.1 n hn (by have:=hA.2.2;omega)) (h.2.1 (n+1) jO hA.2.2)
theorem Lo.row {C:Nat} {code:ByteArray} {is:Bool} {w0 W:World} (h:Lo C code is w0 W) {R:Nat} (hn:C+4<=R) (hR:R<w0.heap.size) (k:Nat):W.cell? ((⟨R,0,none⟩:Addr).add k)=w0.cell? ((⟨R,0,none⟩:Addr).add k) :=
 World.cell?_of_block (by rw [Bf];exact h.2.1 R hn hR)
theorem Ac5 (B C R n0 n1 n2 n3 n4 n5 n6 n7 b0 b1 b2 b3:Nat) (A:Option Addr) (c:Nat) (s:ByteArray) (m:List Nat) (l:List Int) (z:Int) (w1 w:World) (hlm:ints m=l) (hC:w1.heap.size=C) (hBC:B+1<C) (hw:Below w1.heap.size w1 w)
  (hT:Table w1 (.agg #[.slice (some ⟨b0,0,none⟩) 74 74,.slice (some ⟨b1,0,none⟩) 10 10,.slice (some ⟨b2,0,none⟩) 11 11,.slice (some ⟨b3,0,none⟩) 42 42])) (hl:Runes (.slice A l.length c) l w1) (hs:Nj s) (hrd:Au s.data.toList=(m,z))
  (hH:I6 B b0 b1 b2 b3 w) (hS:w.cell? ⟨B+1,0,none⟩=some (.string s)) (hL:w.cell? ⟨C,0,none⟩=some (.slice A l.length c)) (hZ:w.cell? ⟨C+1,0,none⟩=some (.int .i64 z))
  (h2:w.heap[C+2]? = some (.cells #[.string ⟨#[]⟩] 9 (0,0))) (h3:w.heap[C+3]? = some (.cells #[.bool false] 4 (0,0))) (hR:C+4<=R) (hRl:R<w.heap.size)
  (g0:C+4<=n0) (A0:D6 n0 7 249 #[.pointer (some ⟨C+1,0,none⟩)] w) (r0:w.cell? ((⟨R,0,none⟩:Addr).add 0)=some (Gk n0))
  (g1:C+4<=n1) (A1:D6 n1 4 250 #[.pointer (some ⟨B+1,0,none⟩),.pointer (some ⟨B,0,none⟩)] w) (r1:w.cell? ((⟨R,0,none⟩:Addr).add 1)=some (Gk n1))
  (g2:C+4<=n2) (A2:D6 n2 11 252 #[.pointer (some ⟨B+1,0,none⟩)] w) (r2:w.cell? ((⟨R,0,none⟩:Addr).add 2)=some (Gk n2))
  (g3:C+4<=n3) (A3:D6 n3 10 253 #[.pointer (some ⟨B,0,none⟩),.pointer (some ⟨C,0,none⟩)] w) (r3:w.cell? ((⟨R,0,none⟩:Addr).add 3)=some (Gk n3))
  (g4:C+4<=n4) (A4:D6 n4 8 255 #[.pointer (some ⟨B,0,none⟩),.pointer (some ⟨C,0,none⟩)] w) (r4:w.cell? ((⟨R,0,none⟩:Addr).add 4)=some (Gk n4))
  (g5:C+4<=n5) (A5:D6 n5 9 257 #[.pointer (some ⟨B,0,none⟩),.pointer (some ⟨C,0,none⟩)] w) (r5:w.cell? ((⟨R,0,none⟩:Addr).add 5)=some (Gk n5))
  (g6:C+4<=n6) (A6:D6 n6 12 260 #[.pointer (some ⟨C,0,none⟩),.pointer (some ⟨C+2,0,none⟩),.pointer (some ⟨C+3,0,none⟩)] w) (r6:w.cell? ((⟨R,0,none⟩:Addr).add 6)=some (Gk n6))
  (g7:C+4<=n7) (A7:D6 n7 5 262 #[.pointer (some ⟨C+2,0,none⟩)] w) (r7:w.cell? ((⟨R,0,none⟩:Addr).add 7)=some (Gk n7))
  : Calls prog 222 #[.slice (some ⟨R,0,none⟩) 8 8] w λe w'=>e=.returned (.int .i64 (Lab.Fz s.data.toList))/\(Lab.Fz s.data.toList=0->w'.cell? ⟨C+2,0,none⟩=some (.string ⟨(Puny.Bq l).toArray⟩))/\Below w1.heap.size w1 w':=by
 have hI0:Asf C l w 0 w:=⟨jan _ _,λ_ _ _=>rfl,h2,h3⟩
 refine (Uh ⟨R,0,none⟩ 8 (Ano s l z) (Asf C l w) w jO hI0 ?_).mono (λe w' h=>?_)
 ·intro k hk h0 W hW;have hI:Lo C ⟨(Qi l k).toArray⟩ (decide (6<k)) w W:=hW;have hlW:Below w1.heap.size w1 W:=hw.trans (hI.1.mono jO);have hTW:=hT.below hlW;have hRW:=hl.Ac hlW;have hHW:=hI.held (show B<C+2 by omega) hH;have hSW:=(hI.cell (show B+1<C+2 by omega) 0).trans hS;have hLW:=(hI.cell (show C<C+2 by omega) 0).trans hL;have hZW:=(hI.cell (show C+1<C+2 by omega) 0).trans hZ;have hCW:C<W.heap.size:=by have:=hI.lt;omega
  have hz:0<k->z=-1:=λhk=>by
   have:=h0 0 hk;rcases (Eu hrd).2.2 with ⟨rfl,-⟩ | ⟨j,rfl,-,-⟩
   ·rfl
   ·unfold Ano at this;rw [decide_eq_true (show (0:Int)<=(j:Int) by omega)] at this;exact absurd this jS
  have hfit:0<k->Fits false s m/\l.length<=520:=λhk=>by
   have:=hs.2 m (by rw [hrd,hz hk]);exact ⟨this.1,by rw [<- hlm];unfold ints;rw [jai];exact this.2⟩
  have hright:0<k->Ae l=true/\s.data.toList=Ah l:=λhk=>by
   obtain ⟨h1,h2⟩:=Lab.Sx (s:=s.data.toList) (by rw [hrd];exact hz hk);rw [hrd] at h1 h2;rw [<- hlm];exact ⟨h1,h2⟩
  have hpos:1<k->0<l.length:=λhk=>by
   have h1:=h0 1 hk;by_cases e:l=[]
   ·exfalso;have h2:=(hright jO).2;unfold Ano at h1;rw [h2,e,decide_eq_true (show Ao (Ah [])<0 by decide)] at h1;exact absurd h1 jS
   ·exact List.length_pos_iff.2 e
  obtain rfl | rfl | rfl | rfl | rfl | rfl | rfl | rfl:k=0\/k=1\/k=2\/k=3\/k=4\/k=5\/k=6\/k=7:=jO
  ·have K0:=Ayl (C+1) z W hZW;exact ⟨_,_,(hI.row hR hRl 0).trans r0,En,((hI.ask g0 A0).calls (enters_of func249 jK rfl) K0 rfl).mono λe w' ⟨h1,h2⟩=>⟨h1,hW.next jO h2⟩⟩
  ·exact ⟨_,_,(hI.row hR hRl 1).trans r1,En,((hI.ask g1 A1).calls (enters_of func250 jK rfl) (Aym (B+1) B b0 b1 b2 b3 s _ W hs.1 hSW hHW (A55 _ s W hTW (hfit jO).1 (by rw [hlm]))) rfl).mono λe w' ⟨h1,h2⟩=>⟨h1,hW.next jO h2⟩⟩
  ·exact ⟨_,_,(hI.row hR hRl 2).trans r2,En,((hI.ask g2 A2).calls (enters_of func252 jK rfl) (Ayn (B+1) s W hs.1 hSW) rfl).mono λe w' ⟨h1,h2⟩=>⟨h1,hW.next jO h2⟩⟩
  ·exact ⟨_,_,(hI.row hR hRl 3).trans r3,En,((hI.ask g3 A3).calls (enters_of func253 jK rfl) (Ayo B C b0 b1 b2 b3 A c l W hTW hHW hLW hCW hRW (hpos jO)) rfl).mono λe w' ⟨h1,h2⟩=>⟨h1,hW.next jO h2⟩⟩
  ·exact ⟨_,_,(hI.row hR hRl 4).trans r4,En,((hI.ask g4 A4).calls (enters_of func255 jK rfl) (Ayp B C b0 b1 b2 b3 A c l W hTW hHW hLW hRW (by have:=(hfit jO).2;omega)) rfl).mono λe w' ⟨h1,h2⟩=>⟨h1,hW.next jO h2⟩⟩
  ·exact ⟨_,_,(hI.row hR hRl 5).trans r5,En,((hI.ask g5 A5).calls (enters_of func257 jK rfl) (Ayq B C b0 b1 b2 b3 A c l W hTW hHW hLW hCW hRW (by have:=(hfit jO).2;omega)) rfl).mono λe w' ⟨h1,h2⟩=>⟨h1,hW.next jO h2⟩⟩
  ·have hA:=hI.ask g6 A6;have KE:=Ai0 _ l W hRW (hfit jO).2 (hright jO).1;have K6:=Ayr C A l.length c _ _ _ true W hLW hI.2.2.1 hI.2.2.2 KE;refine ⟨_,_,(hI.row hR hRl 6).trans r6,En,(Aev n6 _ _ 12 (!true) (λw'=>Lo C ⟨(Puny.Bq l).toArray⟩ true W w') W hA.2.1 (enters_of func260 jK rfl) K6 (λw' h=>?_)).mono λe w' ⟨h1,h2⟩=>⟨h1,?_⟩⟩
   ·exact ((h.ask g6 hA).1)
   ·exact ⟨hI.1.trans h2.1,λj j1 j2=>(h2.2.1 j j1 (by have:=hI.1.size;omega)).trans (hI.2.1 j j1 j2),h2.2.2.1,h2.2.2.2⟩
  ·exact ⟨_,_,(hI.row hR hRl 7).trans r7,En,((hI.ask g7 A7).calls (enters_of func262 jK rfl) (Ays (C+2) ⟨(Puny.Bq l).toArray⟩ W (by have:=hI.2.2.1;simp only [World.cell?,this];rfl)) rfl).mono λe w' ⟨h1,h2⟩=>⟨h1,hW.next jO h2⟩⟩
 ·obtain ⟨h1,h2,k,hk,hI⟩:=h.seq;have hw:=(show Pr (Ano s l z) 0 8=Lab.Fz s.data.toList by rw [<- hlm];exact Asd hrd)
  rw [hw] at h1 h2;have hI:Lo C ⟨(Qi l k).toArray⟩ (decide (6<k)) w w':=hI;refine ⟨h1,λh=>?_,‹Below w1.heap.size w1 w›.trans (hI.1.mono jO)⟩;have hI8:Lo C ⟨(Qi l 8).toArray⟩ (decide (6<8)) w w':=h2 h;have:=hI8.2.2.1;simp only [World.cell?,this];rfl
end
section
open Go.RowKit Utf
def Nb (bs:List UInt8):List UInt8:=if Lab.Fz bs=0 then Puny.Bq (ints (Au bs).1) else []
theorem Hk {w:World} {n:Nat} {o o2:Obj} (h:w.heap[n]? = some o):(w.alloc o2).heap[n]? = some o:=(Below.heap_alloc w o2 n (Array.getElem?_eq_some_iff.1 h).1).trans h
theorem Yn (t:Value) (s:ByteArray) (w:World) (hT:Table w t) (hs:Nj s) :
  Calls prog 220 #[t,.string s] w λe w'=>e=.returned (.tuple #[.string ⟨(Nb s.data.toList).toArray⟩,.int .i64 (Lab.Fz s.data.toList)])/\Below w.heap.size w w':=by
 have hT0:=hT;obtain ⟨b0,b1,b2,b3,rfl,-,-,-,-⟩:=hT0;obtain ⟨⟨m,z⟩,hrd⟩:∃ q,Au s.data.toList=q:=⟨_,rfl⟩
 obtain ⟨l,hlm⟩:∃ l,ints m=l:=⟨_,rfl⟩
 have hln:l.length=m.length:=by rw [<- hlm];unfold ints;rw [jai]
 have hcode:Nb s.data.toList=if Lab.Fz s.data.toList=0 then Puny.Bq l else []:=by unfold Nb;rw [hrd,<- hlm]
 rw [hcode];have KR:=jH (λW=>Tc s W hs.1 hrd);obtain ⟨B,hB⟩:∃ B,w.heap.size=B:=⟨_,rfl⟩
 have hv1:=Ab w (.cells #[.slice (some ⟨b0,0,none⟩) 74 74,.slice (some ⟨b1,0,none⟩) 10 10,.slice (some ⟨b2,0,none⟩) 11 11,.slice (some ⟨b3,0,none⟩) 42 42] 35);have hH0:=Ih w b0 b1 b2 b3 35;have hv2:=Ab (w.alloc (.cells #[.slice (some ⟨b0,0,none⟩) 74 74,.slice (some ⟨b1,0,none⟩) 10 10,.slice (some ⟨b2,0,none⟩) 11 11,.slice (some ⟨b3,0,none⟩) 42 42] 35)) (.cells #[.string s] 9);have hS0:=Jf (w.alloc (.cells #[.slice (some ⟨b0,0,none⟩) 74 74,.slice (some ⟨b1,0,none⟩) 10 10,.slice (some ⟨b2,0,none⟩) 11 11,.slice (some ⟨b3,0,none⟩) 42 42] 35)) (.string s) 9;have hsz0:((w.alloc (.cells #[.slice (some ⟨b0,0,none⟩) 74 74,.slice (some ⟨b1,0,none⟩) 10 10,.slice (some ⟨b2,0,none⟩) 11 11,.slice (some ⟨b3,0,none⟩) 42 42] 35)).alloc (.cells #[.string s] 9)).heap.size=B+2:=by simp [hB]
 have hszA:(w.alloc (.cells #[.slice (some ⟨b0,0,none⟩) 74 74,.slice (some ⟨b1,0,none⟩) 10 10,.slice (some ⟨b2,0,none⟩) 11 11,.slice (some ⟨b3,0,none⟩) 42 42] 35)).heap.size=B+1:=by simp [hB]
 rw [hszA] at hS0;rw [hB] at hH0;have HV:=jH (Aa hv1 hv2);have HH0:=jH (hH0.below hv2);have HS0:=jH hS0;have HSZ0:=jH hsz0;have HT:=jH hT;have HWF:=jH hs;have HRD:=jH hrd;have HLM:=jH hlm;have HLN:=jH hln;obtain ⟨x,hx⟩:∃ x,x=Lab.Fz s.data.toList:=⟨_,rfl⟩
 rw [<- hx];have HX:=jH hx;obtain ⟨q,hq⟩:∃ q,q=if x=0 then Puny.Bq l else []:=⟨_,rfl⟩
 rw [<- hq];have HQ:=jH hq;clear hq hx hT hs hrd hlm hln hcode hv1 hH0 hv2 hS0 hsz0 hszA;go_enter func220,ntmps220;go_wp2_with fail;refine (KR.out _).mono ?_;rintro e w1 ⟨A,c,rfl,hl,hb1⟩;rw [HLM.out,<- HLN.out] at hl;rw [<- HLN.out];obtain ⟨C,hC⟩:∃ C,w1.heap.size=C:=⟨_,rfl⟩
 have HB1:=jH hb1;have HL:=jH hl;clear hb1 hl;have s0:((((w1.alloc (.cells #[.slice A l.length c] 157)).alloc (.cells #[.int .i64 z] 3)).alloc (.cells #[.string ⟨#[]⟩] 9)).alloc (.cells #[.bool false] 4)).heap.size=C+1+1+1+1:=by simp [hC]
 go_wp2_with fail;refine (Dr (C+1+1+1+1) 7 _ _ _ s0).mono ?_;rintro e v1 h1;have A1:=jH h1.ask;have B1:=jH (Cr s0 h1);obtain ⟨rfl,s1,-,-,-⟩:=h1;go_wp2_with fail;refine (Dr (C+1+1+1+1+2) 4 _ _ _ s1).mono ?_;rintro e v2 h2;have A2:=jH h2.ask;have B2:=jH (Cr s1 h2);obtain ⟨rfl,s2,-,-,-⟩:=h2;go_wp2_with fail;refine (Dr (C+1+1+1+1+2+2) 11 _ _ _ s2).mono ?_;rintro e v3 h3;have A3:=jH h3.ask;have B3:=jH (Cr s2 h3);obtain ⟨rfl,s3,-,-,-⟩:=h3;go_wp2_with fail;refine (Dr (C+1+1+1+1+2+2+2) 10 _ _ _ s3).mono ?_;rintro e v4 h4;have A4:=jH h4.ask;have B4:=jH (Cr s3 h4);obtain ⟨rfl,s4,-,-,-⟩:=h4;go_wp2_with fail;refine (Dr (C+1+1+1+1+2+2+2+2) 8 _ _ _ s4).mono ?_;rintro e v5 h5;have A5:=jH h5.ask;have B5:=jH (Cr s4 h5);obtain ⟨rfl,s5,-,-,-⟩:=h5;go_wp2_with fail;refine (Dr (C+1+1+1+1+2+2+2+2+2) 9 _ _ _ s5).mono ?_;rintro e v6 h6;have A6:=jH h6.ask;have B6:=jH (Cr s5 h6);obtain ⟨rfl,s6,-,-,-⟩:=h6;go_wp2_with fail;refine (Dr (C+1+1+1+1+2+2+2+2+2+2) 12 _ _ _ s6).mono ?_;rintro e v7 h7;have A7:=jH h7.ask;have B7:=jH (Cr s6 h7);obtain ⟨rfl,s7,-,-,-⟩:=h7;go_wp2_with fail;refine (Dr (C+1+1+1+1+2+2+2+2+2+2+2) 5 _ _ _ s7).mono ?_;rintro e v8 h8;have A8:=jH h8.ask;have B8:=jH (Cr s7 h8);obtain ⟨rfl,s8,-,-,-⟩:=h8;go_wp2_with fail;obtain ⟨o,ho⟩:∃ o,o=v8.alloc (.cells #[Gk (C+1+1+1+1),Gk (C+1+1+1+1+2),Gk (C+1+1+1+1+2+2),Gk (C+1+1+1+1+2+2+2),Gk (C+1+1+1+1+2+2+2+2),Gk (C+1+1+1+1+2+2+2+2+2),Gk (C+1+1+1+1+2+2+2+2+2+2),Gk (C+1+1+1+1+2+2+2+2+2+2+2)] 284):=⟨_,rfl⟩
 have B9:Below v8.heap.size v8 o:=by rw [ho];exact Ab _ _
 obtain ⟨v0,hv0⟩:∃ v0,v0=(((w1.alloc (.cells #[.slice A l.length c] 157)).alloc (.cells #[.int .i64 z] 3)).alloc (.cells #[.string ⟨#[]⟩] 9)).alloc (.cells #[.bool false] 4):=⟨_,rfl⟩
 have B1:=B1.out;rw [<- hv0] at B1 s0;have hw10:Below w1.heap.size w1 v0:=by rw [hv0];exact (((Ab w1 _).alloc jS _).alloc (by simp;omega) _).alloc (by simp;omega) _
 have k0:v0.heap[C]? = some (.cells #[.slice A l.length c] 157 (0,0)):=by rw [hv0];exact Hk (Hk (Hk (by rw [<- hC];exact heap_alloc_new w1 _)))
 have k1:v0.heap[C+1]? = some (.cells #[.int .i64 z] 3 (0,0)):=by rw [hv0];exact Hk (Hk (by have h:=heap_alloc_new (w1.alloc (.cells #[.slice A l.length c] 157)) (.cells #[.int .i64 z] 3);rwa [World.size_alloc,hC] at h))
 have k2:v0.heap[C+2]? = some (.cells #[.string ⟨#[]⟩] 9 (0,0)):=by rw [hv0];exact Hk (by have h:=heap_alloc_new ((w1.alloc (.cells #[.slice A l.length c] 157)).alloc (.cells #[.int .i64 z] 3)) (.cells #[.string ⟨#[]⟩] 9);rwa [World.size_alloc,World.size_alloc,hC] at h)
 have k3:v0.heap[C+3]? = some (.cells #[.bool false] 4 (0,0)):=by rw [hv0];have h:=heap_alloc_new (((w1.alloc (.cells #[.slice A l.length c] 157)).alloc (.cells #[.int .i64 z] 3)).alloc (.cells #[.string ⟨#[]⟩] 9)) (.cells #[.bool false] 4);rwa [World.size_alloc,World.size_alloc,World.size_alloc,hC] at h
 have T1:Below v0.heap.size v0 v1:=B1;have T2:Below v0.heap.size v0 v2:=Aa T1 B2.out;have T3:Below v0.heap.size v0 v3:=Aa T2 B3.out;have T4:Below v0.heap.size v0 v4:=Aa T3 B4.out;have T5:Below v0.heap.size v0 v5:=Aa T4 B5.out;have T6:Below v0.heap.size v0 v6:=Aa T5 B6.out;have T7:Below v0.heap.size v0 v7:=Aa T6 B7.out;have T8:Below v0.heap.size v0 v8:=Aa T7 B8.out;have T9:Below v0.heap.size v0 o:=Aa T8 B9;have hsz:v8.heap.size<o.heap.size:=by rw [ho];simp
 have hBC:B+2<=C:=by have:=HB1.out.size;rw [HSZ0.out,hC] at this;exact this
 have hAll1:Below w.heap.size w w1:=Aa HV.out HB1.out;have hAllo:Below w1.heap.size w1 o:=Aa hw10 T9;have hHo:=(HH0.out.below HB1.out).below hAllo;have hSo:o.cell? ⟨B+1,0,none⟩=some (.string s):=by
  have h1:=HB1.out.cell (p:=⟨B+1,0,none⟩) (show B+1<_ by rw [HSZ0.out];omega);have h2:=hAllo.cell (p:=⟨B+1,0,none⟩) (show B+1<_ by rw [hC];omega);rw [h2,h1];exact HS0.out
 have hLo:o.cell? ⟨C,0,none⟩=some (.slice A l.length c):=by
  have:=(T9.block C jO).trans k0;simp [World.cell?,this]
 have hZo:o.cell? ⟨C+1,0,none⟩=some (.int .i64 z):=by
  have:=(T9.block (C+1) jO).trans k1;simp [World.cell?,this]
 have h2o:=(T9.block (C+2) jO).trans k2;have h3o:=(T9.block (C+3) jO).trans k3;have K:=Ac5 B C (C+1+1+1+1+2+2+2+2+2+2+2+2) (C+1+1+1+1) (C+1+1+1+1+2) (C+1+1+1+1+2+2) (C+1+1+1+1+2+2+2) (C+1+1+1+1+2+2+2+2) (C+1+1+1+1+2+2+2+2+2) (C+1+1+1+1+2+2+2+2+2+2) (C+1+1+1+1+2+2+2+2+2+2+2) b0 b1 b2 b3 A c s m l z w1 o HLM.out hC jO hAllo (HT.out.below hAll1) HL.out HWF.out HRD.out hHo hSo hLo hZo h2o h3o jO jO
  jO ((((((((A1.out.Ac B2.out).Ac B3.out).Ac B4.out).Ac B5.out).Ac B6.out).Ac B7.out).Ac B8.out).Ac B9) (by rw [ho];exact C8 v8 s8 _ _ rfl)
  jO (((((((A2.out.Ac B3.out).Ac B4.out).Ac B5.out).Ac B6.out).Ac B7.out).Ac B8.out).Ac B9) (by rw [ho];exact C8 v8 s8 _ _ rfl)
  jO ((((((A3.out.Ac B4.out).Ac B5.out).Ac B6.out).Ac B7.out).Ac B8.out).Ac B9) (by rw [ho];exact C8 v8 s8 _ _ rfl)
  jO (((((A4.out.Ac B5.out).Ac B6.out).Ac B7.out).Ac B8.out).Ac B9) (by rw [ho];exact C8 v8 s8 _ _ rfl)
  jO ((((A5.out.Ac B6.out).Ac B7.out).Ac B8.out).Ac B9) (by rw [ho];exact C8 v8 s8 _ _ rfl)
  jO (((A6.out.Ac B7.out).Ac B8.out).Ac B9) (by rw [ho];exact C8 v8 s8 _ _ rfl)
  jO ((A7.out.Ac B8.out).Ac B9) (by rw [ho];exact C8 v8 s8 _ _ rfl)
  jO (A8.out.Ac B9) (by rw [ho];exact C8 v8 s8 _ _ rfl)
 have ALL:=jH hAll1;rw [ho] at K;rw [<- HX.out] at K;refine K.mono ?_;rintro e w6 ⟨rfl,hcell,hb6⟩;have HB:=jH (Aa ALL.out hb6);have HC:=jH hcell;clear hb6 hcell k0 k1 k2 k3 h2o h3o hLo hZo hSo hHo hAllo hAll1 hBC hsz T1 T2 T3 T4 T5 T6 T7 T8 T9 B9 ho hv0 hw10 B1;by_cases h0:x=0
 ·subst h0;have hc6:=HC.out rfl;have hqe:q=Puny.Bq l:=by rw [HQ.out,if_pos rfl]
  subst hqe;go_wp2;go_ret2;exact ⟨rfl,HB.out⟩
 ·have hx0:(x == 0)=false:=by rw [beq_eq_false_iff_ne];exact h0
  have hqe:q=[]:=by rw [HQ.out,if_neg h0]
  subst hqe;clear h0;go_wp2;go_ret2;exact ⟨rfl,HB.out⟩
end
section
open Go.RowKit Utf
theorem Axo (g:Nat) (b:Bool) (w:World) (hc:w.cell? ⟨g,0,none⟩=some (.bool b)) :
  Calls prog 224 #[.pointer (some ⟨g,0,none⟩)] w λe w'=>e=.returned (.bool (!b))/\Below w.heap.size w w':=by
 cases b
 all_goals
  go_enter func224,ntmps224;go_wp2;go_ret;exact ⟨rfl,jan _ _⟩
theorem Axp (g:Nat) (s:ByteArray) (w:World) (hc:w.cell? ⟨g,0,none⟩=some (.string s)) :
  Calls prog 225 #[.pointer (some ⟨g,0,none⟩)] w λe w'=>e=.returned (.bool (decide (63<s.size)))/\Below w.heap.size w w':=by
 by_cases hz:63<s.size
 ·have hzz:(63:Int)<(s.size:Int):=jO
  rw [decide_eq_true hz];go_enter func225,ntmps225;go_wp2;go_ret;exact ⟨rfl,jan _ _⟩
 ·have hzz:¬ (63:Int)<(s.size:Int):=jO
  rw [decide_eq_false hz];go_enter func225,ntmps225;go_wp2;go_ret;exact ⟨rfl,jan _ _⟩
def Ln (D:Nat) (code:ByteArray) (w0 W:World):Prop :=
 Below D w0 W/\(∀ j,D+1<=j->j<w0.heap.size->W.heap[j]? = w0.heap[j]?)/\W.heap[D]? = some (.cells #[.string code] 9 (0,0))
theorem Ln.lt {D:Nat} {code:ByteArray} {w0 W:World} (h:Ln D code w0 W):D<W.heap.size:=(Array.getElem?_eq_some_iff.1 h.2.2).1
theorem Ln.Ac {D:Nat} {code:ByteArray} {w0 W W':World} (h:Ln D code w0 W) (hb:Below W.heap.size W W'):Ln D code w0 W':=by
 have hlt:=h.lt;have hs:=h.1.size;exact ⟨h.1.trans (hb.mono jO),λj h1 h2=>(hb.block j jO).trans (h.2.1 j h1 h2),(hb.block _ hlt).trans h.2.2⟩
theorem Ln.cell {D:Nat} {code:ByteArray} {w0 W:World} (h:Ln D code w0 W) {n:Nat} (hn:n<D) (o:Nat):W.cell? ⟨n,o,none⟩=w0.cell? ⟨n,o,none⟩:=h.1.cell (p:=⟨n,o,none⟩) hn
theorem Ln.held {D:Nat} {code:ByteArray} {w0 W:World} (h:Ln D code w0 W) {B b0 b1 b2 b3:Nat} (hn:B<D) (hH:I6 B b0 b1 b2 b3 w0):I6 B b0 b1 b2 b3 W :=
 ⟨jas hH.1 h.1.size,(h.cell hn 0).trans hH.2.1,(h.cell hn 1).trans hH.2.2.1,(h.cell hn 2).trans hH.2.2.2.1,(h.cell hn 3).trans hH.2.2.2.2⟩
theorem Ln.ask {D:Nat} {code:ByteArray} {w0 W:World} (h:Ln D code w0 W) {n:Nat} {x:Int} {g:Nat} {cb:Array Value} (hn:D+1<=n) (hA:D6 n x g cb w0):D6 n x g cb W :=
 hA.same h.1.size (h.2.1 n hn (by have:=hA.2.2;omega)) (h.2.1 (n+1) jO hA.2.2)
theorem Ln.row {D:Nat} {code:ByteArray} {w0 W:World} (h:Ln D code w0 W) {R:Nat} (hn:D+1<=R) (hR:R<w0.heap.size) (k:Nat):W.cell? ((⟨R,0,none⟩:Addr).add k)=w0.cell? ((⟨R,0,none⟩:Addr).add k) :=
 World.cell?_of_block (by rw [Bf];exact h.2.1 R hn hR)
theorem Ln.code {D:Nat} {code:ByteArray} {w0 W:World} (h:Ln D code w0 W):W.cell? ⟨D,0,none⟩=some (.string code):=by
 have:=h.2.2;simp only [World.cell?,this];rfl
theorem Axq (B U D b0 b1 b2 b3:Nat) (u code0:ByteArray) (cd:List UInt8) (x:Int) (w:World) (hH:I6 B b0 b1 b2 b3 w) (hU:w.cell? ⟨U,0,none⟩=some (.string u)) (h2:w.heap[D]? = some (.cells #[.string code0] 9 (0,0)))
  (KE:Calls prog 220 #[.agg #[.slice (some ⟨b0,0,none⟩) 74 74,.slice (some ⟨b1,0,none⟩) 10 10,.slice (some ⟨b2,0,none⟩) 11 11,.slice (some ⟨b3,0,none⟩) 42 42],.string u] w λe w'=>e=.returned (.tuple #[.string ⟨cd.toArray⟩,.int .i64 x])/\Below w.heap.size w w') :
  Calls prog 226 #[.pointer (some ⟨B,0,none⟩),.pointer (some ⟨U,0,none⟩),.pointer (some ⟨D,0,none⟩)] w λe w'=>e=.returned (.int .i64 x)/\Ln D ⟨cd.toArray⟩ w w':=by
 have KE:=jH KE;have H2:=jH h2;have hlt:D<w.heap.size:=(Array.getElem?_eq_some_iff.1 h2).1;have k2:w.cell? ⟨D,0,none⟩=some (.string code0):=by simp [World.cell?,h2]
 obtain ⟨hS,c0,c1,c2,c3⟩:=hH;clear h2;go_enter func226,ntmps226;go_wp2_with fail;refine KE.out.mono ?_;rintro e w2 ⟨rfl,hb⟩;have HB:=jH hb;have d1:=(hb.cell (p:=⟨D,0,none⟩) hlt).trans k2;have f1:w2.frozen? ⟨D,0,none⟩=false:=by have:=(hb.block D hlt).trans H2.out;simp [World.frozen?,this]
 clear hb k2;go_wp2;go_ret;have hB:=HB.out;have g2:=(hB.block D hlt).trans H2.out;refine ⟨rfl,?_,λj hj hlt=>?_,?_⟩
 ·exact (hB.mono (show D<=w.heap.size by omega)).setCell (p:=⟨D,0,none⟩) (jaa _) _
 ·rw [<- hB.block j hlt];simp [World.setCell,Array.getElem?_modify,show D ≠ j by omega]
 ·simp [World.setCell,Array.getElem?_modify,g2]
theorem Axr (D B:Nat) (c r:ByteArray) (w:World) (hc:w.cell? ⟨D,0,none⟩=some (.string c)) (hr:w.cell? ⟨B,0,none⟩=some (.string r)) :
  Calls prog 227 #[.pointer (some ⟨D,0,none⟩),.pointer (some ⟨B,0,none⟩)] w λe w'=>e=.returned (.bool (!(c.toList == r.toList)))/\Below w.heap.size w w':=by
 cases hq:(c.toList == r.toList)
 all_goals
  go_enter func227,ntmps227;go_wp2;go_ret;exact ⟨rfl,jan _ _⟩
def Ab9 (ok:Bool) (F rest u:ByteArray):Nat->Int
 | 0=>if !ok then 12 else 0
 | 1=>if decide (63<F.size) then 5 else 0
 | 2=>Lab.Fz u.data.toList
 | _=>if !((⟨(Nb u.data.toList).toArray⟩:ByteArray).toList == rest.toList) then 12 else 0
theorem A2s (ok:Bool) (F rest u:ByteArray):Pr (Ab9 ok F rest u) 0 4 =
  if !ok then 12 else if decide (63<F.size) then 5 else if Lab.Fz u.data.toList ≠ 0 then Lab.Fz u.data.toList else if !((⟨(Nb u.data.toList).toArray⟩:ByteArray).toList == rest.toList) then 12 else 0:=by
 simp only [Pr,Ab9];rw [Gs _ jD,Gs _ jD,Gs _ jD]
def Ot (u:ByteArray) (k:Nat):List UInt8:=if k<=2 then [] else Nb u.data.toList
def Ase (D:Nat) (u:ByteArray) (w0:World) (k:Nat) (W:World):Prop:=Ln D ⟨(Ot u k).toArray⟩ w0 W
theorem Ase.next {D:Nat} {u:ByteArray} {w0 W W':World} {k:Nat} (h:Ase D u w0 k W) (hk:k ≠ 2) (hb:Below W.heap.size W W'):Ase D u w0 (k+1) W':=by
 have e1:Ot u (k+1)=Ot u k:=by
  unfold Ot;by_cases h6:k<=2
  · rw [if_pos h6,if_pos jO]
  · rw [if_neg h6,if_neg jO]
 unfold Ase at h ⊢;rw [e1];exact h.Ac hb
theorem Asl (B C D R n0 n1 n3 b0 b1 b2 b3:Nat) (F rest u:ByteArray) (ok:Bool) (w2 w:World) (hD:w2.heap.size=D) (hBC:B+2<C) (hCD:C<D) (hw:Below w2.heap.size w2 w)
  (hT:Table w2 (.agg #[.slice (some ⟨b0,0,none⟩) 74 74,.slice (some ⟨b1,0,none⟩) 10 10,.slice (some ⟨b2,0,none⟩) 11 11,.slice (some ⟨b3,0,none⟩) 42 42])) (hu:Nj u)
  (hH:I6 B b0 b1 b2 b3 w) (hF:w.cell? ⟨B+1,0,none⟩=some (.string F)) (hQ:w.cell? ⟨B+2,0,none⟩=some (.string rest)) (hO:w.cell? ⟨C,0,none⟩=some (.bool ok)) (hU:w.cell? ⟨D,0,none⟩=some (.string u))
  (h2:w.heap[D+1]? = some (.cells #[.string ⟨#[]⟩] 9 (0,0))) (hR:D+2<=R) (hRl:R<w.heap.size)
  (g0:D+2<=n0) (A0:D6 n0 12 224 #[.pointer (some ⟨C,0,none⟩)] w) (r0:w.cell? ((⟨R,0,none⟩:Addr).add 0)=some (Gk n0))
  (g1:D+2<=n1) (A1:D6 n1 5 225 #[.pointer (some ⟨B+1,0,none⟩)] w) (r1:w.cell? ((⟨R,0,none⟩:Addr).add 1)=some (Gk n1))
  (r2:w.cell? ((⟨R,0,none⟩:Addr).add 2)=some (.func (.func 226) #[] #[.pointer (some ⟨B,0,none⟩),.pointer (some ⟨D,0,none⟩),.pointer (some ⟨D+1,0,none⟩)]))
  (g3:D+2<=n3) (A3:D6 n3 12 227 #[.pointer (some ⟨D+1,0,none⟩),.pointer (some ⟨B+2,0,none⟩)] w) (r3:w.cell? ((⟨R,0,none⟩:Addr).add 3)=some (Gk n3)) :
  Calls prog 222 #[.slice (some ⟨R,0,none⟩) 4 4] w λe w'=>e=.returned (.int .i64 (Pr (Ab9 ok F rest u) 0 4))/\Below (D+1) w w':=by
 have hI0:Ase (D+1) u w 0 w:=⟨jan _ _,λ_ _ _=>rfl,h2⟩
 refine (Uh ⟨R,0,none⟩ 4 (Ab9 ok F rest u) (Ase (D+1) u w) w jO hI0 ?_).mono (λe w' h=>?_)
 ·intro k hk h0 W hW;have hI:Ln (D+1) ⟨(Ot u k).toArray⟩ w W:=hW;have hlW:Below w2.heap.size w2 W:=hw.trans (hI.1.mono jO);have hTW:=hT.below hlW;have hHW:=hI.held (show B<D+1 by omega) hH;have hFW:=(hI.cell (show B+1<D+1 by omega) 0).trans hF;have hQW:=(hI.cell (show B+2<D+1 by omega) 0).trans hQ;have hOW:=(hI.cell (show C<D+1 by omega) 0).trans hO;have hUW:=(hI.cell (show D<D+1 by omega) 0).trans hU;obtain rfl | rfl | rfl | rfl:k=0\/k=1\/k=2\/k=3:=jO
  ·exact ⟨_,_,(hI.row hR hRl 0).trans r0,En,((hI.ask g0 A0).calls (enters_of func224 jK rfl) (Axo C ok W hOW) rfl).mono λe w' ⟨h1,h2⟩=>⟨h1,hW.next jO h2⟩⟩
  ·exact ⟨_,_,(hI.row hR hRl 1).trans r1,En,((hI.ask g1 A1).calls (enters_of func225 jK rfl) (Axp (B+1) F W hFW) rfl).mono λe w' ⟨h1,h2⟩=>⟨h1,hW.next jO h2⟩⟩
  ·have KE:=Yn _ u W hTW hu;have K3:=Axq B D (D+1) b0 b1 b2 b3 u _ _ _ W hHW hUW hI.2.2 KE;exact ⟨_,_,(hI.row hR hRl 2).trans r2,enters_of func226 jK rfl,K3.mono λe w' ⟨h1,h2⟩=>⟨h1,hI.1.trans h2.1,λj j1 j2=>(h2.2.1 j j1 (by have:=hI.1.size;omega)).trans (hI.2.1 j j1 j2),h2.2.2⟩⟩
  ·exact ⟨_,_,(hI.row hR hRl 3).trans r3,En,((hI.ask g3 A3).calls (enters_of func227 jK rfl) (Axr (D+1) (B+2) _ rest W hI.code hQW) rfl).mono λe w' ⟨h1,h2⟩=>⟨h1,hW.next jO h2⟩⟩
 ·obtain ⟨h1,-,k,hk,hI⟩:=h.seq;have hI:Ln (D+1) ⟨(Ot u k).toArray⟩ w w':=hI;exact ⟨h1,hI.1⟩
end
section
open Go.RowKit Utf
def Asj (bs:List UInt8):Int × List UInt8 × List UInt8:=match Puny.Ig (bs.drop 4) with
 | none=>(12,[],[])
 | some l=>if 63<bs.length then (5,[],[]) else if Lab.Ev l ≠ 0 then (Lab.Ev l,[],[]) else if Puny.Bq l ≠ bs.drop 4 then (12,[],[]) else (0,bs,Ah l)
theorem Aia {l:List Int} (h:Ae l=true):Nb (Ah l)=if Lab.Ev l=0 then Puny.Bq l else []:=by
 unfold Nb;rw [Lab.Vj h,Gy h,(Ed h).1]
theorem A5b (F:ByteArray) {o:Option (List Int)} {l:List Int} {ok:Bool} (ho:Puny.Ig (F.data.toList.drop 4)=o) (hl:o.getD []=l) (hok:o.isSome=ok) (hr:Ae l=true) {x:Int} (hx:Pr (Ab9 ok F (F.extract 4 F.size) ⟨(Ah l).toArray⟩) 0 4=x) :
  Asj F.data.toList=(x,if x=0 then F.data.toList else [],if x=0 then Ah l else []):=by
 have hsl:F.data.toList.length=F.size:=by simp
 rw [A2s] at hx;unfold Asj;rw [ho];have hu:(⟨(Ah l).toArray⟩:ByteArray).data.toList=Ah l:=rfl;rw [hu,Lab.Vj hr,Aia hr,ByteArray.toList_eq,ByteArray.toList_eq,extract_drop] at hx;cases o with
 | none =>
  subst hok;subst hx;rfl
 | some l' =>
  obtain rfl:l'=l:=hl;subst hok;rw [show (!(some l').isSome)=false from rfl,if_neg jD] at hx;simp only;rw [hsl];by_cases h63:63<F.size
  ·rw [decide_eq_true h63,if_pos rfl] at hx;subst hx;rw [if_pos h63];rfl
  ·rw [decide_eq_false h63,if_neg jD] at hx;rw [if_neg h63];by_cases hw:Lab.Ev l'=0
   ·rw [hw,if_neg jD,if_pos rfl] at hx;rw [hw,if_neg jD];have hq:((⟨(Puny.Bq l').toArray⟩:ByteArray).data.toList == F.data.toList.drop 4)=decide (Puny.Bq l'=F.data.toList.drop 4):=by rw [Bool.eq_iff_iff,beq_iff_eq,decide_eq_true_eq]
    by_cases he:Puny.Bq l'=F.data.toList.drop 4
    ·rw [hq,decide_eq_true he] at hx;subst hx;rw [if_neg (λh=>h he)];rfl
    ·rw [hq,decide_eq_false he] at hx;subst hx;rw [if_pos he];rfl
   ·rw [if_pos hw] at hx;subst hx;rw [if_pos hw,if_neg hw,if_neg hw]
theorem Ae7 (t:Value) (F:ByteArray) (w:World) (hT:Table w t) (h4:4<=F.size) (hF:F.size<=520) :
  Calls prog 188 #[t,.string F] w λe w'=>e=.returned (.tuple #[.string ⟨(Asj F.data.toList).2.1.toArray⟩,.string ⟨(Asj F.data.toList).2.2.toArray⟩,.int .i64 (Asj F.data.toList).1])/\Below w.heap.size w w':=by
 have hT0:=hT;obtain ⟨b0,b1,b2,b3,rfl,-,-,-,-⟩:=hT0;obtain ⟨o,ho⟩:∃ o,Puny.Ig (F.data.toList.drop 4)=o:=⟨_,rfl⟩
 obtain ⟨l,hl⟩:∃ l,o.getD []=l:=⟨_,rfl⟩
 obtain ⟨ok,hok⟩:∃ ok,o.isSome=ok:=⟨_,rfl⟩
 have hrl:Ae l=true/\l.length<=520:=by
  cases o with
  | none=>subst hl;exact ⟨rfl,by simp⟩
  | some l' =>
   obtain rfl:l'=l:=hl;obtain ⟨h1,-,h2⟩:=Puny.Afq ho;rw [jaj] at h2;have hsl:F.data.toList.length=F.size:=by simp
   exact ⟨h1,by omega⟩
 obtain ⟨hr,hn⟩:=hrl;have KD:=λW=>Ail (F.extract 4 F.size) W (by simp;omega);rw [extract_drop,ho] at KD;unfold Ws at KD;rw [hl,hok] at KD;have KD:=jH KD;have hfits:=Ae0 hr hn;have hen:=Gr l;obtain ⟨x,hx⟩:∃ x,Pr (Ab9 ok F (F.extract 4 F.size) ⟨(Ah l).toArray⟩) 0 4=x:=⟨_,rfl⟩
 rw [A5b F ho hl hok hr hx];simp only [];obtain ⟨p,hp⟩:∃ p,p=if x=0 then F.data.toList else []:=⟨_,rfl⟩
 obtain ⟨q,hq⟩:∃ q,q=if x=0 then Ah l else []:=⟨_,rfl⟩
 rw [<- hp,<- hq];obtain ⟨B,hB⟩:∃ B,w.heap.size=B:=⟨_,rfl⟩
 have hv1:=Ab w (.cells #[.slice (some ⟨b0,0,none⟩) 74 74,.slice (some ⟨b1,0,none⟩) 10 10,.slice (some ⟨b2,0,none⟩) 11 11,.slice (some ⟨b3,0,none⟩) 42 42] 35);have hH0:=Ih w b0 b1 b2 b3 35;have hv2:=Ab (w.alloc (.cells #[.slice (some ⟨b0,0,none⟩) 74 74,.slice (some ⟨b1,0,none⟩) 10 10,.slice (some ⟨b2,0,none⟩) 11 11,.slice (some ⟨b3,0,none⟩) 42 42] 35)) (.cells #[.string F] 9);have hS0:=Jf (w.alloc (.cells #[.slice (some ⟨b0,0,none⟩) 74 74,.slice (some ⟨b1,0,none⟩) 10 10,.slice (some ⟨b2,0,none⟩) 11 11,.slice (some ⟨b3,0,none⟩) 42 42] 35)) (.string F) 9;have hv3:=Ab ((w.alloc (.cells #[.slice (some ⟨b0,0,none⟩) 74 74,.slice (some ⟨b1,0,none⟩) 10 10,.slice (some ⟨b2,0,none⟩) 11 11,.slice (some ⟨b3,0,none⟩) 42 42] 35)).alloc (.cells #[.string F] 9)) (.cells #[.string (F.extract 4 F.size)] 9);have hQ0:=Jf ((w.alloc (.cells #[.slice (some ⟨b0,0,none⟩) 74 74,.slice (some ⟨b1,0,none⟩) 10 10,.slice (some ⟨b2,0,none⟩) 11 11,.slice (some ⟨b3,0,none⟩) 42 42] 35)).alloc (.cells #[.string F] 9)) (.string (F.extract 4 F.size)) 9;have hszA:(w.alloc (.cells #[.slice (some ⟨b0,0,none⟩) 74 74,.slice (some ⟨b1,0,none⟩) 10 10,.slice (some ⟨b2,0,none⟩) 11 11,.slice (some ⟨b3,0,none⟩) 42 42] 35)).heap.size=B+1:=by simp [hB]
 have hszB:((w.alloc (.cells #[.slice (some ⟨b0,0,none⟩) 74 74,.slice (some ⟨b1,0,none⟩) 10 10,.slice (some ⟨b2,0,none⟩) 11 11,.slice (some ⟨b3,0,none⟩) 42 42] 35)).alloc (.cells #[.string F] 9)).heap.size=B+2:=by simp [hB]
 have hsz0:(((w.alloc (.cells #[.slice (some ⟨b0,0,none⟩) 74 74,.slice (some ⟨b1,0,none⟩) 10 10,.slice (some ⟨b2,0,none⟩) 11 11,.slice (some ⟨b3,0,none⟩) 42 42] 35)).alloc (.cells #[.string F] 9)).alloc (.cells #[.string (F.extract 4 F.size)] 9)).heap.size=B+3:=by simp [hB]
 rw [hszA] at hS0;have hS1:=(hv3.cell (p:=⟨B+1,0,none⟩) (show B+1<_ by rw [hszB];omega)).trans hS0;rw [hszB] at hQ0;rw [hB] at hH0;have HV:=jH (Aa (Aa hv1 hv2) hv3);have HH0:=jH ((hH0.below hv2).below hv3);have HS0:=jH hS1;have HQ0:=jH hQ0;have HSZ0:=jH hsz0;have HT:=jH hT;have HWF:=jH hfits;have HP:=jH hp;have HQ:=jH hq;have HX:=jH hx;have HR:=jH hr;have HN:=jH hn;have h4z:(4:Int)<=(F.size:Int):=jO
 clear hp hq hx hT hr hn ho hl hok hfits hen hv1 hv2 hv3 hH0 hS0 hS1 hQ0 hszA hszB hsz0;go_enter func188,ntmps188;go_wp2_with fail;refine (KD.out _).mono ?_;rintro e w1 ⟨A,c,rfl,hl,hb1⟩;obtain ⟨C,hC⟩:∃ C,w1.heap.size=C:=⟨_,rfl⟩
 have HB1:=jH hb1;have KS:=Vf (.slice A l.length c) l (w1.alloc (.cells #[.bool ok] 4)) (hl.Ac (Ab _ _)) (by have:=HN.out;omega) HR.out (bs:=Ah l) (by unfold Awo;rw [if_pos HR.out]);have KS:=jH KS;clear hb1 hl;go_wp2_with fail;refine KS.out.mono ?_;rintro e w2 ⟨rfl,hb2⟩;obtain ⟨D,hD⟩:∃ D,w2.heap.size=D:=⟨_,rfl⟩
 obtain ⟨u,hu⟩:∃ u,(⟨(Ah l).toArray⟩:ByteArray)=u:=⟨_,rfl⟩
 have HX:=HX.out;have HWF:=HWF.out;have HU:=jH hu;rw [hu] at HX HWF ⊢;have HX:=jH HX;have HWF:=jH HWF;have HB2:=jH hb2;clear hb2 hu KS;have s0:((w2.alloc (.cells #[.string u] 9)).alloc (.cells #[.string ⟨#[]⟩] 9)).heap.size=D+1+1:=by simp [hD]
 go_wp2_with fail;refine (Dr (D+1+1) 12 _ _ _ s0).mono ?_;rintro e v1 h1;have A1:=jH h1.ask;have B1:=jH (Cr s0 h1);obtain ⟨rfl,s1,-,-,-⟩:=h1;go_wp2_with fail;refine (Dr (D+1+1+2) 5 _ _ _ s1).mono ?_;rintro e v2 h2;have A2:=jH h2.ask;have B2:=jH (Cr s1 h2);obtain ⟨rfl,s2,-,-,-⟩:=h2;go_wp2_with fail;refine (Dr (D+1+1+2+2) 12 _ _ _ s2).mono ?_;rintro e v3 h3;have A3:=jH h3.ask;have B3:=jH (Cr s2 h3);obtain ⟨rfl,s3,-,-,-⟩:=h3;go_wp2_with fail;obtain ⟨o,ho⟩:∃ o,o=v3.alloc (.cells #[Gk (D+1+1),Gk (D+1+1+2),.func (.func 226) #[] #[.pointer (some ⟨B,0,none⟩),.pointer (some ⟨D,0,none⟩),.pointer (some ⟨D+1,0,none⟩)],Gk (D+1+1+2+2)] 284):=⟨_,rfl⟩
 have B9:Below v3.heap.size v3 o:=by rw [ho];exact Ab _ _
 obtain ⟨v0,hv0⟩:∃ v0,v0=(w2.alloc (.cells #[.string u] 9)).alloc (.cells #[.string ⟨#[]⟩] 9):=⟨_,rfl⟩
 have B1:=B1.out;rw [<- hv0] at B1 s0;have hw20:Below w2.heap.size w2 v0:=by rw [hv0];exact (Ab w2 _).alloc jS _
 have k0:v0.heap[D]? = some (.cells #[.string u] 9 (0,0)):=by rw [hv0];exact Hk (by rw [<- hD];exact heap_alloc_new w2 _)
 have k1:v0.heap[D+1]? = some (.cells #[.string ⟨#[]⟩] 9 (0,0)):=by rw [hv0];have h:=heap_alloc_new (w2.alloc (.cells #[.string u] 9)) (.cells #[.string ⟨#[]⟩] 9);rwa [World.size_alloc,hD] at h
 have T1:Below v0.heap.size v0 v1:=B1;have T2:Below v0.heap.size v0 v2:=Aa T1 B2.out;have T3:Below v0.heap.size v0 v3:=Aa T2 B3.out;have T9:Below v0.heap.size v0 o:=Aa T3 B9;have hsz:v3.heap.size<o.heap.size:=by rw [ho];simp
 have hBC:B+3<=C:=by have:=HB1.out.size;rw [HSZ0.out,hC] at this;exact this
 have hCD:C+1<=D:=by have:=HB2.out.size;rw [World.size_alloc,hC,hD] at this;exact this
 have hA1:Below w1.heap.size w1 w2:=Aa (Ab w1 _) HB2.out;have hAll1:Below w.heap.size w w1:=Aa HV.out HB1.out;have hAll2:Below w.heap.size w w2:=Aa hAll1 hA1;have hAllo:Below w2.heap.size w2 o:=Aa hw20 T9;have hA1o:Below w1.heap.size w1 o:=Aa hA1 hAllo;have hHo:=(HH0.out.below HB1.out).below hA1o;have hFo:o.cell? ⟨B+1,0,none⟩=some (.string F):=by
  have h1:=HB1.out.cell (p:=⟨B+1,0,none⟩) (show B+1<_ by rw [HSZ0.out];omega);have h2:=hA1o.cell (p:=⟨B+1,0,none⟩) (show B+1<_ by rw [hC];omega);rw [h2,h1];exact HS0.out
 have hQo:o.cell? ⟨B+2,0,none⟩=some (.string (F.extract 4 F.size)):=by
  have h1:=HB1.out.cell (p:=⟨B+2,0,none⟩) (show B+2<_ by rw [HSZ0.out];omega);have h2:=hA1o.cell (p:=⟨B+2,0,none⟩) (show B+2<_ by rw [hC];omega);rw [h2,h1];exact HQ0.out
 have hOo:o.cell? ⟨C,0,none⟩=some (.bool ok):=by
  have h1:=HB2.out.cell (p:=⟨C,0,none⟩) (show C<_ by rw [World.size_alloc,hC];omega);have h2:=hAllo.cell (p:=⟨C,0,none⟩) (show C<_ by rw [hD];omega);rw [h2,h1,<- hC];exact Jf w1 _ _
 have hUo:o.cell? ⟨D,0,none⟩=some (.string u):=by
  have:=(T9.block D jO).trans k0;simp [World.cell?,this]
 have h2o:=(T9.block (D+1) jO).trans k1;have K:=Asl B C D (D+1+1+2+2+2) (D+1+1) (D+1+1+2) (D+1+1+2+2) b0 b1 b2 b3 F (F.extract 4 F.size) u ok w2 o hD jO jO hAllo (HT.out.below hAll2) HWF.out hHo hFo hQo hOo hUo h2o jO jO
  jO (((A1.out.Ac B2.out).Ac B3.out).Ac B9) (by rw [ho];exact C8 v3 s3 _ _ rfl)
  jO ((A2.out.Ac B3.out).Ac B9) (by rw [ho];exact C8 v3 s3 _ _ rfl)
  (by rw [ho];exact C8 v3 s3 _ _ rfl)
  jO (A3.out.Ac B9) (by rw [ho];exact C8 v3 s3 _ _ rfl)
 have hsF:o.heap.size > D+1:=jO
 rw [HX.out] at K;have ALL:=jH (Aa hAll2 hAllo);have HFo:=jH hFo;have HUo:=jH hUo;have hBD:=jH (show B+1<D+1/\D<D+1/\w.heap.size<=D+1 from ⟨by omega,by omega,by omega⟩);have HO:=jH ho;rw [ho] at K;refine K.mono ?_;rintro e w6 ⟨rfl,hb6⟩;have hb6':Below (D+1) o w6:=by rw [HO.out];exact hb6
 have hF6:=(hb6'.cell (p:=⟨B+1,0,none⟩) hBD.out.1).trans HFo.out;have hU6:=(hb6'.cell (p:=⟨D,0,none⟩) hBD.out.2.1).trans HUo.out;have HB:=jH (ALL.out.trans (hb6'.mono hBD.out.2.2));clear hb6 hb6' k0 k1 h2o hFo hQo hOo hUo hHo hAllo hAll1 hAll2 hBC hCD hsz T1 T2 T3 T9 B9 ho hv0 hw20 B1 hA1 hA1o hsF K;by_cases h0:x=0
 ·subst h0;have hpe:p=F.data.toList:=by rw [HP.out,if_pos rfl]
  have hqe:q=Ah l:=by rw [HQ.out,if_pos rfl]
  have R1:=jH (show (⟨p.toArray⟩:ByteArray)=F by rw [hpe]);have R2:=jH (show (⟨q.toArray⟩:ByteArray)=u by rw [hqe];exact HU.out);clear hpe hqe;go_wp2;go_quiet (fail);go_wp2;go_ret3;exact ⟨by rw [R1.out,R2.out];rfl,below_drewN HB.out _⟩
 ·have hx0:(x == 0)=false:=by rw [beq_eq_false_iff_ne];exact h0
  have hpe:p=[]:=by rw [HP.out,if_neg h0]
  have hqe:q=[]:=by rw [HQ.out,if_neg h0]
  subst hpe hqe;clear h0;go_wp2;go_ret3;exact ⟨rfl,HB.out⟩
end
section
open Go.RowKit Utf
def wfE (bs:List UInt8):Int × List UInt8 × List UInt8:=if Lab.Fz bs=0 then (0,Lab.sign ++ Nb bs,bs) else (Lab.Fz bs,[],[])
theorem A1p (c:List UInt8):(⟨#[120,110,45,45]⟩:ByteArray) ++ (⟨c.toArray⟩:ByteArray)=⟨(Lab.sign ++ c).toArray⟩:=by
 apply ByteArray.ext;rw [ByteArray.data_append];simp [Lab.sign]
theorem Ab2 (t:Value) (F:ByteArray) (w:World) (hT:Table w t) (hF:Nj F) :
  Calls prog 186 #[t,.string F] w λe w'=>e=.returned (.tuple #[.string ⟨(wfE F.data.toList).2.1.toArray⟩,.string ⟨(wfE F.data.toList).2.2.toArray⟩,.int .i64 (wfE F.data.toList).1])/\Below w.heap.size w w':=by
 have K:=λW (h:Below w.heap.size w W)=>Yn t F W (hT.below h) hF;obtain ⟨P,hP⟩:∃ P,P=wfE F.data.toList:=⟨_,rfl⟩
 rw [<- hP];unfold wfE at hP;have hsh:Lab.Fz F.data.toList=0->(Nb F.data.toList).length<=59:=λh=>by
  unfold Nb;rw [if_pos h];unfold Lab.Fz at h;split at h
  · exact (Lab.Od h).short
  · exact absurd h jD
 generalize Lab.Fz F.data.toList=x at K hP hsh;generalize Nb F.data.toList=c at K hP hsh;have K:=jH K;have HP:=jH hP;obtain ⟨b0,b1,b2,b3,rfl,-,-,-,-⟩:=hT;clear hF hP;by_cases h0:x=0
 ·subst h0;have R:=jH (show P=(0,Lab.sign ++ c,F.data.toList) by rw [HP.out,if_pos rfl]);have hsh:=hsh rfl;go_enter func186,ntmps186;go_wp2_with fail;refine (K.out _ (Ab _ _)).mono ?_;rintro e w2 ⟨rfl,hb2⟩;have BX:=jH (Lu hb2);clear hb2;go_wp2;go_ret3;exact ⟨by rw [R.out];show Ending.returned (.tuple #[.string ((⟨#[120,110,45,45]⟩:ByteArray) ++ (⟨c.toArray⟩:ByteArray)),.string F,.int .i64 0])=_;rw [A1p],BX.out.1⟩
 ·have R:=jH (show P=(x,[],[]) by rw [HP.out,if_neg h0]);have hx0:(x == 0)=false:=by rw [beq_eq_false_iff_ne];exact h0
  clear h0;go_enter func186,ntmps186;go_wp2_with fail;refine (K.out _ (Ab _ _)).mono ?_;rintro e w2 ⟨rfl,hb2⟩;have BX:=jH (Lu hb2);clear hb2;go_wp2;go_ret3;exact ⟨by rw [R.out];rfl,BX.out.1⟩
theorem Q4 {L:List Int} (hr:Ae L=true) (hf:Fold.fold L=L) (ha:Lab.Eb (Ah L)=true):(((Ah L).take 4).map Af == Lab.sign)=decide ((Ah L).take 4=Lab.sign):=by
 have hs:=Lab.Du.1 ha;have hc:Lab.chars (Ah L)=L:=Lab.Jp (Lab.Di hs) hr (Dv _ hs);have hA:Norm.Eb L:=by
  intro c hc';rw [<- hc] at hc';obtain ⟨b,hb,rfl⟩:=List.mem_map.1 hc';have:=hs b hb;omega
 rw [Norm.Fu hA] at hf;have hx:∀ b ∈ Ah L,Af b=b:=by
  intro b hb;have hm:(b.toNat:Int) ∈ L:=by rw [<- hc];exact List.mem_map.2 ⟨b,hb,rfl⟩
  obtain ⟨i,hi,he⟩:=List.getElem_of_mem hm;have h2:=congrArg (λl:List Int=>l[i]?) hf;simp only [List.getElem?_map,List.getElem?_eq_getElem hi,Option.map_some,Option.some.injEq] at h2;rw [he] at h2;have h3:¬ (65<=b.toNat/\b.toNat<=90):=by
   intro h;rw [if_pos jO] at h2;omega
  unfold Af;rw [if_neg h3]
 have hmap:((Ah L).take 4).map Af=(Ah L).take 4:=by
  rw [List.map_congr_left (g:=id) (λb hb=>hx b (List.mem_of_mem_take hb)),List.map_id]
 rw [hmap,Bool.eq_iff_iff,beq_iff_eq,decide_eq_true_eq]
theorem Ade (t:Value) (s:ByteArray) (w:World) (hT:Table w t) (hs:Cx s) :
  Calls prog 154 #[t,.string s] w λe w'=>e=.returned (.tuple #[.string ⟨(Lab.Dz s.data.toList).2.1.toArray⟩,.string ⟨(Lab.Dz s.data.toList).2.2.toArray⟩,.int .i64 (Lab.Dz s.data.toList).1])/\Below w.heap.size w w':=by
 have KF:=λW (h:Below w.heap.size w W)=>hs.fold t W (hT.below h);obtain ⟨P,hP⟩:∃ P,P=Lab.Dz s.data.toList:=⟨_,rfl⟩
 rw [<- hP];unfold Lab.Dz at hP;have hT0:=hT;by_cases hz:(Au s.data.toList).2=-1
 case neg =>
  rw [if_neg hz] at KF hP;rw [decide_eq_false hz] at KF;have KF:=jH KF;have R:=jH hP;obtain ⟨b0,b1,b2,b3,rfl,-,-,-,-⟩:=hT0;clear hP hz hs;go_enter func154,ntmps154;go_wp2_with fail;refine (KF.out _ (Ab _ _)).mono ?_;rintro e w2 ⟨rfl,hb2⟩;have BX:=jH (Lu hb2);clear hb2;go_wp2;go_ret3;exact ⟨by rw [R.out];rfl,BX.out.1⟩
 rw [if_pos hz] at KF hP;rw [decide_eq_true hz] at KF;obtain ⟨hr0,-⟩:=Lab.Sx hz;have hlen:(Fold.fold (ints (Au s.data.toList).1)).length<=520:=(hs.2 (Au s.data.toList).1 (by rw [<- hz])).2;have hr:=El hr0;have hff:=Fold.Le (ints (Au s.data.toList).1);obtain ⟨L,hL⟩:∃ L,Fold.fold (ints (Au s.data.toList).1)=L:=⟨_,rfl⟩
 rw [hL] at KF hP hlen hr hff;have hel:=Gr L;have hsg:=Q4 hr hff;have hwide:=Ae0 hr hlen;have hwl:=Lab.Vj hr;have hcl:=Aia hr;have hal:Lab.Eb (Ah L)=true->(Ah L).length=L.length:=λha=>by
  have hs:=Lab.Du.1 ha;have hc:Lab.chars (Ah L)=L:=Lab.Jp (Lab.Di hs) hr (Dv _ hs);have:=congrArg List.length hc;rw [<- this];unfold Lab.chars;rw [jai]
 unfold Lab.Eo at hP;obtain ⟨X,hX⟩:∃ X,Ah L=X:=⟨_,rfl⟩
 rw [hX] at KF hP hel hsg hwide hwl hcl hal;have KE:=λW=>Hi ⟨X.toArray⟩ W (by rw [Jc];omega);have KW:=λW (h:Below w.heap.size w W)=>Ab2 t ⟨X.toArray⟩ W (hT.below h) hwide;have KS:=λW=>Ai9 ⟨X.toArray⟩ W (by rw [Jc];omega);have KP:=λW=>Ao7 ⟨X.toArray⟩ W (by rw [Jc];omega);change ∀ W,Calls _ _ _ W λe w'=>e=.returned (.int .i64 (Ao X))/\W=w' at KE;change ∀ W,Calls _ _ _ W λe w'=>e=.returned (.bool ((X.take 4).map Af == Lab.sign))/\Below W.heap.size W w' at KS;change ∀ W,Calls _ _ _ W λe w'=>e=.returned (.int .i64 (Lab.F9 X))/\Below W.heap.size W w' at KP;have HP:=jH hP;have KF:=jH KF;have KE0:=jH KE;have KW:=jH KW;have KS0:=jH KS;have KP0:=jH KP;have HT:=jH hT;obtain ⟨b0,b1,b2,b3,rfl,-,-,-,-⟩:=hT0;clear hP KE KS KP hz hs hT;rcases Lab.Gg X with ⟨ha,he⟩ | ⟨ha,he⟩
 case inr =>
  have R:=jH (show P=wfE X by
   rw [HP.out,if_pos ha];unfold wfE;rw [hwl,hcl];by_cases h:Lab.Ev L=0
   · rw [if_pos h,if_pos h,if_pos h]
   · rw [if_neg h,if_neg h])
  have KE:=KE0.out;generalize Ao X=ei at KE he;have KE:=jH KE;clear ha hr hff hel hsg hwide hwl hcl hal hlen hX hL HP;go_enter func154,ntmps154;go_wp2_with fail;refine (KF.out _ (Ab _ _)).mono ?_;rintro e w2 ⟨rfl,hb2⟩;have BX:=jH (Lu hb2);obtain ⟨hS5,d0,d1,d2,d3⟩:=BX.out.2;clear hb2;go_wp2_with fail;refine (KE.out w2).mono ?_;rintro e w3 ⟨rfl,rfl⟩;go_wp2_with fail;refine (KW.out w2 BX.out.1).mono ?_;rintro e w4 ⟨rfl,hb4⟩;have B4:=jH (Aa BX.out.1 hb4);clear hb4;go_wp2;go_ret3;exact ⟨by rw [R.out];rfl,B4.out⟩
 have KE:=KE0.out;rw [he] at KE;have KE:=jH KE;have hP1:=HP.out;rw [if_neg (by rw [ha];decide)] at hP1;have hln:=hal ha;have hsg:=hsg ha;by_cases h4:X.take 4=Lab.sign
 ·have R:=jH (show P=Asj X by
   rw [hP1,if_pos h4];rfl)
  have KS:=KS0.out;rw [hsg,decide_eq_true h4] at KS;have KS:=jH KS;have h4n:4<=X.length:=by
   have:=congrArg List.length h4;rw [jak] at this;have:min 4 X.length=4:=this;omega
  have KA:=jH (λW (h:Below w.heap.size w W)=>Ae7 _ ⟨X.toArray⟩ W (HT.out.below h) (by rw [Jc];omega) (by rw [Jc];omega));clear ha hr hff hel hsg hwide hwl hcl hal hlen hX hL HP hP1 h4 h4n hln he;go_enter func154,ntmps154;go_wp2_with fail;refine (KF.out _ (Ab _ _)).mono ?_;rintro e w2 ⟨rfl,hb2⟩;have BX:=jH (Lu hb2);have HD:=jH BX.out.2;clear hb2;go_wp2_with fail;refine (KE.out w2).mono ?_;rintro e w3 ⟨rfl,rfl⟩;go_wp2_with fail;refine (KS.out w2).mono ?_;rintro e w3 ⟨rfl,hb3⟩;have B3:=jH (Aa BX.out.1 hb3);obtain ⟨hS5,d0,d1,d2,d3⟩:=HD.out.below hb3;clear hb3;go_wp2_with fail;refine (KA.out w3 B3.out).mono ?_;rintro e w4 ⟨rfl,hb4⟩;have B4:=jH (Aa B3.out hb4);clear hb4;go_wp2;go_ret3;exact ⟨by rw [R.out];rfl,B4.out⟩
 ·have KS:=KS0.out;rw [hsg,decide_eq_false h4] at KS;have KS:=jH KS;rw [if_neg h4] at hP1;have KP:=KP0.out;generalize Lab.F9 X=pe at KP hP1;have KP:=jH KP;have HP1:=jH hP1;clear ha hr hff hel hsg hwide hwl hcl hal hlen hX hL HP hP1 h4 hln he;by_cases h0:pe=0
  ·subst h0;have R:=jH (show P=(0,X,X) by rw [HP1.out,if_pos rfl]);go_enter func154,ntmps154;go_wp2_with fail;refine (KF.out _ (Ab _ _)).mono ?_;rintro e w2 ⟨rfl,hb2⟩;have BX:=jH (Lu hb2);clear hb2;go_wp2_with fail;refine (KE.out w2).mono ?_;rintro e w3 ⟨rfl,rfl⟩;go_wp2_with fail;refine (KS.out w2).mono ?_;rintro e w3 ⟨rfl,hb3⟩;have B3:=jH (Aa BX.out.1 hb3);clear hb3;go_wp2_with fail;refine (KP.out w3).mono ?_;rintro e w4 ⟨rfl,hb4⟩;have B4:=jH (Aa B3.out hb4);clear hb4;go_wp2;go_ret3;exact ⟨by rw [R.out];rfl,B4.out⟩
  ·have R:=jH (show P=(pe,[],[]) by rw [HP1.out,if_neg h0]);have hx0:(pe == 0)=false:=by rw [beq_eq_false_iff_ne];exact h0
   clear h0;go_enter func154,ntmps154;go_wp2_with fail;refine (KF.out _ (Ab _ _)).mono ?_;rintro e w2 ⟨rfl,hb2⟩;have BX:=jH (Lu hb2);clear hb2;go_wp2_with fail;refine (KE.out w2).mono ?_;rintro e w3 ⟨rfl,rfl⟩;go_wp2_with fail;refine (KS.out w2).mono ?_;rintro e w3 ⟨rfl,hb3⟩;have B3:=jH (Aa BX.out.1 hb3);clear hb3;go_wp2_with fail;refine (KP.out w3).mono ?_;rintro e w4 ⟨rfl,hb4⟩;have B4:=jH (Aa B3.out hb4);clear hb4;go_wp2;go_ret3;exact ⟨by rw [R.out];rfl,B4.out⟩
theorem Amq (t:Value) (s:ByteArray) (w:World) (hT:Table w t) (hs:Cx s):Calls prog 129 #[t,.string s] w λe w'=>e=.returned (.tuple #[.string ⟨(Lab.Dz s.data.toList).2.1.toArray⟩,.int .i64 (Lab.Dz s.data.toList).1])/\Below w.heap.size w w':=by
 have K:=λW (h:Below w.heap.size w W)=>Ade t s W (hT.below h) hs;generalize Lab.Dz s.data.toList=P at K ⊢;have K:=jH K;obtain ⟨b0,b1,b2,b3,rfl,-,-,-,-⟩:=hT;clear hs;obtain ⟨x,a,u⟩:=P;go_enter func129,ntmps129;go_wp2_with fail;refine (K.out _ (Ab _ _)).mono ?_;rintro e w2 ⟨rfl,hb2⟩;have BX:=jH (Lu hb2);clear hb2;go_wp2;go_ret2;exact ⟨rfl,BX.out.1⟩
theorem A2e (t:Value) (s:ByteArray) (w:World) (hT:Table w t) (hs:Cx s):Calls prog 130 #[t,.string s] w λe w'=>e=.returned (.tuple #[.string ⟨(Lab.Dz s.data.toList).2.2.toArray⟩,.int .i64 (Lab.Dz s.data.toList).1])/\Below w.heap.size w w':=by
 have K:=λW (h:Below w.heap.size w W)=>Ade t s W (hT.below h) hs;generalize Lab.Dz s.data.toList=P at K ⊢;have K:=jH K;obtain ⟨b0,b1,b2,b3,rfl,-,-,-,-⟩:=hT;clear hs;obtain ⟨x,a,u⟩:=P;go_enter func130,ntmps130;go_wp2_with fail;refine (K.out _ (Ab _ _)).mono ?_;rintro e w2 ⟨rfl,hb2⟩;have BX:=jH (Lu hb2);clear hb2;go_wp2;go_ret2;exact ⟨rfl,BX.out.1⟩
end
