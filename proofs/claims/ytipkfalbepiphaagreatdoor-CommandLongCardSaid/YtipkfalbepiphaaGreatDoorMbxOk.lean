import Derived.Test.YtipkfalbepiphaaGreatDoorMbxTake
import Derived.Test.YtipkfalbepiphaaGreatDoorDomEnd
import Derived.Test.YtipkfalbepiphaaGreatDoorPrecEnd
set_option maxRecDepth 100000
set_option maxHeartbeats 4000000
namespace Go.Proofs.YtipkfalbepiphaaGreatDoor
open Tryz
section
open Go.RowKit Utf
namespace Mbx
theorem A5x {T:ByteArray} (h:0<T.size):((T.extract (T.size - 1) T.size).toList == [93])=true->∃ x,T.data.toList=x ++ [93]/\T.extract 0 (T.size - 1)=⟨x.toArray⟩:=by
 intro e;have a1:=Lab.Q0 (s:=T) (k:=T.size - 1) jO 93;rw [show T.size - 1+1=T.size by omega,e] at a1;have a2:Lab.D4 T.data.toList (T.size - 1)=((93:UInt8).toNat:Int):=by simpa using a1.symm
 rw [Lab.Fa (show T.size - 1<T.size by omega)] at a2;have a3:T[T.size - 1]=93:=UInt8.toNat_inj.1 jO;refine ⟨T.data.toList.take (T.size - 1),?_,?_⟩
 ·have hl:T.data.toList.length=T.size:=by simp
  have e1:T.data.toList.drop (T.size - 1)=[93]:=by
   rw [List.drop_eq_getElem_cons jO,List.drop_of_length_le jO];have:T.data.toList[T.size - 1]=T[T.size - 1]:=by simp;rfl
   rw [this,a3]
  rw [<- e1,List.take_append_drop]
 ·apply ByteArray.ext;rw [ByteArray.data_extract];apply Array.toList_inj.1;rw [Array.toList_extract,List.extract_eq_take_drop];simp
theorem A5y {T:ByteArray} (h:0<T.size) (e:((T.extract (T.size - 1) T.size).toList == [93])=false):∀ x,T.data.toList ≠ x ++ [93]:=by
 intro x hx;have a1:=Lab.Q0 (s:=T) (k:=T.size - 1) jO 93;rw [show T.size - 1+1=T.size by omega,e,Lab.Fa (show T.size - 1<T.size by omega)] at a1;have hl:T.data.toList.length=T.size:=by simp
 have hq:T.data.toList[T.size - 1]' jO=T[T.size - 1]:=by simp;rfl
 have:T[T.size - 1]=93:=by
  rw [<- hq];have hxl:=congrArg List.length hx;rw [jab,List.length_singleton,hl] at hxl;simp only [hx];rw [List.getElem_append_right jO];simp
 rw [this] at a1;simp at a1
end Mbx
theorem As3 (T:ByteArray) (w:World) (h:T.size<=100000) (he:T.size=0\/(0<T.size/\((T.extract (T.size - 1) T.size).toList == [93])=false)):Calls prog 102 #[.string T,.string ⟨#[93]⟩] w λe w'=>e=.returned (.tuple #[.string T,.bool false])/\w=w':=by
 rcases he with h0 | ⟨h0,he⟩
 ·have hz:¬ (1:Int)<=(T.size:Int):=jO
  clear h0;go_enter func102,ntmps102;go_wp2;go_ret2;exact ⟨rfl,rfl⟩
 ·have hz:(1:Int)<=(T.size:Int):=jO
  go_enter func102,ntmps102;go_wp2;go_ret2;exact ⟨rfl,rfl⟩
theorem Am5 (T:ByteArray) (w:World) (h:T.size<=100000) (h0:0<T.size) (he:((T.extract (T.size - 1) T.size).toList == [93])=true):Calls prog 102 #[.string T,.string ⟨#[93]⟩] w λe w'=>e=.returned (.tuple #[.string (T.extract 0 (T.size - 1)),.bool true])/\w=w':=by
 have hz:(1:Int)<=(T.size:Int):=jO
 go_enter func102,ntmps102;go_wp2;go_ret2;exact ⟨rfl,rfl⟩
theorem Abn (s:ByteArray) (w:World) (hs:s.size<=100000) (hb:Mbx.E7 s.data.toList=true):Calls prog 75 #[.string s] w λe w'=>e=.returned (.bool (Mbx.Kg s.data.toList))/\Below w.heap.size w w':=by
 obtain ⟨t,ht⟩:=Mbx.Asq hb;have hl:s.data.toList.length=s.size:=by simp
 have h1:(1:Int)<=(s.size:Int):=by rw [<- hl,ht,jac];omega
 obtain ⟨T,hT⟩:∃ T,T=s.extract 1 s.size:=⟨_,rfl⟩
 have hTs:T.size=s.size - 1:=by rw [hT,ByteArray.size_extract];omega
 have hTl:T.data.toList=t:=by
  rw [hT,ByteArray.data_extract,Array.toList_extract,List.extract_eq_take_drop,ht,List.drop_succ_cons,List.drop_zero];have:t.length=s.size - 1:=by rw [<- hl,ht];simp
  rw [List.take_of_length_le jO]
 rw [ht,<- hTl];obtain ⟨R,hR⟩:∃ R,R=Mbx.Kg (91::T.data.toList):=⟨_,rfl⟩
 rw [<- hR];have hT1:T.size<=100000:=jO
 have hTe:=jH hT.symm;have hno:(T.size=0\/(0<T.size/\((T.extract (T.size - 1) T.size).toList == [93])=false))->Calls prog 75 #[.string s] w λe w'=>e=.returned (.bool R)/\Below w.heap.size w w':=λhe=>by
  have KC:=jH (λW=>As3 T W hT1 he);have E:Hid (R=false):=jH (by
   rw [hR];refine Mbx.Azq ?_;rcases he with h0 | ⟨h0,he⟩
   ·intro x hx;have:=congrArg List.length hx;rw [jab,List.length_singleton] at this;have h2:T.data.toList.length=T.size:=by simp
    omega
   ·exact Mbx.A5y h0 he)
  clear hR hT hTs hTl ht hb hl he hT1 hs;go_enter func75,ntmps75;go_wp2_with fail;rw [hTe.out];refine (KC.out w).mono ?_;rintro e w1 ⟨rfl,rfl⟩;go_wp2;go_ret;exact ⟨by rw [E.out];rfl,jan _ _⟩
 by_cases h0:T.size=0
 ·exact hno (.inl h0)
 cases he:((T.extract (T.size - 1) T.size).toList == [93])
 ·exact hno (.inr ⟨by omega,he⟩)
 ·obtain ⟨x,hx,hxe⟩:=Mbx.A5x jO he;have KC:=jH (λW=>Am5 T W hT1 jO he);have E:=hR;rw [hx,Mbx.At3] at E;have hxs:(⟨x.toArray⟩:ByteArray).size<=100000:=by rw [<- hxe,ByteArray.size_extract];omega
  rw [hxe] at KC;have KI:=λW=>Vy ⟨x.toArray⟩ W hxs;have KL:=λW=>Abg ⟨x.toArray⟩ W hxs;have hxx:(⟨x.toArray⟩:ByteArray).data.toList=x:=rfl;rw [hxx] at KI KL;generalize decide ((Au x).2=-1)=a at E KI;generalize x.all Mbx.Nt=b at E KL;have E:=jH E;have KI:=jH KI;have KL:=jH KL;clear hno h0 hR hT hTs hTl ht hb hl he hT1 hs hx hxe hxx;cases a
  ·go_enter func75,ntmps75;go_wp2_with fail;rw [hTe.out];refine (KC.out w).mono ?_;rintro e w1 ⟨rfl,rfl⟩;go_wp2_with fail;refine (KI.out w).mono ?_;rintro e w1 ⟨rfl,hb1⟩;have B1:=jH hb1;clear hb1;go_wp2;go_ret;exact ⟨by rw [E.out];rfl,B1.out⟩
  ·go_enter func75,ntmps75;go_wp2_with fail;rw [hTe.out];refine (KC.out w).mono ?_;rintro e w1 ⟨rfl,rfl⟩;go_wp2_with fail;refine (KI.out w).mono ?_;rintro e w1 ⟨rfl,hb1⟩;have B1:=jH hb1;clear hb1;go_wp2_with fail;refine (KL.out w1).mono ?_;rintro e w2 ⟨rfl,hb2⟩;have B2:=jH (Aa B1.out hb2);clear hb2;go_wp2;go_ret;exact ⟨by rw [E.out];cases b<;>rfl,B2.out⟩
theorem Api (t:Value) (x y:ByteArray) (w:World) (hT:Table w t) (hx:x.size<=100000) (hy:Cx y):Calls prog 53 #[t,.agg #[.string x,.string y]] w λe w'=>e=.returned (.int .i64 (Mbx.Ga x.data.toList y.data.toList))/\Below w.heap.size w w':=by
 obtain ⟨R,hR⟩:∃ R,R=Mbx.Ga x.data.toList y.data.toList:=⟨_,rfl⟩
 rw [<- hR];have hxl:x.data.toList.length=x.size:=by simp
 have hT0:=hT;obtain ⟨b0,b1,b2,b3,rfl,-,-,-,-⟩:=hT0;obtain ⟨B,hB⟩:∃ B,w.heap.size=B:=⟨_,rfl⟩
 have M0:=jH (Amg.new hB b0 b1 b2 b3 x y);have B0:=jH (Bl w (.cells #[.slice (some ⟨b0,0,none⟩) 74 74,.slice (some ⟨b1,0,none⟩) 10 10,.slice (some ⟨b2,0,none⟩) 11 11,.slice (some ⟨b3,0,none⟩) 42 42] 35) (.cells #[.string x,.string y] 23));have hTB:=hT.below B0.out;have KA:=jH (λW (h:Below w.heap.size w W)=>Ayg _ y W (hT.below h) hy);have KI:=jH (λW=>Vy x W hx);have KQ:=jH (λW=>Abh x W hx);have KH:=jH (λW=>Yw x y W);have KL:=jH (λW h=>Abn y W hy.1 h);unfold Mbx.Ga at hR;clear hT hy hTB;by_cases h1:x.size=0
 ·obtain rfl:x=⟨#[]⟩:=ByteArray.ext (Array.eq_empty_of_size_eq_zero h1);rw [if_pos (show (⟨#[]⟩:ByteArray).data.toList=[] from rfl)] at hR;have E:=jH hR;clear hR h1 hxl hx;go_enter func53,ntmps53;go_wp2;go_ret;exact ⟨by rw [E.out];rfl,by first | exact B0.out | exact hB ▸ B0.out⟩
 have n1:x.data.toList ≠ []:=λe=>h1 (by rw [<- hxl,e];rfl);have e1:(x.toList == [])=false:=by
  rw [ByteArray.toList_eq,beq_eq_false_iff_ne];exact n1
 rw [if_neg n1,hxl] at hR;by_cases h2:64<x.size
 ·rw [if_pos h2] at hR;have E:=jH hR;have z2:(64:Int)<(x.size:Int):=jO
  clear hR n1 h1 hxl hx;go_enter func53,ntmps53;go_wp2;go_ret;exact ⟨by rw [E.out];rfl,by first | exact B0.out | exact hB ▸ B0.out⟩
 rw [if_neg h2] at hR;have z2:¬ (64:Int)<(x.size:Int):=jO
 clear n1 h1 h2 hxl hx;have hI:decide ((Au x.data.toList).2=-1)=decide ((Au x.data.toList).2=-1):=rfl;generalize hi:decide ((Au x.data.toList).2=-1)=i at KI;cases i
 ·rw [if_pos (show (Au x.data.toList).2 ≠ -1 by simpa using hi)] at hR;have E:=jH hR;clear hR hi hI;go_enter func53,ntmps53;go_wp2_with fail;refine (KI.out _).mono ?_;rintro e w1 ⟨rfl,hb⟩;have M1:=jH (M0.out.Ac hb);have B1:=jH (B0.out.trans (hb.mono B0.out.size));clear hb M0 B0;obtain ⟨d0,d1,d2,d3,m0,m1,-⟩:=M1.out;go_wp2;go_ret;exact ⟨by rw [E.out];rfl,B1.out⟩
 rw [if_neg (show ¬ (Au x.data.toList).2 ≠ -1 by simpa using hi)] at hR;clear hi hI;generalize x.data.toList.all Lex.Aw=q at KQ hR;cases q
 ·rw [if_pos rfl] at hR;have E:=jH hR;clear hR;go_enter func53,ntmps53;go_wp2_with fail;refine (KI.out _).mono ?_;rintro e w1 ⟨rfl,hb⟩;have M1:=jH (M0.out.Ac hb);have B1:=jH (B0.out.trans (hb.mono B0.out.size));clear hb M0 B0;obtain ⟨d0,d1,d2,d3,m0,m1,-⟩:=M1.out;go_wp2_with fail;refine (KQ.out _).mono ?_;rintro e w2 ⟨rfl,hb⟩;have M2:=jH (M1.out.Ac hb);have B2:=jH (B1.out.trans (hb.mono B1.out.size));clear hb d0 d1 d2 d3 m0 m1 M1 B1;obtain ⟨d0,d1,d2,d3,m0,m1,-⟩:=M2.out;go_wp2;go_ret;exact ⟨by rw [E.out];rfl,B2.out⟩
 rw [if_neg (show ¬ (true=false) by decide)] at hR;obtain ⟨l,hl⟩:∃ l,Mbx.E7 y.data.toList=l:=⟨_,rfl⟩
 rw [hl] at KH hR;cases l
 ·rw [if_neg (show ¬ (false=true) by decide)] at hR;have E:=jH hR;clear hR hl KL;go_enter func53,ntmps53;go_wp2_with fail;refine (KI.out _).mono ?_;rintro e w1 ⟨rfl,hb⟩;have M1:=jH (M0.out.Ac hb);have B1:=jH (B0.out.trans (hb.mono B0.out.size));clear hb M0 B0;obtain ⟨d0,d1,d2,d3,m0,m1,-⟩:=M1.out;go_wp2_with fail;refine (KQ.out _).mono ?_;rintro e w2 ⟨rfl,hb⟩;have M2:=jH (M1.out.Ac hb);have B2:=jH (B1.out.trans (hb.mono B1.out.size));clear hb d0 d1 d2 d3 m0 m1 M1 B1;obtain ⟨d0,d1,d2,d3,m0,m1,-⟩:=M2.out;go_wp2_with fail;refine (KH.out _).mono ?_;rintro e w3 ⟨rfl,hb⟩;have M3:=jH (M2.out.Ac hb);have B3:=jH (B2.out.trans (hb.mono B2.out.size));clear hb d0 d1 d2 d3 m0 m1 M2 B2;obtain ⟨d0,d1,d2,d3,m0,m1,-⟩:=M3.out;go_wp2_with fail;refine (KA.out _ B3.out).mono ?_;rintro e w4 ⟨rfl,hb⟩;have M4:=jH (M3.out.Ac hb);have B4:=jH (B3.out.trans (hb.mono B3.out.size));clear hb d0 d1 d2 d3 m0 m1 M3 B3;obtain ⟨d0,d1,d2,d3,m0,m1,-⟩:=M4.out;go_wp2;go_ret;exact ⟨by rw [E.out];rfl,B4.out⟩
 rw [if_pos rfl] at hR;have KL:=jH (λW=>KL.out W hl);generalize Mbx.Kg y.data.toList=b at KL hR;have E:=jH hR;clear hR hl;cases b
 ·skip
  go_enter func53,ntmps53;go_wp2_with fail;refine (KI.out _).mono ?_;rintro e w1 ⟨rfl,hb⟩;have M1:=jH (M0.out.Ac hb);have B1:=jH (B0.out.trans (hb.mono B0.out.size));clear hb M0 B0;obtain ⟨d0,d1,d2,d3,m0,m1,-⟩:=M1.out;go_wp2_with fail;refine (KQ.out _).mono ?_;rintro e w2 ⟨rfl,hb⟩;have M2:=jH (M1.out.Ac hb);have B2:=jH (B1.out.trans (hb.mono B1.out.size));clear hb d0 d1 d2 d3 m0 m1 M1 B1;obtain ⟨d0,d1,d2,d3,m0,m1,-⟩:=M2.out;go_wp2_with fail;refine (KH.out _).mono ?_;rintro e w3 ⟨rfl,hb⟩;have M3:=jH (M2.out.Ac hb);have B3:=jH (B2.out.trans (hb.mono B2.out.size));clear hb d0 d1 d2 d3 m0 m1 M2 B2;obtain ⟨d0,d1,d2,d3,m0,m1,-⟩:=M3.out;go_wp2_with fail;refine (KL.out _).mono ?_;rintro e w4 ⟨rfl,hb⟩;have M4:=jH (M3.out.Ac hb);have B4:=jH (B3.out.trans (hb.mono B3.out.size));clear hb d0 d1 d2 d3 m0 m1 M3 B3;obtain ⟨d0,d1,d2,d3,m0,m1,-⟩:=M4.out;go_wp2;go_ret;exact ⟨by rw [E.out];rfl,B4.out⟩
 ·skip
  go_enter func53,ntmps53;go_wp2_with fail;refine (KI.out _).mono ?_;rintro e w1 ⟨rfl,hb⟩;have M1:=jH (M0.out.Ac hb);have B1:=jH (B0.out.trans (hb.mono B0.out.size));clear hb M0 B0;obtain ⟨d0,d1,d2,d3,m0,m1,-⟩:=M1.out;go_wp2_with fail;refine (KQ.out _).mono ?_;rintro e w2 ⟨rfl,hb⟩;have M2:=jH (M1.out.Ac hb);have B2:=jH (B1.out.trans (hb.mono B1.out.size));clear hb d0 d1 d2 d3 m0 m1 M1 B1;obtain ⟨d0,d1,d2,d3,m0,m1,-⟩:=M2.out;go_wp2_with fail;refine (KH.out _).mono ?_;rintro e w3 ⟨rfl,hb⟩;have M3:=jH (M2.out.Ac hb);have B3:=jH (B2.out.trans (hb.mono B2.out.size));clear hb d0 d1 d2 d3 m0 m1 M2 B2;obtain ⟨d0,d1,d2,d3,m0,m1,-⟩:=M3.out;go_wp2_with fail;refine (KL.out _).mono ?_;rintro e w4 ⟨rfl,hb⟩;have M4:=jH (M3.out.Ac hb);have B4:=jH (B3.out.trans (hb.mono B3.out.size));clear hb d0 d1 d2 d3 m0 m1 M3 B3;obtain ⟨d0,d1,d2,d3,m0,m1,-⟩:=M4.out;go_wp2;go_ret;exact ⟨by rw [E.out];rfl,B4.out⟩
theorem Ao8 (x y:ByteArray) (w:World) (hx:x.size<=10000) (hy:y.size<=100000):Calls prog 31 #[.agg #[.string x,.string y]] w λe w'=>e=.returned (.string ⟨(Mbx.Fq x.data.toList y.data.toList).toArray⟩)/\Below w.heap.size w w':=by
 obtain ⟨R,hR⟩:∃ R:ByteArray,R=⟨(Mbx.Fq x.data.toList y.data.toList).toArray⟩:=⟨_,rfl⟩
 rw [<- hR];unfold Mbx.Fq at hR;have hxl:x.data.toList.length=x.size:=by simp
 have hll:=Mbx.Pe x.data.toList;obtain ⟨L,hL⟩:∃ L:ByteArray,L=⟨(Mbx.Ef x.data.toList).toArray⟩:=⟨_,rfl⟩
 have hLs:L.size<=30000:=by
  rw [hL];show (Mbx.Ef x.data.toList).toArray.size<=_;rw [List.size_toArray];omega
 have E:=jH (show R=L ++ ⟨#[64]⟩ ++ y by
  rw [hR,hL];apply ByteArray.ext;simp [ByteArray.data_append])
 unfold Mbx.Ef at hL;have KW:=λW=>Arl.words x W jO;have KS:=jH (λp W=>Arl.source 1 p x W jO);have B0:=jH (Ab w (.cells #[.string x,.string y] 23));have C0:=jH (CAt.new w x y);generalize Lex.Df x.data.toList=b at KW hL;have KW:=jH KW;clear hR hxl hll;cases b
 ·rw [if_neg jD] at hL;have HL:=jH hL.symm;clear hL;go_enter func31,ntmps31;go_wp2_with fail;refine (KW.out _).mono ?_;rintro e w1 ⟨rfl,hb⟩;have B1:=jH (B0.out.trans (hb.mono B0.out.size));have C1:=jH (C0.out.Ac hb);clear hb;go_wp2_with fail;refine (KS.out 0 _).mono ?_;rintro e w2 ⟨rfl,hb⟩;have B2:=jH (B1.out.trans (hb.mono B1.out.size));have c1:=(C1.out.Ac hb).c1;rw [HL.out];clear hb;go_wp2;go_ret;exact ⟨congrArg (λx=>Ending.returned (.string x)) E.out.symm,B2.out⟩
 ·rw [if_pos rfl] at hL;have HL:=jH (show x=L from hL.symm);clear hL;go_enter func31,ntmps31;go_wp2_with fail;refine (KW.out _).mono ?_;rintro e w1 ⟨rfl,hb⟩;have B1:=jH (B0.out.trans (hb.mono B0.out.size));have c1:=(C0.out.Ac hb).c1;clear hb;go_wp2;go_ret;refine ⟨?_,B1.out⟩;rw [E.out,HL.out];rfl
end
section
open Go.RowKit Utf
namespace Mbx
open Lex (Co esc Cuts Tok)
theorem A3w {s:List UInt8} {ts:List Tok} {E:Int} {p:Nat} (h:Lex.Ee s=(E,p,ts)) (hs:s.length<=100000):Few (ts.map Lex.Fi)/\(Et (ts.map Lex.Fi)).length<=s.length:=by
 rcases Lex.Jg s with ⟨-,e⟩ | ⟨-,F,q,e,h1,-⟩ | ⟨-,us,e,hc,-⟩
 ·rw [e] at h;injection h with _ h;injection h with _ h;subst h;exact ⟨⟨Nat.zero_le _,λk hk=>by cases hk⟩,Nat.zero_le _⟩
 ·rw [e] at h;injection h with _ h;injection h with _ h;subst h;exact ⟨⟨Nat.zero_le _,λk hk=>by cases hk⟩,Nat.zero_le _⟩
 ·rw [e] at h;injection h with _ h;injection h with _ h;subst h;obtain ⟨h2,h3⟩:=Lex.Akn hc;rw [<- U0] at h2;exact ⟨⟨by rw [jai];omega,λk hk=>by have:=Pm _ k hk;omega⟩,h2⟩
theorem Aav (x y:List UInt8) (n:Nat):A14 (some (x,y,n))=.tuple #[.agg #[.string ⟨x.toArray⟩,.string ⟨y.toArray⟩],.int .i64 (n:Int),.bool true]:=rfl
theorem Aau:A14 none=.tuple #[.agg #[.string ⟨#[]⟩,.string ⟨#[]⟩],.int .i64 0,.bool false]:=rfl
end Mbx
end
