import Derived.Test.YtickpkccpafjaaaGreatDoorMbxTake
import Derived.Test.YtickpkccpafjaaaGreatDoorDomEnd
import Derived.Test.YtickpkccpafjaaaGreatDoorPrecEnd
set_option maxRecDepth 100000
set_option maxHeartbeats 4000000
namespace Go.Proofs.YtickpkccpafjaaaGreatDoor
open Tryz
section
open Go.RowKit Utf
namespace Mbx
theorem A1t {T:ByteArray} (h:0<T.size):((T.extract (T.size - 1) T.size).toList == [93])=true->∃ x,T.data.toList=x ++ [93]/\T.extract 0 (T.size - 1)=⟨x.toArray⟩:=by
 intro e;have a1:=Lab.Yq (s:=T) (k:=T.size - 1) jO 93;rw [show T.size - 1+1=T.size by omega,e] at a1;have a2:Lab.Dr T.data.toList (T.size - 1)=((93:UInt8).toNat:Int):=by simpa using a1.symm
 rw [Lab.Ey (show T.size - 1<T.size by omega)] at a2;have a3:T[T.size - 1]=93:=UInt8.toNat_inj.1 jO;refine ⟨T.data.toList.take (T.size - 1),?_,?_⟩
 ·have hl:T.data.toList.length=T.size:=by simp
  have e1:T.data.toList.drop (T.size - 1)=[93]:=by
   rw [List.drop_eq_getElem_cons jO,List.drop_of_length_le jO];have:T.data.toList[T.size - 1]=T[T.size - 1]:=by simp;rfl
   rw [this,a3]
  rw [<- e1,List.take_append_drop]
 ·apply ByteArray.ext;rw [ByteArray.data_extract];apply Array.toList_inj.1;rw [Array.toList_extract,List.extract_eq_take_drop];simp
theorem A1u {T:ByteArray} (h:0<T.size) (e:((T.extract (T.size - 1) T.size).toList == [93])=false):∀ x,T.data.toList ≠ x ++ [93]:=by
 intro x hx;have a1:=Lab.Yq (s:=T) (k:=T.size - 1) jO 93;rw [show T.size - 1+1=T.size by omega,e,Lab.Ey (show T.size - 1<T.size by omega)] at a1;have hl:T.data.toList.length=T.size:=by simp
 have hq:T.data.toList[T.size - 1]' jO=T[T.size - 1]:=by simp;rfl
 have:T[T.size - 1]=93:=by
  rw [<- hq];have hxl:=congrArg List.length hx;rw [jab,List.length_singleton,hl] at hxl;simp only [hx];rw [List.getElem_append_right jO];simp
 rw [this] at a1;simp at a1
end Mbx
theorem Aqv (T:ByteArray) (w:World) (h:T.size<=100000) (he:T.size=0\/(0<T.size/\((T.extract (T.size - 1) T.size).toList == [93])=false)):Calls prog 74 #[.string T,.string ⟨#[93]⟩] w λe w'=>e=.returned (.tuple #[.string T,.bool false])/\w=w':=by
 rcases he with h0 | ⟨h0,he⟩
 ·have hz:¬ (1:Int)<=(T.size:Int):=jO
  clear h0;go_enter func74,ntmps74;go_wp2;go_ret2;exact ⟨rfl,rfl⟩
 ·have hz:(1:Int)<=(T.size:Int):=jO
  go_enter func74,ntmps74;go_wp2;go_ret2;exact ⟨rfl,rfl⟩
theorem Ak9 (T:ByteArray) (w:World) (h:T.size<=100000) (h0:0<T.size) (he:((T.extract (T.size - 1) T.size).toList == [93])=true):Calls prog 74 #[.string T,.string ⟨#[93]⟩] w λe w'=>e=.returned (.tuple #[.string (T.extract 0 (T.size - 1)),.bool true])/\w=w':=by
 have hz:(1:Int)<=(T.size:Int):=jO
 go_enter func74,ntmps74;go_wp2;go_ret2;exact ⟨rfl,rfl⟩
theorem Aam (s:ByteArray) (w:World) (hs:s.size<=100000) (hb:Mbx.J6 s.data.toList=true):Calls prog 51 #[.string s] w λe w'=>e=.returned (.bool (Mbx.Na s.data.toList))/\Below w.heap.size w w':=by
 obtain ⟨t,ht⟩:=Mbx.Aqf hb;have hl:s.data.toList.length=s.size:=by simp
 have h1:(1:Int)<=(s.size:Int):=by rw [<- hl,ht,jac];omega
 obtain ⟨T,hT⟩:∃ T,T=s.extract 1 s.size:=⟨_,rfl⟩
 have hTs:T.size=s.size - 1:=by rw [hT,ByteArray.size_extract];omega
 have hTl:T.data.toList=t:=by
  rw [hT,ByteArray.data_extract,Array.toList_extract,List.extract_eq_take_drop,ht,List.drop_succ_cons,List.drop_zero];have:t.length=s.size - 1:=by rw [<- hl,ht];simp
  rw [List.take_of_length_le jO]
 rw [ht,<- hTl];obtain ⟨R,hR⟩:∃ R,R=Mbx.Na (91::T.data.toList):=⟨_,rfl⟩
 rw [<- hR];have hT1:T.size<=100000:=jO
 have hTe:=jH hT.symm;have hno:(T.size=0\/(0<T.size/\((T.extract (T.size - 1) T.size).toList == [93])=false))->Calls prog 51 #[.string s] w λe w'=>e=.returned (.bool R)/\Below w.heap.size w w':=λhe=>by
  have KC:=jH (λW=>Aqv T W hT1 he);have E:Hid (R=false):=jH (by
   rw [hR];refine Mbx.Aws ?_;rcases he with h0 | ⟨h0,he⟩
   ·intro x hx;have:=congrArg List.length hx;rw [jab,List.length_singleton] at this;have h2:T.data.toList.length=T.size:=by simp
    omega
   ·exact Mbx.A1u h0 he)
  clear hR hT hTs hTl ht hb hl he hT1 hs;go_enter func51,ntmps51;go_wp2_with fail;rw [hTe.out];refine (KC.out w).mono ?_;rintro e w1 ⟨rfl,rfl⟩;go_wp2;go_ret;exact ⟨by rw [E.out];rfl,jan _ _⟩
 by_cases h0:T.size=0
 ·exact hno (.inl h0)
 cases he:((T.extract (T.size - 1) T.size).toList == [93])
 ·exact hno (.inr ⟨by omega,he⟩)
 ·obtain ⟨x,hx,hxe⟩:=Mbx.A1t jO he;have KC:=jH (λW=>Ak9 T W hT1 jO he);have E:=hR;rw [hx,Mbx.Ar0] at E;have hxs:(⟨x.toArray⟩:ByteArray).size<=100000:=by rw [<- hxe,ByteArray.size_extract];omega
  rw [hxe] at KC;have KI:=λW=>Uw ⟨x.toArray⟩ W hxs;have KL:=λW=>Aaf ⟨x.toArray⟩ W hxs;have hxx:(⟨x.toArray⟩:ByteArray).data.toList=x:=rfl;rw [hxx] at KI KL;generalize decide ((Aq x).2=-1)=a at E KI;generalize x.all Mbx.M8=b at E KL;have E:=jH E;have KI:=jH KI;have KL:=jH KL;clear hno h0 hR hT hTs hTl ht hb hl he hT1 hs hx hxe hxx;cases a
  ·go_enter func51,ntmps51;go_wp2_with fail;rw [hTe.out];refine (KC.out w).mono ?_;rintro e w1 ⟨rfl,rfl⟩;go_wp2_with fail;refine (KI.out w).mono ?_;rintro e w1 ⟨rfl,hb1⟩;have B1:=jH hb1;clear hb1;go_wp2;go_ret;exact ⟨by rw [E.out];rfl,B1.out⟩
  ·go_enter func51,ntmps51;go_wp2_with fail;rw [hTe.out];refine (KC.out w).mono ?_;rintro e w1 ⟨rfl,rfl⟩;go_wp2_with fail;refine (KI.out w).mono ?_;rintro e w1 ⟨rfl,hb1⟩;have B1:=jH hb1;clear hb1;go_wp2_with fail;refine (KL.out w1).mono ?_;rintro e w2 ⟨rfl,hb2⟩;have B2:=jH (Aa B1.out hb2);clear hb2;go_wp2;go_ret;exact ⟨by rw [E.out];cases b<;>rfl,B2.out⟩
theorem Za (t:Value) (x y:ByteArray) (w:World) (hT:Table w t) (hx:x.size<=100000) (hy:De y):Calls prog 26 #[t,.agg #[.string x,.string y]] w λe w'=>e=.returned (.int .i64 (Mbx.Dc x.data.toList y.data.toList))/\Below w.heap.size w w':=by
 obtain ⟨R,hR⟩:∃ R,R=Mbx.Dc x.data.toList y.data.toList:=⟨_,rfl⟩
 rw [<- hR];have hxl:x.data.toList.length=x.size:=by simp
 have hT0:=hT;obtain ⟨b0,b1,b2,b3,rfl,-,-,-,-⟩:=hT0;obtain ⟨B,hB⟩:∃ B,w.heap.size=B:=⟨_,rfl⟩
 have M0:=jH (Ad0.new hB b0 b1 b2 b3 x y);have B0:=jH (Bx w (.cells #[.slice (some ⟨b0,0,none⟩) 74 74,.slice (some ⟨b1,0,none⟩) 10 10,.slice (some ⟨b2,0,none⟩) 11 11,.slice (some ⟨b3,0,none⟩) 42 42] 36) (.cells #[.string x,.string y] 28));have hTB:=hT.below B0.out;have KA:=jH (λW (h:Below w.heap.size w W)=>Avi _ y W (hT.below h) hy);have KI:=jH (λW=>Uw x W hx);have KQ:=jH (λW=>Aag x W hx);have KH:=jH (λW=>Xt x y W);have KL:=jH (λW h=>Aam y W hy.1 h);unfold Mbx.Dc at hR;clear hT hy hTB;by_cases h1:x.size=0
 ·obtain rfl:x=⟨#[]⟩:=ByteArray.ext (Array.eq_empty_of_size_eq_zero h1);rw [if_pos (show (⟨#[]⟩:ByteArray).data.toList=[] from rfl)] at hR;have E:=jH hR;clear hR h1 hxl hx;go_enter func26,ntmps26;go_wp2;go_ret;exact ⟨by rw [E.out];rfl,by first | exact B0.out | exact hB ▸ B0.out⟩
 have n1:x.data.toList ≠ []:=λe=>h1 (by rw [<- hxl,e];rfl);have e1:(x.toList == [])=false:=by
  rw [ByteArray.toList_eq,beq_eq_false_iff_ne];exact n1
 rw [if_neg n1,hxl] at hR;by_cases h2:64<x.size
 ·rw [if_pos h2] at hR;have E:=jH hR;have z2:(64:Int)<(x.size:Int):=jO
  clear hR n1 h1 hxl hx;go_enter func26,ntmps26;go_wp2;go_ret;exact ⟨by rw [E.out];rfl,by first | exact B0.out | exact hB ▸ B0.out⟩
 rw [if_neg h2] at hR;have z2:¬ (64:Int)<(x.size:Int):=jO
 clear n1 h1 h2 hxl hx;have hI:decide ((Aq x.data.toList).2=-1)=decide ((Aq x.data.toList).2=-1):=rfl;generalize hi:decide ((Aq x.data.toList).2=-1)=i at KI;cases i
 ·rw [if_pos (show (Aq x.data.toList).2 ≠ -1 by simpa using hi)] at hR;have E:=jH hR;clear hR hi hI;go_enter func26,ntmps26;go_wp2_with fail;refine (KI.out _).mono ?_;rintro e w1 ⟨rfl,hb⟩;have M1:=jH (M0.out.Ae hb);have B1:=jH (B0.out.trans (hb.mono B0.out.size));clear hb M0 B0;obtain ⟨d0,d1,d2,d3,m0,m1,-⟩:=M1.out;go_wp2;go_ret;exact ⟨by rw [E.out];rfl,B1.out⟩
 rw [if_neg (show ¬ (Aq x.data.toList).2 ≠ -1 by simpa using hi)] at hR;clear hi hI;generalize x.data.toList.all Lex.Ao=q at KQ hR;cases q
 ·rw [if_pos rfl] at hR;have E:=jH hR;clear hR;go_enter func26,ntmps26;go_wp2_with fail;refine (KI.out _).mono ?_;rintro e w1 ⟨rfl,hb⟩;have M1:=jH (M0.out.Ae hb);have B1:=jH (B0.out.trans (hb.mono B0.out.size));clear hb M0 B0;obtain ⟨d0,d1,d2,d3,m0,m1,-⟩:=M1.out;go_wp2_with fail;refine (KQ.out _).mono ?_;rintro e w2 ⟨rfl,hb⟩;have M2:=jH (M1.out.Ae hb);have B2:=jH (B1.out.trans (hb.mono B1.out.size));clear hb d0 d1 d2 d3 m0 m1 M1 B1;obtain ⟨d0,d1,d2,d3,m0,m1,-⟩:=M2.out;go_wp2;go_ret;exact ⟨by rw [E.out];rfl,B2.out⟩
 rw [if_neg (show ¬ (true=false) by decide)] at hR;obtain ⟨l,hl⟩:∃ l,Mbx.J6 y.data.toList=l:=⟨_,rfl⟩
 rw [hl] at KH hR;cases l
 ·rw [if_neg (show ¬ (false=true) by decide)] at hR;have E:=jH hR;clear hR hl KL;go_enter func26,ntmps26;go_wp2_with fail;refine (KI.out _).mono ?_;rintro e w1 ⟨rfl,hb⟩;have M1:=jH (M0.out.Ae hb);have B1:=jH (B0.out.trans (hb.mono B0.out.size));clear hb M0 B0;obtain ⟨d0,d1,d2,d3,m0,m1,-⟩:=M1.out;go_wp2_with fail;refine (KQ.out _).mono ?_;rintro e w2 ⟨rfl,hb⟩;have M2:=jH (M1.out.Ae hb);have B2:=jH (B1.out.trans (hb.mono B1.out.size));clear hb d0 d1 d2 d3 m0 m1 M1 B1;obtain ⟨d0,d1,d2,d3,m0,m1,-⟩:=M2.out;go_wp2_with fail;refine (KH.out _).mono ?_;rintro e w3 ⟨rfl,hb⟩;have M3:=jH (M2.out.Ae hb);have B3:=jH (B2.out.trans (hb.mono B2.out.size));clear hb d0 d1 d2 d3 m0 m1 M2 B2;obtain ⟨d0,d1,d2,d3,m0,m1,-⟩:=M3.out;go_wp2_with fail;refine (KA.out _ B3.out).mono ?_;rintro e w4 ⟨rfl,hb⟩;have M4:=jH (M3.out.Ae hb);have B4:=jH (B3.out.trans (hb.mono B3.out.size));clear hb d0 d1 d2 d3 m0 m1 M3 B3;obtain ⟨d0,d1,d2,d3,m0,m1,-⟩:=M4.out;go_wp2;go_ret;exact ⟨by rw [E.out];rfl,B4.out⟩
 rw [if_pos rfl] at hR;have KL:=jH (λW=>KL.out W hl);generalize Mbx.Na y.data.toList=b at KL hR;have E:=jH hR;clear hR hl;cases b
 ·skip
  go_enter func26,ntmps26;go_wp2_with fail;refine (KI.out _).mono ?_;rintro e w1 ⟨rfl,hb⟩;have M1:=jH (M0.out.Ae hb);have B1:=jH (B0.out.trans (hb.mono B0.out.size));clear hb M0 B0;obtain ⟨d0,d1,d2,d3,m0,m1,-⟩:=M1.out;go_wp2_with fail;refine (KQ.out _).mono ?_;rintro e w2 ⟨rfl,hb⟩;have M2:=jH (M1.out.Ae hb);have B2:=jH (B1.out.trans (hb.mono B1.out.size));clear hb d0 d1 d2 d3 m0 m1 M1 B1;obtain ⟨d0,d1,d2,d3,m0,m1,-⟩:=M2.out;go_wp2_with fail;refine (KH.out _).mono ?_;rintro e w3 ⟨rfl,hb⟩;have M3:=jH (M2.out.Ae hb);have B3:=jH (B2.out.trans (hb.mono B2.out.size));clear hb d0 d1 d2 d3 m0 m1 M2 B2;obtain ⟨d0,d1,d2,d3,m0,m1,-⟩:=M3.out;go_wp2_with fail;refine (KL.out _).mono ?_;rintro e w4 ⟨rfl,hb⟩;have M4:=jH (M3.out.Ae hb);have B4:=jH (B3.out.trans (hb.mono B3.out.size));clear hb d0 d1 d2 d3 m0 m1 M3 B3;obtain ⟨d0,d1,d2,d3,m0,m1,-⟩:=M4.out;go_wp2;go_ret;exact ⟨by rw [E.out];rfl,B4.out⟩
 ·skip
  go_enter func26,ntmps26;go_wp2_with fail;refine (KI.out _).mono ?_;rintro e w1 ⟨rfl,hb⟩;have M1:=jH (M0.out.Ae hb);have B1:=jH (B0.out.trans (hb.mono B0.out.size));clear hb M0 B0;obtain ⟨d0,d1,d2,d3,m0,m1,-⟩:=M1.out;go_wp2_with fail;refine (KQ.out _).mono ?_;rintro e w2 ⟨rfl,hb⟩;have M2:=jH (M1.out.Ae hb);have B2:=jH (B1.out.trans (hb.mono B1.out.size));clear hb d0 d1 d2 d3 m0 m1 M1 B1;obtain ⟨d0,d1,d2,d3,m0,m1,-⟩:=M2.out;go_wp2_with fail;refine (KH.out _).mono ?_;rintro e w3 ⟨rfl,hb⟩;have M3:=jH (M2.out.Ae hb);have B3:=jH (B2.out.trans (hb.mono B2.out.size));clear hb d0 d1 d2 d3 m0 m1 M2 B2;obtain ⟨d0,d1,d2,d3,m0,m1,-⟩:=M3.out;go_wp2_with fail;refine (KL.out _).mono ?_;rintro e w4 ⟨rfl,hb⟩;have M4:=jH (M3.out.Ae hb);have B4:=jH (B3.out.trans (hb.mono B3.out.size));clear hb d0 d1 d2 d3 m0 m1 M3 B3;obtain ⟨d0,d1,d2,d3,m0,m1,-⟩:=M4.out;go_wp2;go_ret;exact ⟨by rw [E.out];rfl,B4.out⟩
theorem Am8 (x y:ByteArray) (w:World) (hx:x.size<=10000) (hy:y.size<=100000):Calls prog 56 #[.agg #[.string x,.string y]] w λe w'=>e=.returned (.string ⟨(Mbx.Am7 x.data.toList y.data.toList).toArray⟩)/\Below w.heap.size w w':=by
 obtain ⟨R,hR⟩:∃ R:ByteArray,R=⟨(Mbx.Am7 x.data.toList y.data.toList).toArray⟩:=⟨_,rfl⟩
 rw [<- hR];unfold Mbx.Am7 at hR;have hxl:x.data.toList.length=x.size:=by simp
 have hll:=Mbx.Acd x.data.toList;obtain ⟨L,hL⟩:∃ L:ByteArray,L=⟨(Mbx.Dt x.data.toList).toArray⟩:=⟨_,rfl⟩
 have hLs:L.size<=30000:=by
  rw [hL];show (Mbx.Dt x.data.toList).toArray.size<=_;rw [List.size_toArray];omega
 have E:=jH (show R=L ++ ⟨#[64]⟩ ++ y by
  rw [hR,hL];apply ByteArray.ext;simp [ByteArray.data_append])
 unfold Mbx.Dt at hL;have KW:=λW=>Yc.words x W jO;have KS:=jH (λp W=>Yc.source 1 p x W jO);have B0:=jH (Ac w (.cells #[.string x,.string y] 28));have C0:=jH (CAt.new w x y);generalize Lex.Ef x.data.toList=b at KW hL;have KW:=jH KW;clear hR hxl hll;cases b
 ·rw [if_neg jD] at hL;have HL:=jH hL.symm;clear hL;go_enter func56,ntmps56;go_wp2_with fail;refine (KW.out _).mono ?_;rintro e w1 ⟨rfl,hb⟩;have B1:=jH (B0.out.trans (hb.mono B0.out.size));have C1:=jH (C0.out.Ae hb);clear hb;go_wp2_with fail;refine (KS.out 0 _).mono ?_;rintro e w2 ⟨rfl,hb⟩;have B2:=jH (B1.out.trans (hb.mono B1.out.size));have c1:=(C1.out.Ae hb).c1;rw [HL.out];clear hb;go_wp2;go_ret;exact ⟨congrArg (λx=>Ending.returned (.string x)) E.out.symm,B2.out⟩
 ·rw [if_pos rfl] at hL;have HL:=jH (show x=L from hL.symm);clear hL;go_enter func56,ntmps56;go_wp2_with fail;refine (KW.out _).mono ?_;rintro e w1 ⟨rfl,hb⟩;have B1:=jH (B0.out.trans (hb.mono B0.out.size));have c1:=(C0.out.Ae hb).c1;clear hb;go_wp2;go_ret;refine ⟨?_,B1.out⟩;rw [E.out,HL.out];rfl
end
section
open Go.RowKit Utf
namespace Mbx
open Lex (Bd esc Cuts Tok)
theorem Az6 {s:List UInt8} {ts:List Tok} {E:Int} {p:Nat} (h:Lex.Fm s=(E,p,ts)) (hs:s.length<=100000):Few (ts.map Lex.Cy)/\(Dq (ts.map Lex.Cy)).length<=s.length:=by
 rcases Lex.I7 s with ⟨-,e⟩ | ⟨-,F,q,e,h1,-⟩ | ⟨-,us,e,hc,-⟩
 ·rw [e] at h;injection h with _ h;injection h with _ h;subst h;exact ⟨⟨Nat.zero_le _,λk hk=>by cases hk⟩,Nat.zero_le _⟩
 ·rw [e] at h;injection h with _ h;injection h with _ h;subst h;exact ⟨⟨Nat.zero_le _,λk hk=>by cases hk⟩,Nat.zero_le _⟩
 ·rw [e] at h;injection h with _ h;injection h with _ h;subst h;obtain ⟨h2,h3⟩:=Lex.Ru hc;rw [<- Kv] at h2;exact ⟨⟨by rw [jai];omega,λk hk=>by have:=Kz _ k hk;omega⟩,h2⟩
theorem Anz (x y:List UInt8) (n:Nat):Adi (some (x,y,n))=.tuple #[.agg #[.string ⟨x.toArray⟩,.string ⟨y.toArray⟩],.int .i64 (n:Int),.bool true]:=rfl
theorem Anx:Adi none=.tuple #[.agg #[.string ⟨#[]⟩,.string ⟨#[]⟩],.int .i64 0,.bool false]:=rfl
end Mbx
theorem Am1 (t:Value) (s:ByteArray) (w:World) (hT:Table w t) (hs:s.size<=100000) (hf:∀ ts x y n,Lex.Fm s.data.toList=(0,0,ts)->Mbx.take (ts.map Lex.Cy)=some (x,y,n)->De ⟨y.toArray⟩)
  {E:Int} {x y:List UInt8} (hp:Mbx.Ty s.data.toList=(E,x,y)):Calls prog 18 #[t,.string s] w λe w'=>e=.returned (.tuple #[.agg #[.string ⟨x.toArray⟩,.string ⟨y.toArray⟩],.int .i64 E])/\Below w.heap.size w w':=by
 have hT0:=hT;obtain ⟨b0,b1,b2,b3,rfl,-,-,-,-⟩:=hT0;obtain ⟨B,hB⟩:∃ B,w.heap.size=B:=⟨_,rfl⟩
 obtain ⟨W0,hW0⟩:∃ W0,W0=(w.alloc (.cells #[.slice (some ⟨b0,0,none⟩) 74 74,.slice (some ⟨b1,0,none⟩) 10 10,.slice (some ⟨b2,0,none⟩) 11 11,.slice (some ⟨b3,0,none⟩) 42 42] 36)).alloc (.cells #[.string ⟨#[]⟩,.string ⟨#[]⟩] 28):=⟨_,rfl⟩
 have M0:Hid (Ad0 B b0 b1 b2 b3 ⟨#[]⟩ ⟨#[]⟩ W0):=jH (by rw [hW0];exact Ad0.new hB b0 b1 b2 b3 _ _);have E0:Hid (CAt (B+1) ⟨#[]⟩ ⟨#[]⟩ W0):=jH (by
  have:=CAt.new (w.alloc (.cells #[.slice (some ⟨b0,0,none⟩) 74 74,.slice (some ⟨b1,0,none⟩) 10 10,.slice (some ⟨b2,0,none⟩) 11 11,.slice (some ⟨b3,0,none⟩) 42 42] 36)) ⟨#[]⟩ ⟨#[]⟩;rw [<- hW0,show (w.alloc (.cells #[.slice (some ⟨b0,0,none⟩) 74 74,.slice (some ⟨b1,0,none⟩) 10 10,.slice (some ⟨b2,0,none⟩) 11 11,.slice (some ⟨b3,0,none⟩) 42 42] 36)).heap.size=B+1 by simp [hB]] at this;exact this)
 have B0:Hid (Below w.heap.size w W0):=jH (by rw [hW0];exact Bx _ _ _);have HW0:=jH hW0.symm;obtain ⟨⟨F,pl,ts⟩,hl⟩:∃ q,Lex.Fm s.data.toList=q:=⟨_,rfl⟩
 have hsl:s.data.toList.length=s.size:=by simp
 obtain ⟨hfew,hout⟩:=Mbx.Az6 hl jO;have HF:=jH hfew;have KL:=Yc.lex s w hs;have KL:=jH (λW=>Yc.lex s W hs);rw [hl] at KL;simp only at KL;unfold Mbx.Ty at hp;rw [hl] at hp;unfold Mbx.Jm at hp;simp only at hp;clear hW0 hfew;by_cases hF:F=0
 case neg =>
  rw [if_pos hF] at hp;injection hp with q1 q2
  injection q2 with q2 q3
  subst q1 q2 q3;have e0:(F != 0)=true:=by simpa using hF
  clear hF hf hl hT;go_enter func18,ntmps18;go_wp2_with fail;rw [HW0.out];refine (KL.out _).mono ?_;rintro e w1 ⟨A,c,rfl,-,hb⟩;have B1:=jH (B0.out.trans (hb.mono B0.out.size));have r0:=(E0.out.Ae hb).c0;have r1:=(E0.out.Ae hb).c1;have f0:=(E0.out.Ae hb).fr 0;have f1:=(E0.out.Ae hb).fr 1;clear hb;go_wp2;refine bodyPost_ret (v:=.tuple #[.agg #[.string ⟨#[]⟩,.string ⟨#[]⟩],.int .i64 F]) (by simp [results,results18,go_sem,r0,r1]) rfl ⟨rfl,?_⟩;exact (B1.out.setCell (p:=⟨B+1,0,none⟩) (show w.heap.size<=B+1 by omega) _).setCell (p:=⟨B+1,1,none⟩) (show w.heap.size<=B+1 by omega) _
 subst hF;rw [if_neg (show ¬ ((0:Int) ≠ 0) by decide)] at hp;have hpl:pl=0:=by
  rcases Lex.I7 s.data.toList with ⟨-,e⟩ | ⟨-,F,q,e,h1,-⟩ | ⟨-,us,e,hc,-⟩
  ·rw [e] at hl;injection hl with h _;cases h
  ·rw [e] at hl;injection hl with h _;omega
  ·rw [e] at hl;injection hl with _ h;injection h with h _;exact h.symm
 subst hpl;have KT:=λv W (h:Sm v ts W)=>Aj3 v (ts.map Lex.Cy) W (F0.of h) HF.out;cases ht:Mbx.take (ts.map Lex.Cy) with
 | none =>
  rw [ht,Mbx.Anx] at KT;rw [ht] at hp;simp only at hp;injection hp with q1 q2
  injection q2 with q2 q3
  subst q1 q2 q3;have KT:=jH KT;clear hf hl hT ht;go_enter func18,ntmps18;go_wp2_with fail;rw [HW0.out];refine (KL.out _).mono ?_;rintro e w1 ⟨A,c,rfl,hv,hb⟩;have B1:=jH (B0.out.trans (hb.mono B0.out.size));have E1:=jH (E0.out.Ae hb);have V1:=jH hv;clear hb hv;go_wp2_with fail;refine (KT.out _ _ V1.out).mono ?_;rintro e w2 ⟨rfl,hb⟩;have B2:=jH (B1.out.trans (hb.mono B1.out.size));obtain ⟨C,hC⟩:∃ C,w2.heap.size=C:=⟨_,rfl⟩
  have E2:=jH ((E1.out.Ae hb).Ae (Ac w2 (.cells #[.string ⟨#[]⟩,.string ⟨#[]⟩] 28)));have r0:=E2.out.c0;have r1:=E2.out.c1;have f0:=E2.out.fr 0;have f1:=E2.out.fr 1;have B3:=jH (B2.out.trans ((Ac w2 (.cells #[.string ⟨#[]⟩,.string ⟨#[]⟩] 28)).mono B2.out.size));clear hb;go_wp2;refine bodyPost_ret (v:=.tuple #[.agg #[.string ⟨#[]⟩,.string ⟨#[]⟩],.int .i64 4]) (by simp [results,results18,go_sem,r0,r1]) rfl ⟨rfl,?_⟩;exact (B3.out.setCell (p:=⟨B+1,0,none⟩) (show w.heap.size<=B+1 by omega) _).setCell (p:=⟨B+1,1,none⟩) (show w.heap.size<=B+1 by omega) _
 | some q =>
  obtain ⟨mx,my,n⟩:=q;rw [ht,Mbx.Anz] at KT;rw [ht] at hp;simp only at hp;have hn:=(Mbx.take_len ht).2;rw [jai] at hn;have KT:=jH KT;have LY:=jH (hf ts mx my n hl ht);have hmx:mx.length<=100000:=by have:=Mbx.Adk ht;omega
  by_cases hnn:n=ts.length
  case neg =>
   rw [if_neg hnn] at hp;injection hp with q1 q2
   injection q2 with q2 q3
   subst q1 q2 q3;have hz:(n:Int)<(ts.length:Int):=jO
   clear hf hl hT ht hnn hn;go_enter func18,ntmps18;go_wp2_with fail;rw [HW0.out];refine (KL.out _).mono ?_;rintro e w1 ⟨A,c,rfl,hv,hb⟩;have B1:=jH (B0.out.trans (hb.mono B0.out.size));have E1:=jH (E0.out.Ae hb);have V1:=jH hv;clear hb hv;go_wp2_with fail;refine (KT.out _ _ V1.out).mono ?_;rintro e w2 ⟨rfl,hb⟩;have B2:=jH (B1.out.trans (hb.mono B1.out.size));obtain ⟨C,hC⟩:∃ C,w2.heap.size=C:=⟨_,rfl⟩
   have E2:=jH ((E1.out.Ae hb).Ae (Ac w2 (.cells #[.string ⟨mx.toArray⟩,.string ⟨my.toArray⟩] 28)));have r0:=E2.out.c0;have r1:=E2.out.c1;have f0:=E2.out.fr 0;have f1:=E2.out.fr 1;have B3:=jH (B2.out.trans ((Ac w2 (.cells #[.string ⟨mx.toArray⟩,.string ⟨my.toArray⟩] 28)).mono B2.out.size));clear hb;go_wp2;refine bodyPost_ret (v:=.tuple #[.agg #[.string ⟨#[]⟩,.string ⟨#[]⟩],.int .i64 4]) (by simp [results,results18,go_sem,r0,r1]) rfl ⟨rfl,?_⟩;exact (B3.out.setCell (p:=⟨B+1,0,none⟩) (show w.heap.size<=B+1 by omega) _).setCell (p:=⟨B+1,1,none⟩) (show w.heap.size<=B+1 by omega) _
  rw [if_pos hnn] at hp;have hz:¬ (n:Int)<(ts.length:Int):=jO
  have KR:=jH (λW (h:Below w.heap.size w W)=>Za _ ⟨mx.toArray⟩ ⟨my.toArray⟩ W (hT.below h) (by simpa [ByteArray.size] using hmx) LY.out);have hxx:(⟨mx.toArray⟩:ByteArray).data.toList=mx:=rfl;have hyy:(⟨my.toArray⟩:ByteArray).data.toList=my:=rfl;rw [hxx,hyy] at KR;generalize Mbx.Dc mx my=G at KR hp;clear hf hl hT ht hnn hn hxx hyy hmx LY;by_cases hG:G=0
  ·rw [if_pos hG] at hp;injection hp with q1 q2
   injection q2 with q2 q3
   subst hG q1 q2 q3;go_enter func18,ntmps18;go_wp2_with fail;rw [HW0.out];refine (KL.out _).mono ?_;rintro e w1 ⟨A,c,rfl,hv,hb⟩;have B1:=jH (B0.out.trans (hb.mono B0.out.size));have E1:=jH (E0.out.Ae hb);have M1:=jH (M0.out.Ae hb);have V1:=jH hv;clear hb hv;go_wp2_with fail;refine (KT.out _ _ V1.out).mono ?_;rintro e w2 ⟨rfl,hb⟩;have B2:=jH (B1.out.trans (hb.mono B1.out.size));obtain ⟨C,hC⟩:∃ C,w2.heap.size=C:=⟨_,rfl⟩
   have E2:=jH ((E1.out.Ae hb).Ae (Ac w2 (.cells #[.string ⟨mx.toArray⟩,.string ⟨my.toArray⟩] 28)));have M2:=jH ((M1.out.Ae hb).Ae (Ac w2 (.cells #[.string ⟨mx.toArray⟩,.string ⟨my.toArray⟩] 28)));have C2:=jH (show CAt C ⟨mx.toArray⟩ ⟨my.toArray⟩ (w2.alloc (.cells #[.string ⟨mx.toArray⟩,.string ⟨my.toArray⟩] 28)) from hC ▸ CAt.new w2 _ _);obtain ⟨d0,d1,d2,d3,-,-,-⟩:=M2.out;have c0:=C2.out.c0;have c1:=C2.out.c1;have B3:=jH (B2.out.trans ((Ac w2 (.cells #[.string ⟨mx.toArray⟩,.string ⟨my.toArray⟩] 28)).mono B2.out.size));clear hb;go_wp2_with fail;refine (KR.out _ B3.out).mono ?_;rintro e w3 ⟨rfl,hb⟩;have B4:=jH (B3.out.trans (hb.mono B3.out.size));have E4:=jH (E2.out.Ae hb);have C4:=jH (C2.out.Ae hb);clear hb d0 d1 d2 d3 c0 c1;have r0:=E4.out.c0;have r1:=E4.out.c1;have f0:=E4.out.fr 0;have f1:=E4.out.fr 1;have c0:=C4.out.c0;have c1:=C4.out.c1;go_wp2;refine bodyPost_ret (v:=.tuple #[.agg #[.string ⟨mx.toArray⟩,.string ⟨my.toArray⟩],.int .i64 0]) (by simp [results,results18,go_sem,r0,r1]) rfl ⟨rfl,?_⟩;exact (B4.out.setCell (p:=⟨B+1,0,none⟩) (show w.heap.size<=B+1 by omega) _).setCell (p:=⟨B+1,1,none⟩) (show w.heap.size<=B+1 by omega) _
  ·rw [if_neg hG] at hp;have e0:(G != 0)=true:=by simpa using hG
   injection hp with q1 q2
   injection q2 with q2 q3
   subst q1 q2 q3;clear hG;go_enter func18,ntmps18;go_wp2_with fail;rw [HW0.out];refine (KL.out _).mono ?_;rintro e w1 ⟨A,c,rfl,hv,hb⟩;have B1:=jH (B0.out.trans (hb.mono B0.out.size));have E1:=jH (E0.out.Ae hb);have M1:=jH (M0.out.Ae hb);have V1:=jH hv;clear hb hv;go_wp2_with fail;refine (KT.out _ _ V1.out).mono ?_;rintro e w2 ⟨rfl,hb⟩;have B2:=jH (B1.out.trans (hb.mono B1.out.size));obtain ⟨C,hC⟩:∃ C,w2.heap.size=C:=⟨_,rfl⟩
   have E2:=jH ((E1.out.Ae hb).Ae (Ac w2 (.cells #[.string ⟨mx.toArray⟩,.string ⟨my.toArray⟩] 28)));have M2:=jH ((M1.out.Ae hb).Ae (Ac w2 (.cells #[.string ⟨mx.toArray⟩,.string ⟨my.toArray⟩] 28)));have C2:=jH (show CAt C ⟨mx.toArray⟩ ⟨my.toArray⟩ (w2.alloc (.cells #[.string ⟨mx.toArray⟩,.string ⟨my.toArray⟩] 28)) from hC ▸ CAt.new w2 _ _);obtain ⟨d0,d1,d2,d3,-,-,-⟩:=M2.out;have c0:=C2.out.c0;have c1:=C2.out.c1;have B3:=jH (B2.out.trans ((Ac w2 (.cells #[.string ⟨mx.toArray⟩,.string ⟨my.toArray⟩] 28)).mono B2.out.size));clear hb;go_wp2_with fail;refine (KR.out _ B3.out).mono ?_;rintro e w3 ⟨rfl,hb⟩;have B4:=jH (B3.out.trans (hb.mono B3.out.size));have E4:=jH (E2.out.Ae hb);clear hb d0 d1 d2 d3 c0 c1;have r0:=E4.out.c0;have r1:=E4.out.c1;have f0:=E4.out.fr 0;have f1:=E4.out.fr 1;go_wp2;refine bodyPost_ret (v:=.tuple #[.agg #[.string ⟨#[]⟩,.string ⟨#[]⟩],.int .i64 G]) (by simp [results,results18,go_sem,r0,r1]) rfl ⟨rfl,?_⟩;exact (B4.out.setCell (p:=⟨B+1,0,none⟩) (show w.heap.size<=B+1 by omega) _).setCell (p:=⟨B+1,1,none⟩) (show w.heap.size<=B+1 by omega) _
end
