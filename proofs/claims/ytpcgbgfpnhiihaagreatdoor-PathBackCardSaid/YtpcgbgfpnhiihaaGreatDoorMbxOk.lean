import Derived.Test.YtpcgbgfpnhiihaaGreatDoorMbxTake
import Derived.Test.YtpcgbgfpnhiihaaGreatDoorDomEnd
import Derived.Test.YtpcgbgfpnhiihaaGreatDoorPrecEnd
set_option maxRecDepth 100000
set_option maxHeartbeats 4000000
namespace Go.Proofs.YtpcgbgfpnhiihaaGreatDoor
section
open Go.RowKit Utf
namespace Mbx
theorem Ax3 {T:ByteArray} (h:0<T.size):((T.extract (T.size - 1) T.size).toList == [93])=true->∃ x,T.data.toList=x ++ [93]/\T.extract 0 (T.size - 1)=⟨x.toArray⟩:=by
 intro e
 have a1:=Lab.Xf (s:=T) (k:=T.size - 1) (by omega) 93
 rw [show T.size - 1+1=T.size by omega,e] at a1
 have a2:Lab.Dk T.data.toList (T.size - 1)=((93:UInt8).toNat:Int):=by simpa using a1.symm
 rw [Lab.Es (show T.size - 1<T.size by omega)] at a2
 have a3:T[T.size - 1]=93:=UInt8.toNat_inj.1 (by omega)
 refine ⟨T.data.toList.take (T.size - 1),?_,?_⟩
 ·have hl:T.data.toList.length=T.size:=by simp
  have e1:T.data.toList.drop (T.size - 1)=[93]:=by
   rw [List.drop_eq_getElem_cons (by omega),List.drop_of_length_le (by omega)]
   have:T.data.toList[T.size - 1]=T[T.size - 1]:=by simp;rfl
   rw [this,a3]
  rw [<- e1,List.take_append_drop]
 ·apply ByteArray.ext
  rw [ByteArray.data_extract]
  apply Array.toList_inj.1
  rw [Array.toList_extract,List.extract_eq_take_drop]
  simp
theorem Ax4 {T:ByteArray} (h:0<T.size) (e:((T.extract (T.size - 1) T.size).toList == [93])=false):∀ x,T.data.toList ≠ x ++ [93]:=by
 intro x hx
 have a1:=Lab.Xf (s:=T) (k:=T.size - 1) (by omega) 93
 rw [show T.size - 1+1=T.size by omega,e,Lab.Es (show T.size - 1<T.size by omega)] at a1
 have hl:T.data.toList.length=T.size:=by simp
 have hq:T.data.toList[T.size - 1]'(by omega)=T[T.size - 1]:=by simp;rfl
 have:T[T.size - 1]=93:=by
  rw [<- hq]
  have hxl:=congrArg List.length hx
  rw [List.length_append,List.length_singleton,hl] at hxl
  simp only [hx]
  rw [List.getElem_append_right (by omega)]
  simp
 rw [this] at a1
 simp at a1
end Mbx
theorem Ano (T:ByteArray) (w:World) (h:T.size<=100000) (he:T.size=0\/(0<T.size/\((T.extract (T.size - 1) T.size).toList == [93])=false)):Calls Tryz.prog 92 #[.string T,.string ⟨#[93]⟩] w λe w'=>e=.returned (.tuple #[.string T,.bool false])/\w=w':=by
 rcases he with h0 | ⟨h0,he⟩
 ·have hz:¬ (1:Int)<=(T.size:Int):=by omega
  clear h0
  go_enter Tryz.func92,Tryz.ntmps92
  go_wp2
  go_ret2
  exact ⟨rfl,rfl⟩
 ·have hz:(1:Int)<=(T.size:Int):=by omega
  go_enter Tryz.func92,Tryz.ntmps92
  go_wp2
  go_ret2
  exact ⟨rfl,rfl⟩
theorem Aiw (T:ByteArray) (w:World) (h:T.size<=100000) (h0:0<T.size) (he:((T.extract (T.size - 1) T.size).toList == [93])=true):Calls Tryz.prog 92 #[.string T,.string ⟨#[93]⟩] w λe w'=>e=.returned (.tuple #[.string (T.extract 0 (T.size - 1)),.bool true])/\w=w':=by
 have hz:(1:Int)<=(T.size:Int):=by omega
 go_enter Tryz.func92,Tryz.ntmps92
 go_wp2
 go_ret2
 exact ⟨rfl,rfl⟩
theorem Za (s:ByteArray) (w:World) (hs:s.size<=100000) (hb:Mbx.Gc s.data.toList=true):Calls Tryz.prog 57 #[.string s] w λe w'=>e=.returned (.bool (Mbx.Mm s.data.toList))/\Below w.heap.size w w':=by
 obtain ⟨t,ht⟩:=Mbx.Anb hb
 have hl:s.data.toList.length=s.size:=by simp
 have h1:(1:Int)<=(s.size:Int):=by rw [<- hl,ht,List.length_cons];omega
 obtain ⟨T,hT⟩:∃ T,T=s.extract 1 s.size:=⟨_,rfl⟩
 have hTs:T.size=s.size - 1:=by rw [hT,ByteArray.size_extract];omega
 have hTl:T.data.toList=t:=by
  rw [hT,ByteArray.data_extract,Array.toList_extract,List.extract_eq_take_drop,ht,List.drop_succ_cons,List.drop_zero]
  have:t.length=s.size - 1:=by rw [<- hl,ht];simp
  rw [List.take_of_length_le (by omega)]
 rw [ht,<- hTl]
 obtain ⟨R,hR⟩:∃ R,R=Mbx.Mm (91::T.data.toList):=⟨_,rfl⟩
 rw [<- hR]
 have hT1:T.size<=100000:=by omega
 have hTe:=jH hT.symm
 have hno:(T.size=0\/(0<T.size/\((T.extract (T.size - 1) T.size).toList == [93])=false))->Calls Tryz.prog 57 #[.string s] w λe w'=>e=.returned (.bool R)/\Below w.heap.size w w':=λhe=>by
  have KC:=jH (λW=>Ano T W hT1 he)
  have E:Hid (R=false):=jH (by
   rw [hR]
   refine Mbx.As9 ?_
   rcases he with h0 | ⟨h0,he⟩
   ·intro x hx
    have:=congrArg List.length hx
    rw [List.length_append,List.length_singleton] at this
    have h2:T.data.toList.length=T.size:=by simp
    omega
   ·exact Mbx.Ax4 h0 he)
  clear hR hT hTs hTl ht hb hl he hT1 hs
  go_enter Tryz.func57,Tryz.ntmps57
  go_wp2_with fail
  rw [hTe.out]
  refine (KC.out w).mono ?_
  rintro e w1 ⟨rfl,rfl⟩
  go_wp2
  go_ret
  exact ⟨by rw [E.out];rfl,Below.refl _ _⟩
 by_cases h0:T.size=0
 ·exact hno (.inl h0)
 cases he:((T.extract (T.size - 1) T.size).toList == [93])
 ·exact hno (.inr ⟨by omega,he⟩)
 ·obtain ⟨x,hx,hxe⟩:=Mbx.Ax3 (by omega) he
  have KC:=jH (λW=>Aiw T W hT1 (by omega) he)
  have E:=hR
  rw [hx,Mbx.Aon] at E
  have hxs:(⟨x.toArray⟩:ByteArray).size<=100000:=by rw [<- hxe,ByteArray.size_extract];omega
  rw [hxe] at KC
  have KI:=λW=>Ua ⟨x.toArray⟩ W hxs
  have KL:=λW=>Y0 ⟨x.toArray⟩ W hxs
  have hxx:(⟨x.toArray⟩:ByteArray).data.toList=x:=rfl
  rw [hxx] at KI KL
  generalize decide ((As x).2=-1)=a at E KI
  generalize x.all Mbx.Mh=b at E KL
  have E:=jH E
  have KI:=jH KI
  have KL:=jH KL
  clear hno h0 hR hT hTs hTl ht hb hl he hT1 hs hx hxe hxx
  cases a
  ·go_enter Tryz.func57,Tryz.ntmps57
   go_wp2_with fail
   rw [hTe.out]
   refine (KC.out w).mono ?_
   rintro e w1 ⟨rfl,rfl⟩
   go_wp2_with fail
   refine (KI.out w).mono ?_
   rintro e w1 ⟨rfl,hb1⟩
   have B1:=jH hb1
   clear hb1
   go_wp2
   go_ret
   exact ⟨by rw [E.out];rfl,B1.out⟩
  ·go_enter Tryz.func57,Tryz.ntmps57
   go_wp2_with fail
   rw [hTe.out]
   refine (KC.out w).mono ?_
   rintro e w1 ⟨rfl,rfl⟩
   go_wp2_with fail
   refine (KI.out w).mono ?_
   rintro e w1 ⟨rfl,hb1⟩
   have B1:=jH hb1
   clear hb1
   go_wp2_with fail
   refine (KL.out w1).mono ?_
   rintro e w2 ⟨rfl,hb2⟩
   have B2:=jH (Aa B1.out hb2)
   clear hb2
   go_wp2
   go_ret
   exact ⟨by rw [E.out];cases b<;>rfl,B2.out⟩
theorem Akq (t:Value) (x y:ByteArray) (w:World) (hT:Table w t) (hx:x.size<=100000) (hy:Au y):Calls Tryz.prog 16 #[t,.agg #[.string x,.string y]] w λe w'=>e=.returned (.int .i64 (Mbx.Jn x.data.toList y.data.toList))/\Below w.heap.size w w':=by
 obtain ⟨R,hR⟩:∃ R,R=Mbx.Jn x.data.toList y.data.toList:=⟨_,rfl⟩
 rw [<- hR]
 have hxl:x.data.toList.length=x.size:=by simp
 have hT0:=hT
 obtain ⟨b0,b1,b2,b3,rfl,-,-,-,-⟩:=hT0
 obtain ⟨B,hB⟩:∃ B,w.heap.size=B:=⟨_,rfl⟩
 have M0:=jH (Pt.new hB b0 b1 b2 b3 x y)
 have B0:=jH (Bd w (.cells #[.slice (some ⟨b0,0,none⟩) 74 74,.slice (some ⟨b1,0,none⟩) 10 10,.slice (some ⟨b2,0,none⟩) 11 11,.slice (some ⟨b3,0,none⟩) 42 42] 31) (.cells #[.string x,.string y] 23))
 have hTB:=hT.below B0.out
 have KA:=jH (λW (h:Below w.heap.size w W)=>Wb _ y W (hT.below h) hy)
 have KI:=jH (λW=>Ua x W hx)
 have KQ:=jH (λW=>Y2 x W hx)
 have KH:=jH (λW=>Iq x y W)
 have KL:=jH (λW h=>Za y W hy.1 h)
 unfold Mbx.Jn at hR
 clear hT hy hTB
 by_cases h1:x.size=0
 ·obtain rfl:x=⟨#[]⟩:=ByteArray.ext (Array.eq_empty_of_size_eq_zero h1)
  rw [if_pos (show (⟨#[]⟩:ByteArray).data.toList=[] from rfl)] at hR
  have E:=jH hR
  clear hR h1 hxl hx
  go_enter Tryz.func16,Tryz.ntmps16
  go_wp2
  go_ret
  exact ⟨by rw [E.out];rfl,by first | exact B0.out | exact hB ▸ B0.out⟩
 have n1:x.data.toList ≠ []:=λe=>h1 (by rw [<- hxl,e];rfl)
 have e1:(x.toList == [])=false:=by
  rw [ByteArray.toList_eq,beq_eq_false_iff_ne]
  exact n1
 rw [if_neg n1,hxl] at hR
 by_cases h2:64<x.size
 ·rw [if_pos h2] at hR
  have E:=jH hR
  have z2:(64:Int)<(x.size:Int):=by omega
  clear hR n1 h1 hxl hx
  go_enter Tryz.func16,Tryz.ntmps16
  go_wp2
  go_ret
  exact ⟨by rw [E.out];rfl,by first | exact B0.out | exact hB ▸ B0.out⟩
 rw [if_neg h2] at hR
 have z2:¬ (64:Int)<(x.size:Int):=by omega
 clear n1 h1 h2 hxl hx
 have hI:decide ((As x.data.toList).2=-1)=decide ((As x.data.toList).2=-1):=rfl
 generalize hi:decide ((As x.data.toList).2=-1)=i at KI
 cases i
 ·rw [if_pos (show (As x.data.toList).2 ≠ -1 by simpa using hi)] at hR
  have E:=jH hR
  clear hR hi hI
  go_enter Tryz.func16,Tryz.ntmps16
  go_wp2_with fail
  refine (KI.out _).mono ?_
  rintro e w1 ⟨rfl,hb⟩
  have M1:=jH (M0.out.Ac hb)
  have B1:=jH (B0.out.trans (hb.mono B0.out.size))
  clear hb M0 B0
  obtain ⟨d0,d1,d2,d3,m0,m1,-⟩:=M1.out
  go_wp2
  go_ret
  exact ⟨by rw [E.out];rfl,B1.out⟩
 rw [if_neg (show ¬ (As x.data.toList).2 ≠ -1 by simpa using hi)] at hR
 clear hi hI
 generalize x.data.toList.all Lex.Az=q at KQ hR
 cases q
 ·rw [if_pos rfl] at hR
  have E:=jH hR
  clear hR
  go_enter Tryz.func16,Tryz.ntmps16
  go_wp2_with fail
  refine (KI.out _).mono ?_
  rintro e w1 ⟨rfl,hb⟩
  have M1:=jH (M0.out.Ac hb)
  have B1:=jH (B0.out.trans (hb.mono B0.out.size))
  clear hb M0 B0
  obtain ⟨d0,d1,d2,d3,m0,m1,-⟩:=M1.out
  go_wp2_with fail
  refine (KQ.out _).mono ?_
  rintro e w2 ⟨rfl,hb⟩
  have M2:=jH (M1.out.Ac hb)
  have B2:=jH (B1.out.trans (hb.mono B1.out.size))
  clear hb d0 d1 d2 d3 m0 m1 M1 B1
  obtain ⟨d0,d1,d2,d3,m0,m1,-⟩:=M2.out
  go_wp2
  go_ret
  exact ⟨by rw [E.out];rfl,B2.out⟩
 rw [if_neg (show ¬ (true=false) by decide)] at hR
 obtain ⟨l,hl⟩:∃ l,Mbx.Gc y.data.toList=l:=⟨_,rfl⟩
 rw [hl] at KH hR
 cases l
 ·rw [if_neg (show ¬ (false=true) by decide)] at hR
  have E:=jH hR
  clear hR hl KL
  go_enter Tryz.func16,Tryz.ntmps16
  go_wp2_with fail
  refine (KI.out _).mono ?_
  rintro e w1 ⟨rfl,hb⟩
  have M1:=jH (M0.out.Ac hb)
  have B1:=jH (B0.out.trans (hb.mono B0.out.size))
  clear hb M0 B0
  obtain ⟨d0,d1,d2,d3,m0,m1,-⟩:=M1.out
  go_wp2_with fail
  refine (KQ.out _).mono ?_
  rintro e w2 ⟨rfl,hb⟩
  have M2:=jH (M1.out.Ac hb)
  have B2:=jH (B1.out.trans (hb.mono B1.out.size))
  clear hb d0 d1 d2 d3 m0 m1 M1 B1
  obtain ⟨d0,d1,d2,d3,m0,m1,-⟩:=M2.out
  go_wp2_with fail
  refine (KH.out _).mono ?_
  rintro e w3 ⟨rfl,hb⟩
  have M3:=jH (M2.out.Ac hb)
  have B3:=jH (B2.out.trans (hb.mono B2.out.size))
  clear hb d0 d1 d2 d3 m0 m1 M2 B2
  obtain ⟨d0,d1,d2,d3,m0,m1,-⟩:=M3.out
  go_wp2_with fail
  refine (KA.out _ B3.out).mono ?_
  rintro e w4 ⟨rfl,hb⟩
  have M4:=jH (M3.out.Ac hb)
  have B4:=jH (B3.out.trans (hb.mono B3.out.size))
  clear hb d0 d1 d2 d3 m0 m1 M3 B3
  obtain ⟨d0,d1,d2,d3,m0,m1,-⟩:=M4.out
  go_wp2
  go_ret
  exact ⟨by rw [E.out];rfl,B4.out⟩
 rw [if_pos rfl] at hR
 have KL:=jH (λW=>KL.out W hl)
 generalize Mbx.Mm y.data.toList=b at KL hR
 have E:=jH hR
 clear hR hl
 cases b
 ·skip
  go_enter Tryz.func16,Tryz.ntmps16
  go_wp2_with fail
  refine (KI.out _).mono ?_
  rintro e w1 ⟨rfl,hb⟩
  have M1:=jH (M0.out.Ac hb)
  have B1:=jH (B0.out.trans (hb.mono B0.out.size))
  clear hb M0 B0
  obtain ⟨d0,d1,d2,d3,m0,m1,-⟩:=M1.out
  go_wp2_with fail
  refine (KQ.out _).mono ?_
  rintro e w2 ⟨rfl,hb⟩
  have M2:=jH (M1.out.Ac hb)
  have B2:=jH (B1.out.trans (hb.mono B1.out.size))
  clear hb d0 d1 d2 d3 m0 m1 M1 B1
  obtain ⟨d0,d1,d2,d3,m0,m1,-⟩:=M2.out
  go_wp2_with fail
  refine (KH.out _).mono ?_
  rintro e w3 ⟨rfl,hb⟩
  have M3:=jH (M2.out.Ac hb)
  have B3:=jH (B2.out.trans (hb.mono B2.out.size))
  clear hb d0 d1 d2 d3 m0 m1 M2 B2
  obtain ⟨d0,d1,d2,d3,m0,m1,-⟩:=M3.out
  go_wp2_with fail
  refine (KL.out _).mono ?_
  rintro e w4 ⟨rfl,hb⟩
  have M4:=jH (M3.out.Ac hb)
  have B4:=jH (B3.out.trans (hb.mono B3.out.size))
  clear hb d0 d1 d2 d3 m0 m1 M3 B3
  obtain ⟨d0,d1,d2,d3,m0,m1,-⟩:=M4.out
  go_wp2
  go_ret
  exact ⟨by rw [E.out];rfl,B4.out⟩
 ·skip
  go_enter Tryz.func16,Tryz.ntmps16
  go_wp2_with fail
  refine (KI.out _).mono ?_
  rintro e w1 ⟨rfl,hb⟩
  have M1:=jH (M0.out.Ac hb)
  have B1:=jH (B0.out.trans (hb.mono B0.out.size))
  clear hb M0 B0
  obtain ⟨d0,d1,d2,d3,m0,m1,-⟩:=M1.out
  go_wp2_with fail
  refine (KQ.out _).mono ?_
  rintro e w2 ⟨rfl,hb⟩
  have M2:=jH (M1.out.Ac hb)
  have B2:=jH (B1.out.trans (hb.mono B1.out.size))
  clear hb d0 d1 d2 d3 m0 m1 M1 B1
  obtain ⟨d0,d1,d2,d3,m0,m1,-⟩:=M2.out
  go_wp2_with fail
  refine (KH.out _).mono ?_
  rintro e w3 ⟨rfl,hb⟩
  have M3:=jH (M2.out.Ac hb)
  have B3:=jH (B2.out.trans (hb.mono B2.out.size))
  clear hb d0 d1 d2 d3 m0 m1 M2 B2
  obtain ⟨d0,d1,d2,d3,m0,m1,-⟩:=M3.out
  go_wp2_with fail
  refine (KL.out _).mono ?_
  rintro e w4 ⟨rfl,hb⟩
  have M4:=jH (M3.out.Ac hb)
  have B4:=jH (B3.out.trans (hb.mono B3.out.size))
  clear hb d0 d1 d2 d3 m0 m1 M3 B3
  obtain ⟨d0,d1,d2,d3,m0,m1,-⟩:=M4.out
  go_wp2
  go_ret
  exact ⟨by rw [E.out];rfl,B4.out⟩
theorem Akl (x y:ByteArray) (w:World) (hx:x.size<=10000) (hy:y.size<=100000):Calls Tryz.prog 17 #[.agg #[.string x,.string y]] w λe w'=>e=.returned (.string ⟨(Mbx.Ew x.data.toList y.data.toList).toArray⟩)/\Below w.heap.size w w':=by
 obtain ⟨R,hR⟩:∃ R:ByteArray,R=⟨(Mbx.Ew x.data.toList y.data.toList).toArray⟩:=⟨_,rfl⟩
 rw [<- hR]
 unfold Mbx.Ew at hR
 have hxl:x.data.toList.length=x.size:=by simp
 have hll:=Mbx.Kd x.data.toList
 obtain ⟨L,hL⟩:∃ L:ByteArray,L=⟨(Mbx.D9 x.data.toList).toArray⟩:=⟨_,rfl⟩
 have hLs:L.size<=30000:=by
  rw [hL]
  show (Mbx.D9 x.data.toList).toArray.size<=_
  rw [List.size_toArray]
  omega
 have E:=jH (show R=L ++ ⟨#[64]⟩ ++ y by
  rw [hR,hL]
  apply ByteArray.ext
  simp [ByteArray.data_append])
 unfold Mbx.D9 at hL
 have KW:=λW=>Ame.words x W (by omega)
 have KS:=jH (λp W=>Ame.source 1 p x W (by omega))
 have B0:=jH (Ab w (.cells #[.string x,.string y] 23))
 have C0:=jH (CAt.new w x y)
 generalize Lex.Dy x.data.toList=b at KW hL
 have KW:=jH KW
 clear hR hxl hll
 cases b
 ·rw [if_neg (by decide)] at hL
  have HL:=jH hL.symm
  clear hL
  go_enter Tryz.func17,Tryz.ntmps17
  go_wp2_with fail
  refine (KW.out _).mono ?_
  rintro e w1 ⟨rfl,hb⟩
  have B1:=jH (B0.out.trans (hb.mono B0.out.size))
  have C1:=jH (C0.out.Ac hb)
  clear hb
  go_wp2_with fail
  refine (KS.out 0 _).mono ?_
  rintro e w2 ⟨rfl,hb⟩
  have B2:=jH (B1.out.trans (hb.mono B1.out.size))
  have c1:=(C1.out.Ac hb).c1
  rw [HL.out]
  clear hb
  go_wp2
  go_ret
  exact ⟨congrArg (λx=>Ending.returned (.string x)) E.out.symm,B2.out⟩
 ·rw [if_pos rfl] at hL
  have HL:=jH (show x=L from hL.symm)
  clear hL
  go_enter Tryz.func17,Tryz.ntmps17
  go_wp2_with fail
  refine (KW.out _).mono ?_
  rintro e w1 ⟨rfl,hb⟩
  have B1:=jH (B0.out.trans (hb.mono B0.out.size))
  have c1:=(C0.out.Ac hb).c1
  clear hb
  go_wp2
  go_ret
  refine ⟨?_,B1.out⟩
  rw [E.out,HL.out]
  rfl
theorem V7 (x y:ByteArray) (w:World) (hx:x.size<=100000) (hy:y.size<=100000):Calls Tryz.prog 43 #[.agg #[.string x,.string y]] w λe w'=>e=.returned (.agg #[.string x,.string y])/\Below w.heap.size w w':=by
 obtain ⟨B,hB⟩:∃ B,w.heap.size=B:=⟨_,rfl⟩
 have KX:=jH (λW=>Bk x W hx)
 have KY:=jH (λW=>Bk y W hy)
 obtain ⟨W0,hW0⟩:∃ W0,W0=((w.alloc (.cells #[.string x,.string y] 23)).alloc (.cells #[.string ⟨#[]⟩,.string ⟨#[]⟩] 23)):=⟨_,rfl⟩
 have e0:=CAt.new w x y
 have e1:=CAt.new (w.alloc (.cells #[.string x,.string y] 23)) ⟨#[]⟩ ⟨#[]⟩
 have hs1:(w.alloc (.cells #[.string x,.string y] 23)).heap.size=B+1:=by simp [hB]
 rw [hB] at e0
 rw [hs1,<- hW0] at e1
 have C0:Hid (CAt B x y W0):=jH (by rw [hW0];exact e0.Ac (Ab _ _))
 have E0:Hid (CAt (B+1) ⟨#[]⟩ ⟨#[]⟩ W0):=jH e1
 have B0:Hid (Below w.heap.size w W0):=jH (by rw [hW0];exact Bd _ _ _)
 have c0:=C0.out.c0
 have c1:=C0.out.c1
 clear e0 e1 hs1
 go_enter Tryz.func43,Tryz.ntmps43
 go_wp2
 rw [<- hW0]
 clear hW0
 go_region_held3 (λw'=>w'.cell? ⟨B,0,none⟩=some (.string x)/\w'.cell? ⟨B,1,none⟩=some (.string y)) (first | go_keep | exact ⟨((C3.out.other (show B ≠ B+1 by omega) 0 (.string x)).other (show B ≠ B+1 by omega) 1 (.string y)).c0,((C3.out.other (show B ≠ B+1 by omega) 0 (.string x)).other (show B ≠ B+1 by omega) 1 (.string y)).c1⟩) (first
  | (go_at_call 80;(with_reducible refine (KX.out _).mono ?_);rintro e w2 ⟨rfl,hb⟩;have hb:=Ag hb;have C2:=jH (C0.out.Ac hb);have E2:=jH (E0.out.Ac hb);have B2:=jH (Aa B0.out hb);have d0:=C2.out.c0;have d1:=C2.out.c1;clear hb)
  | (go_at_call 80;(with_reducible refine (KY.out _).mono ?_);rintro e w3 ⟨rfl,hb⟩;have C3:=jH (C2.out.Ac hb);have E3:=jH (E2.out.Ac hb);have B3:=jH (Aa B2.out hb);have e0:=C3.out.c0;have e1:=C3.out.c1;have r0:=E3.out.c0;have r1:=E3.out.c1;have f0:=E3.out.fr 0;have f1:=E3.out.fr 1;clear hb))
 all_goals
  go_wp2
  refine bodyPost_ret (v:=.agg #[.string x,.string y]) (by simp [results,Tryz.results43,go_sem,r0,r1]) rfl ⟨rfl,?_⟩
  exact (B3.out.setCell (p:=⟨B+1,0,none⟩) (show w.heap.size<=B+1 by omega) _).setCell (p:=⟨B+1,1,none⟩) (show w.heap.size<=B+1 by omega) _
end
section
open Go.RowKit Utf
namespace Mbx
open Lex (C9 esc Cuts Tok)
theorem Ip:∀ x:List UInt8,x.length<=(esc x).length
 | []=>Nat.le_refl _
 | c::t=>by
  have:=Ip t
  rw [esc]
  split<;>simp only [List.length_cons]<;>omega
theorem Au1 (k:Int) (x:List UInt8):x.length<=(C9 k x).length:=by
 have:=Ip x
 unfold C9
 split
 ·simp only [List.length_cons,List.length_append];omega
 ·split
  ·simp only [List.length_cons,List.length_append];omega
  ·split
   · simp only [List.length_cons,List.length_append];omega
   · exact Nat.le_refl _
theorem N9:∀ (l:List S) (k:S),k ∈ l->k.2.length<=(C8 l).length
 | j::t,k,h=>by
  unfold C8
  rw [List.flatMap_cons,List.length_append]
  rcases List.mem_cons.1 h with rfl | h
  ·have:=Au1 k.1 k.2
   omega
  ·have:=N9 t k h
   unfold C8 at this
   omega
theorem Ajv {l:List S} {z:List UInt8} {q:Nat} (h:Eh l=some (z,q)):z.length<=(C8 l).length:=by
 cases l with
 | nil=>cases h
 | cons k t =>
  rw [Eh] at h
  by_cases hk:k.1=1
  ·rw [if_pos hk] at h
   injection h with h
   injection h with h1 h2
   subst h1
   exact N9 (k::t) k (by simp)
  ·rw [if_neg hk] at h
   exact (Tq h).1
theorem Aqx {l:List S} {x y:List UInt8} {n:Nat} (h:take l=some (x,y,n)):x.length<=(C8 l).length:=by
 unfold take at h
 cases hx:Eh (l.drop (skip l)) with
 | none=>rw [hx] at h;cases h
 | some p =>
  obtain ⟨z,q⟩:=p
  rw [hx] at h
  rw [(Abr h).1]
  exact Nat.le_trans (Ajv hx) (J4 l _)
theorem Awf {s:List UInt8} {ts:List Tok} {E:Int} {p:Nat} (h:Lex.Em s=(E,p,ts)) (hs:s.length<=100000):Few (ts.map Lex.Dx)/\(C8 (ts.map Lex.Dx)).length<=s.length:=by
 rcases Lex.Ig s with ⟨-,e⟩ | ⟨-,F,q,e,h1,-⟩ | ⟨-,us,e,hc,-⟩
 ·rw [e] at h;injection h with _ h;injection h with _ h;subst h
  exact ⟨⟨Nat.zero_le _,λk hk=>by cases hk⟩,Nat.zero_le _⟩
 ·rw [e] at h;injection h with _ h;injection h with _ h;subst h
  exact ⟨⟨Nat.zero_le _,λk hk=>by cases hk⟩,Nat.zero_le _⟩
 ·rw [e] at h;injection h with _ h;injection h with _ h;subst h
  obtain ⟨h2,h3⟩:=Lex.Xi hc
  rw [<- Kf] at h2
  exact ⟨⟨by rw [List.length_map];omega,λk hk=>by have:=N9 _ k hk;omega⟩,h2⟩
theorem Yj (x y:List UInt8) (n:Nat):Au5 (some (x,y,n))=.tuple #[.agg #[.string ⟨x.toArray⟩,.string ⟨y.toArray⟩],.int .i64 (n:Int),.bool true]:=rfl
theorem Yi:Au5 none=.tuple #[.agg #[.string ⟨#[]⟩,.string ⟨#[]⟩],.int .i64 0,.bool false]:=rfl
end Mbx
end
end Go.Proofs.YtpcgbgfpnhiihaaGreatDoor
