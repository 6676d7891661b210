import Derived.Test.YtppmbilonaflfaaGreatDoorMbxTake
import Derived.Test.YtppmbilonaflfaaGreatDoorDomEnd
import Derived.Test.YtppmbilonaflfaaGreatDoorPrecEnd
set_option maxHeartbeats 4000000
namespace Go.Proofs.YtppmbilonaflfaaGreatDoor
section
open Go.RowKit Utf
namespace Mbx
theorem Aw7 {T:ByteArray} (h:0<T.size):((T.extract (T.size - 1) T.size).toList == [93])=true->∃ x,T.data.toList=x ++ [93]/\T.extract 0 (T.size - 1)=⟨x.toArray⟩:=by
 intro e
 have a1:=Lab.Vg (s:=T) (k:=T.size - 1) (by omega) 93
 rw [show T.size - 1+1=T.size by omega,e] at a1
 have a2:Lab.Dv T.data.toList (T.size - 1)=((93:UInt8).toNat:Int):=by simpa using a1.symm
 rw [Lab.Ey (show T.size - 1<T.size by omega)] at a2
 have a3:T[T.size - 1]=93:=UInt8.toNat_inj.1 (by omega)
 refine ⟨T.data.toList.take (T.size - 1),?_,?_⟩
 ·have hl:T.data.toList.length=T.size:=by simp
  have e1:T.data.toList.drop (T.size - 1)=[93]:=by
   rw [List.drop_eq_getElem_cons (by omega),List.drop_of_length_le (by omega)]
   have:T.data.toList[T.size - 1]=T[T.size - 1]:=by simp;rfl
   rw [this,a3]
  rw [<- e1,List.take_append_drop]
 ·apply ByteArray.ext
  rw [ByteArray.data_extract]
  apply Array.toList_inj.1
  rw [Array.toList_extract,List.extract_eq_take_drop]
  simp
theorem Aw9 {T:ByteArray} (h:0<T.size) (e:((T.extract (T.size - 1) T.size).toList == [93])=false):∀ x,T.data.toList ≠ x ++ [93]:=by
 intro x hx
 have a1:=Lab.Vg (s:=T) (k:=T.size - 1) (by omega) 93
 rw [show T.size - 1+1=T.size by omega,e,Lab.Ey (show T.size - 1<T.size by omega)] at a1
 have hl:T.data.toList.length=T.size:=by simp
 have hq:T.data.toList[T.size - 1]'(by omega)=T[T.size - 1]:=by simp;rfl
 have:T[T.size - 1]=93:=by
  rw [<- hq]
  have hxl:=congrArg List.length hx
  rw [List.length_append,List.length_singleton,hl] at hxl
  simp only [hx]
  rw [List.getElem_append_right (by omega)]
  simp
 rw [this] at a1
 simp at a1
end Mbx
set_option maxRecDepth 100000 in
theorem Ap3 (T:ByteArray) (w:World) (h:T.size<=100000) (he:T.size=0\/(0<T.size/\((T.extract (T.size - 1) T.size).toList == [93])=false)):Calls Tryz.prog 77 #[.string T,.string ⟨#[93]⟩] w λe w'=>e=.returned (.tuple #[.string T,.bool false])/\w=w':=by
 rcases he with h0 | ⟨h0,he⟩
 ·have hz:¬ (1:Int)<=(T.size:Int):=by omega
  clear h0
  go_enter Tryz.func77,Tryz.ntmps77
  go_wp2
  go_ret2
  exact ⟨rfl,rfl⟩
 ·have hz:(1:Int)<=(T.size:Int):=by omega
  go_enter Tryz.func77,Tryz.ntmps77
  go_wp2
  go_ret2
  exact ⟨rfl,rfl⟩
set_option maxRecDepth 100000 in
theorem Aj9 (T:ByteArray) (w:World) (h:T.size<=100000) (h0:0<T.size) (he:((T.extract (T.size - 1) T.size).toList == [93])=true):Calls Tryz.prog 77 #[.string T,.string ⟨#[93]⟩] w λe w'=>e=.returned (.tuple #[.string (T.extract 0 (T.size - 1)),.bool true])/\w=w':=by
 have hz:(1:Int)<=(T.size:Int):=by omega
 go_enter Tryz.func77,Tryz.ntmps77
 go_wp2
 go_ret2
 exact ⟨rfl,rfl⟩
set_option maxRecDepth 100000 in
theorem Yz (s:ByteArray) (w:World) (hs:s.size<=100000) (hb:Mbx.Bq s.data.toList=true):Calls Tryz.prog 46 #[.string s] w λe w'=>e=.returned (.bool (Mbx.Ni s.data.toList))/\Below w.heap.size w w':=by
 obtain ⟨t,ht⟩:=Mbx.Abt hb
 have hl:s.data.toList.length=s.size:=by simp
 have h1:(1:Int)<=(s.size:Int):=by rw [<- hl,ht,List.length_cons];omega
 obtain ⟨T,hT⟩:∃ T,T=s.extract 1 s.size:=⟨_,rfl⟩
 have hTs:T.size=s.size - 1:=by rw [hT,ByteArray.size_extract];omega
 have hTl:T.data.toList=t:=by
  rw [hT,ByteArray.data_extract,Array.toList_extract,List.extract_eq_take_drop,ht,List.drop_succ_cons,List.drop_zero]
  have:t.length=s.size - 1:=by rw [<- hl,ht];simp
  rw [List.take_of_length_le (by omega)]
 rw [ht,<- hTl]
 obtain ⟨R,hR⟩:∃ R,R=Mbx.Ni (91::T.data.toList):=⟨_,rfl⟩
 rw [<- hR]
 have hT1:T.size<=100000:=by omega
 have hTe:=Lib.hid hT.symm
 have hno:(T.size=0\/(0<T.size/\((T.extract (T.size - 1) T.size).toList == [93])=false))->Calls Tryz.prog 46 #[.string s] w λe w'=>e=.returned (.bool R)/\Below w.heap.size w w':=λhe=>by
  have KC:=Lib.hid (λW=>Ap3 T W hT1 he)
  have E:Hid (R=false):=Lib.hid (by
   rw [hR]
   refine Mbx.Aui ?_
   rcases he with h0 | ⟨h0,he⟩
   ·intro x hx
    have:=congrArg List.length hx
    rw [List.length_append,List.length_singleton] at this
    have h2:T.data.toList.length=T.size:=by simp
    omega
   ·exact Mbx.Aw9 h0 he)
  clear hR hT hTs hTl ht hb hl he hT1 hs
  go_enter Tryz.func46,Tryz.ntmps46
  go_wp2_with fail
  rw [hTe.out]
  refine (KC.out w).mono ?_
  rintro e w1 ⟨rfl,rfl⟩
  go_wp2
  go_ret
  exact ⟨by rw [E.out];rfl,Below.refl _ _⟩
 by_cases h0:T.size=0
 ·exact hno (.inl h0)
 cases he:((T.extract (T.size - 1) T.size).toList == [93])
 ·exact hno (.inr ⟨by omega,he⟩)
 ·obtain ⟨x,hx,hxe⟩:=Mbx.Aw7 (by omega) he
  have KC:=Lib.hid (λW=>Aj9 T W hT1 (by omega) he)
  have E:=hR
  rw [hx,Mbx.Aow] at E
  have hxs:(⟨x.toArray⟩:ByteArray).size<=100000:=by rw [<- hxe,ByteArray.size_extract];omega
  rw [hxe] at KC
  have KI:=λW=>Uj ⟨x.toArray⟩ W hxs
  have KL:=λW=>Y0 ⟨x.toArray⟩ W hxs
  have hxx:(⟨x.toArray⟩:ByteArray).data.toList=x:=rfl
  rw [hxx] at KI KL
  generalize decide ((Aq x).2=-1)=a at E KI
  generalize x.all Mbx.M8=b at E KL
  have E:=Lib.hid E
  have KI:=Lib.hid KI
  have KL:=Lib.hid KL
  clear hno h0 hR hT hTs hTl ht hb hl he hT1 hs hx hxe hxx
  cases a
  ·go_enter Tryz.func46,Tryz.ntmps46
   go_wp2_with fail
   rw [hTe.out]
   refine (KC.out w).mono ?_
   rintro e w1 ⟨rfl,rfl⟩
   go_wp2_with fail
   refine (KI.out w).mono ?_
   rintro e w1 ⟨rfl,hb1⟩
   have B1:=Lib.hid hb1
   clear hb1
   go_wp2
   go_ret
   exact ⟨by rw [E.out];rfl,B1.out⟩
  ·go_enter Tryz.func46,Tryz.ntmps46
   go_wp2_with fail
   rw [hTe.out]
   refine (KC.out w).mono ?_
   rintro e w1 ⟨rfl,rfl⟩
   go_wp2_with fail
   refine (KI.out w).mono ?_
   rintro e w1 ⟨rfl,hb1⟩
   have B1:=Lib.hid hb1
   clear hb1
   go_wp2_with fail
   refine (KL.out w1).mono ?_
   rintro e w2 ⟨rfl,hb2⟩
   have B2:=Lib.hid (Aa B1.out hb2)
   clear hb2
   go_wp2
   go_ret
   exact ⟨by rw [E.out];cases b<;>rfl,B2.out⟩
set_option maxRecDepth 100000 in
theorem Lg (t:Value) (x y:ByteArray) (w:World) (hT:Table w t) (hx:x.size<=100000) (hy:Az y):Calls Tryz.prog 16 #[t,.agg #[.string x,.string y]] w λe w'=>e=.returned (.int .i64 (Mbx.Bo x.data.toList y.data.toList))/\Below w.heap.size w w':=by
 obtain ⟨R,hR⟩:∃ R,R=Mbx.Bo x.data.toList y.data.toList:=⟨_,rfl⟩
 rw [<- hR]
 have hxl:x.data.toList.length=x.size:=by simp
 have hT0:=hT
 obtain ⟨b0,b1,b2,b3,rfl,-,-,-,-⟩:=hT0
 obtain ⟨B,hB⟩:∃ B,w.heap.size=B:=⟨_,rfl⟩
 have M0:=Lib.hid (Mk.new hB b0 b1 b2 b3 x y)
 have B0:=Lib.hid (Bh w (.cells #[.slice (some ⟨b0,0,none⟩) 74 74,.slice (some ⟨b1,0,none⟩) 10 10,.slice (some ⟨b2,0,none⟩) 11 11,.slice (some ⟨b3,0,none⟩) 42 42] 31) (.cells #[.string x,.string y] 23))
 have hTB:=hT.below B0.out
 have KA:=Lib.hid (λW (h:Below w.heap.size w W)=>Yq _ y W (hT.below h) hy)
 have KI:=Lib.hid (λW=>Uj x W hx)
 have KQ:=Lib.hid (λW=>Yx x W hx)
 have KH:=Lib.hid (λW=>Iy x y W)
 have KL:=Lib.hid (λW h=>Yz y W hy.1 h)
 unfold Mbx.Bo at hR
 clear hT hy hTB
 by_cases h1:x.size=0
 ·obtain rfl:x=⟨#[]⟩:=ByteArray.ext (Array.eq_empty_of_size_eq_zero h1)
  rw [if_pos (show (⟨#[]⟩:ByteArray).data.toList=[] from rfl)] at hR
  have E:=Lib.hid hR
  clear hR h1 hxl hx
  go_enter Tryz.func16,Tryz.ntmps16
  go_wp2
  go_ret
  exact ⟨by rw [E.out];rfl,by first | exact B0.out | exact hB ▸ B0.out⟩
 have n1:x.data.toList ≠ []:=λe=>h1 (by rw [<- hxl,e];rfl)
 have e1:(x.toList == [])=false:=by
  rw [ByteArray.toList_eq,beq_eq_false_iff_ne]
  exact n1
 rw [if_neg n1,hxl] at hR
 by_cases h2:64<x.size
 ·rw [if_pos h2] at hR
  have E:=Lib.hid hR
  have z2:(64:Int)<(x.size:Int):=by omega
  clear hR n1 h1 hxl hx
  go_enter Tryz.func16,Tryz.ntmps16
  go_wp2
  go_ret
  exact ⟨by rw [E.out];rfl,by first | exact B0.out | exact hB ▸ B0.out⟩
 rw [if_neg h2] at hR
 have z2:¬ (64:Int)<(x.size:Int):=by omega
 clear n1 h1 h2 hxl hx
 have hI:decide ((Aq x.data.toList).2=-1)=decide ((Aq x.data.toList).2=-1):=rfl
 generalize hi:decide ((Aq x.data.toList).2=-1)=i at KI
 cases i
 ·rw [if_pos (show (Aq x.data.toList).2 ≠ -1 by simpa using hi)] at hR
  have E:=Lib.hid hR
  clear hR hi hI
  go_enter Tryz.func16,Tryz.ntmps16
  go_wp2_with fail
  refine (KI.out _).mono ?_
  rintro e w1 ⟨rfl,hb⟩
  have M1:=Lib.hid (M0.out.Ac hb)
  have B1:=Lib.hid (B0.out.trans (hb.mono B0.out.size))
  clear hb M0 B0
  obtain ⟨d0,d1,d2,d3,m0,m1,-⟩:=M1.out
  go_wp2
  go_ret
  exact ⟨by rw [E.out];rfl,B1.out⟩
 rw [if_neg (show ¬ (Aq x.data.toList).2 ≠ -1 by simpa using hi)] at hR
 clear hi hI
 generalize x.data.toList.all Lex.Bf=q at KQ hR
 cases q
 ·rw [if_pos rfl] at hR
  have E:=Lib.hid hR
  clear hR
  go_enter Tryz.func16,Tryz.ntmps16
  go_wp2_with fail
  refine (KI.out _).mono ?_
  rintro e w1 ⟨rfl,hb⟩
  have M1:=Lib.hid (M0.out.Ac hb)
  have B1:=Lib.hid (B0.out.trans (hb.mono B0.out.size))
  clear hb M0 B0
  obtain ⟨d0,d1,d2,d3,m0,m1,-⟩:=M1.out
  go_wp2_with fail
  refine (KQ.out _).mono ?_
  rintro e w2 ⟨rfl,hb⟩
  have M2:=Lib.hid (M1.out.Ac hb)
  have B2:=Lib.hid (B1.out.trans (hb.mono B1.out.size))
  clear hb d0 d1 d2 d3 m0 m1 M1 B1
  obtain ⟨d0,d1,d2,d3,m0,m1,-⟩:=M2.out
  go_wp2
  go_ret
  exact ⟨by rw [E.out];rfl,B2.out⟩
 rw [if_neg (show ¬ (true=false) by decide)] at hR
 obtain ⟨l,hl⟩:∃ l,Mbx.Bq y.data.toList=l:=⟨_,rfl⟩
 rw [hl] at KH hR
 cases l
 ·rw [if_neg (show ¬ (false=true) by decide)] at hR
  have E:=Lib.hid hR
  clear hR hl KL
  go_enter Tryz.func16,Tryz.ntmps16
  go_wp2_with fail
  refine (KI.out _).mono ?_
  rintro e w1 ⟨rfl,hb⟩
  have M1:=Lib.hid (M0.out.Ac hb)
  have B1:=Lib.hid (B0.out.trans (hb.mono B0.out.size))
  clear hb M0 B0
  obtain ⟨d0,d1,d2,d3,m0,m1,-⟩:=M1.out
  go_wp2_with fail
  refine (KQ.out _).mono ?_
  rintro e w2 ⟨rfl,hb⟩
  have M2:=Lib.hid (M1.out.Ac hb)
  have B2:=Lib.hid (B1.out.trans (hb.mono B1.out.size))
  clear hb d0 d1 d2 d3 m0 m1 M1 B1
  obtain ⟨d0,d1,d2,d3,m0,m1,-⟩:=M2.out
  go_wp2_with fail
  refine (KH.out _).mono ?_
  rintro e w3 ⟨rfl,hb⟩
  have M3:=Lib.hid (M2.out.Ac hb)
  have B3:=Lib.hid (B2.out.trans (hb.mono B2.out.size))
  clear hb d0 d1 d2 d3 m0 m1 M2 B2
  obtain ⟨d0,d1,d2,d3,m0,m1,-⟩:=M3.out
  go_wp2_with fail
  refine (KA.out _ B3.out).mono ?_
  rintro e w4 ⟨rfl,hb⟩
  have M4:=Lib.hid (M3.out.Ac hb)
  have B4:=Lib.hid (B3.out.trans (hb.mono B3.out.size))
  clear hb d0 d1 d2 d3 m0 m1 M3 B3
  obtain ⟨d0,d1,d2,d3,m0,m1,-⟩:=M4.out
  go_wp2
  go_ret
  exact ⟨by rw [E.out];rfl,B4.out⟩
 rw [if_pos rfl] at hR
 have KL:=Lib.hid (λW=>KL.out W hl)
 generalize Mbx.Ni y.data.toList=b at KL hR
 have E:=Lib.hid hR
 clear hR hl
 cases b
 ·skip
  go_enter Tryz.func16,Tryz.ntmps16
  go_wp2_with fail
  refine (KI.out _).mono ?_
  rintro e w1 ⟨rfl,hb⟩
  have M1:=Lib.hid (M0.out.Ac hb)
  have B1:=Lib.hid (B0.out.trans (hb.mono B0.out.size))
  clear hb M0 B0
  obtain ⟨d0,d1,d2,d3,m0,m1,-⟩:=M1.out
  go_wp2_with fail
  refine (KQ.out _).mono ?_
  rintro e w2 ⟨rfl,hb⟩
  have M2:=Lib.hid (M1.out.Ac hb)
  have B2:=Lib.hid (B1.out.trans (hb.mono B1.out.size))
  clear hb d0 d1 d2 d3 m0 m1 M1 B1
  obtain ⟨d0,d1,d2,d3,m0,m1,-⟩:=M2.out
  go_wp2_with fail
  refine (KH.out _).mono ?_
  rintro e w3 ⟨rfl,hb⟩
  have M3:=Lib.hid (M2.out.Ac hb)
  have B3:=Lib.hid (B2.out.trans (hb.mono B2.out.size))
  clear hb d0 d1 d2 d3 m0 m1 M2 B2
  obtain ⟨d0,d1,d2,d3,m0,m1,-⟩:=M3.out
  go_wp2_with fail
  refine (KL.out _).mono ?_
  rintro e w4 ⟨rfl,hb⟩
  have M4:=Lib.hid (M3.out.Ac hb)
  have B4:=Lib.hid (B3.out.trans (hb.mono B3.out.size))
  clear hb d0 d1 d2 d3 m0 m1 M3 B3
  obtain ⟨d0,d1,d2,d3,m0,m1,-⟩:=M4.out
  go_wp2
  go_ret
  exact ⟨by rw [E.out];rfl,B4.out⟩
 ·skip
  go_enter Tryz.func16,Tryz.ntmps16
  go_wp2_with fail
  refine (KI.out _).mono ?_
  rintro e w1 ⟨rfl,hb⟩
  have M1:=Lib.hid (M0.out.Ac hb)
  have B1:=Lib.hid (B0.out.trans (hb.mono B0.out.size))
  clear hb M0 B0
  obtain ⟨d0,d1,d2,d3,m0,m1,-⟩:=M1.out
  go_wp2_with fail
  refine (KQ.out _).mono ?_
  rintro e w2 ⟨rfl,hb⟩
  have M2:=Lib.hid (M1.out.Ac hb)
  have B2:=Lib.hid (B1.out.trans (hb.mono B1.out.size))
  clear hb d0 d1 d2 d3 m0 m1 M1 B1
  obtain ⟨d0,d1,d2,d3,m0,m1,-⟩:=M2.out
  go_wp2_with fail
  refine (KH.out _).mono ?_
  rintro e w3 ⟨rfl,hb⟩
  have M3:=Lib.hid (M2.out.Ac hb)
  have B3:=Lib.hid (B2.out.trans (hb.mono B2.out.size))
  clear hb d0 d1 d2 d3 m0 m1 M2 B2
  obtain ⟨d0,d1,d2,d3,m0,m1,-⟩:=M3.out
  go_wp2_with fail
  refine (KL.out _).mono ?_
  rintro e w4 ⟨rfl,hb⟩
  have M4:=Lib.hid (M3.out.Ac hb)
  have B4:=Lib.hid (B3.out.trans (hb.mono B3.out.size))
  clear hb d0 d1 d2 d3 m0 m1 M3 B3
  obtain ⟨d0,d1,d2,d3,m0,m1,-⟩:=M4.out
  go_wp2
  go_ret
  exact ⟨by rw [E.out];rfl,B4.out⟩
set_option maxRecDepth 100000 in
theorem Akw (x y:ByteArray) (w:World) (hx:x.size<=10000) (hy:y.size<=100000):Calls Tryz.prog 17 #[.agg #[.string x,.string y]] w λe w'=>e=.returned (.string ⟨(Mbx.F6 x.data.toList y.data.toList).toArray⟩)/\Below w.heap.size w w':=by
 obtain ⟨R,hR⟩:∃ R:ByteArray,R=⟨(Mbx.F6 x.data.toList y.data.toList).toArray⟩:=⟨_,rfl⟩
 rw [<- hR]
 unfold Mbx.F6 at hR
 have hxl:x.data.toList.length=x.size:=by simp
 have hll:=Mbx.Ik x.data.toList
 obtain ⟨L,hL⟩:∃ L:ByteArray,L=⟨(Mbx.De x.data.toList).toArray⟩:=⟨_,rfl⟩
 have hLs:L.size<=30000:=by
  rw [hL]
  show (Mbx.De x.data.toList).toArray.size<=_
  rw [List.size_toArray]
  omega
 have E:=Lib.hid (show R=L ++ ⟨#[64]⟩ ++ y by
  rw [hR,hL]
  apply ByteArray.ext
  simp [ByteArray.data_append])
 unfold Mbx.De at hL
 have KW:=λW=>Zk.words x W (by omega)
 have KS:=Lib.hid (λp W=>Zk.source 1 p x W (by omega))
 have B0:=Lib.hid (Ab w (.cells #[.string x,.string y] 23))
 have C0:=Lib.hid (CAt.new w x y)
 generalize Lex.D7 x.data.toList=b at KW hL
 have KW:=Lib.hid KW
 clear hR hxl hll
 cases b
 ·rw [if_neg (by decide)] at hL
  have HL:=Lib.hid hL.symm
  clear hL
  go_enter Tryz.func17,Tryz.ntmps17
  go_wp2_with fail
  refine (KW.out _).mono ?_
  rintro e w1 ⟨rfl,hb⟩
  have B1:=Lib.hid (B0.out.trans (hb.mono B0.out.size))
  have C1:=Lib.hid (C0.out.Ac hb)
  clear hb
  go_wp2_with fail
  refine (KS.out 0 _).mono ?_
  rintro e w2 ⟨rfl,hb⟩
  have B2:=Lib.hid (B1.out.trans (hb.mono B1.out.size))
  have c1:=(C1.out.Ac hb).c1
  rw [HL.out]
  clear hb
  go_wp2
  go_ret
  exact ⟨congrArg (λx=>Ending.returned (.string x)) E.out.symm,B2.out⟩
 ·rw [if_pos rfl] at hL
  have HL:=Lib.hid (show x=L from hL.symm)
  clear hL
  go_enter Tryz.func17,Tryz.ntmps17
  go_wp2_with fail
  refine (KW.out _).mono ?_
  rintro e w1 ⟨rfl,hb⟩
  have B1:=Lib.hid (B0.out.trans (hb.mono B0.out.size))
  have c1:=(C0.out.Ac hb).c1
  clear hb
  go_wp2
  go_ret
  refine ⟨?_,B1.out⟩
  rw [E.out,HL.out]
  rfl
set_option maxRecDepth 100000 in
theorem Vo (x y:ByteArray) (w:World) (hx:x.size<=100000) (hy:y.size<=100000):Calls Tryz.prog 32 #[.agg #[.string x,.string y]] w λe w'=>e=.returned (.agg #[.string x,.string y])/\Below w.heap.size w w':=by
 obtain ⟨B,hB⟩:∃ B,w.heap.size=B:=⟨_,rfl⟩
 have KX:=Lib.hid (λW=>Cc x W hx)
 have KY:=Lib.hid (λW=>Cc y W hy)
 obtain ⟨W0,hW0⟩:∃ W0,W0=((w.alloc (.cells #[.string x,.string y] 23)).alloc (.cells #[.string ⟨#[]⟩,.string ⟨#[]⟩] 23)):=⟨_,rfl⟩
 have e0:=CAt.new w x y
 have e1:=CAt.new (w.alloc (.cells #[.string x,.string y] 23)) ⟨#[]⟩ ⟨#[]⟩
 have hs1:(w.alloc (.cells #[.string x,.string y] 23)).heap.size=B+1:=by simp [hB]
 rw [hB] at e0
 rw [hs1,<- hW0] at e1
 have C0:Hid (CAt B x y W0):=Lib.hid (by rw [hW0];exact e0.Ac (Ab _ _))
 have E0:Hid (CAt (B+1) ⟨#[]⟩ ⟨#[]⟩ W0):=Lib.hid e1
 have B0:Hid (Below w.heap.size w W0):=Lib.hid (by rw [hW0];exact Bh _ _ _)
 have c0:=C0.out.c0
 have c1:=C0.out.c1
 clear e0 e1 hs1
 go_enter Tryz.func32,Tryz.ntmps32
 go_wp2
 rw [<- hW0]
 clear hW0
 go_region_held3 (λw'=>w'.cell? ⟨B,0,none⟩=some (.string x)/\w'.cell? ⟨B,1,none⟩=some (.string y)) (first | go_keep | exact ⟨((C3.out.other (show B ≠ B+1 by omega) 0 (.string x)).other (show B ≠ B+1 by omega) 1 (.string y)).c0,((C3.out.other (show B ≠ B+1 by omega) 0 (.string x)).other (show B ≠ B+1 by omega) 1 (.string y)).c1⟩) (first
  | (go_at_call 65;(with_reducible refine (KX.out _).mono ?_);rintro e w2 ⟨rfl,hb⟩;have hb:=Ai hb;have C2:=Lib.hid (C0.out.Ac hb);have E2:=Lib.hid (E0.out.Ac hb);have B2:=Lib.hid (Aa B0.out hb);have d0:=C2.out.c0;have d1:=C2.out.c1;clear hb)
  | (go_at_call 65;(with_reducible refine (KY.out _).mono ?_);rintro e w3 ⟨rfl,hb⟩;have C3:=Lib.hid (C2.out.Ac hb);have E3:=Lib.hid (E2.out.Ac hb);have B3:=Lib.hid (Aa B2.out hb);have e0:=C3.out.c0;have e1:=C3.out.c1;have r0:=E3.out.c0;have r1:=E3.out.c1;have f0:=E3.out.fr 0;have f1:=E3.out.fr 1;clear hb))
 all_goals
  go_wp2
  refine bodyPost_ret (v:=.agg #[.string x,.string y]) (by simp [results,Tryz.results32,go_sem,r0,r1]) rfl ⟨rfl,?_⟩
  exact (B3.out.setCell (p:=⟨B+1,0,none⟩) (show w.heap.size<=B+1 by omega) _).setCell (p:=⟨B+1,1,none⟩) (show w.heap.size<=B+1 by omega) _
end
section
open Go.RowKit Utf
namespace Mbx
open Lex (Dr esc Cuts Tok)
theorem I7:∀ x:List UInt8,x.length<=(esc x).length
 | []=>Nat.le_refl _
 | c::t=>by
  have:=I7 t
  rw [esc]
  split<;>simp only [List.length_cons]<;>omega
theorem Ast (k:Int) (x:List UInt8):x.length<=(Dr k x).length:=by
 have:=I7 x
 unfold Dr
 split
 ·simp only [List.length_cons,List.length_append];omega
 ·split
  ·simp only [List.length_cons,List.length_append];omega
  ·split
   · simp only [List.length_cons,List.length_append];omega
   · exact Nat.le_refl _
theorem R5:∀ (l:List S) (k:S),k ∈ l->k.2.length<=(Gj l).length
 | j::t,k,h=>by
  unfold Gj
  rw [List.flatMap_cons,List.length_append]
  rcases List.mem_cons.1 h with rfl | h
  ·have:=Ast k.1 k.2
   omega
  ·have:=R5 t k h
   unfold Gj at this
   omega
theorem Akm {l:List S} {z:List UInt8} {q:Nat} (h:Eo l=some (z,q)):z.length<=(Gj l).length:=by
 cases l with
 | nil=>cases h
 | cons k t =>
  rw [Eo] at h
  by_cases hk:k.1=1
  ·rw [if_pos hk] at h
   injection h with h
   injection h with h1 h2
   subst h1
   exact R5 (k::t) k (by simp)
  ·rw [if_neg hk] at h
   exact (Td h).1
theorem Ani {l:List S} {x y:List UInt8} {n:Nat} (h:take l=some (x,y,n)):x.length<=(Gj l).length:=by
 unfold take at h
 cases hx:Eo (l.drop (skip l)) with
 | none=>rw [hx] at h;cases h
 | some p =>
  obtain ⟨z,q⟩:=p
  rw [hx] at h
  rw [(Aag h).1]
  exact Nat.le_trans (Akm hx) (Sd l _)
theorem Avl {s:List UInt8} {ts:List Tok} {E:Int} {p:Nat} (h:Lex.Ij s=(E,p,ts)) (hs:s.length<=100000):Few (ts.map Lex.Hl)/\(Gj (ts.map Lex.Hl)).length<=s.length:=by
 rcases Lex.N8 s with ⟨-,e⟩ | ⟨-,F,q,e,h1,-⟩ | ⟨-,us,e,hc,-⟩
 ·rw [e] at h;injection h with _ h;injection h with _ h;subst h
  exact ⟨⟨Nat.zero_le _,λk hk=>by cases hk⟩,Nat.zero_le _⟩
 ·rw [e] at h;injection h with _ h;injection h with _ h;subst h
  exact ⟨⟨Nat.zero_le _,λk hk=>by cases hk⟩,Nat.zero_le _⟩
 ·rw [e] at h;injection h with _ h;injection h with _ h;subst h
  obtain ⟨h2,h3⟩:=Lex.Afj hc
  rw [<- Sk] at h2
  exact ⟨⟨by rw [List.length_map];omega,λk hk=>by have:=R5 _ k hk;omega⟩,h2⟩
theorem Akb (x y:List UInt8) (n:Nat):Atb (some (x,y,n))=.tuple #[.agg #[.string ⟨x.toArray⟩,.string ⟨y.toArray⟩],.int .i64 (n:Int),.bool true]:=rfl
theorem Yj:Atb none=.tuple #[.agg #[.string ⟨#[]⟩,.string ⟨#[]⟩],.int .i64 0,.bool false]:=rfl
end Mbx
set_option maxRecDepth 100000 in
theorem O8 (t:Value) (s:ByteArray) (w:World) (hT:Table w t) (hs:s.size<=100000) (hf:∀ ts x y n,Lex.Ij s.data.toList=(0,0,ts)->Mbx.take (ts.map Lex.Hl)=some (x,y,n)->Az ⟨y.toArray⟩)
  {E:Int} {x y:List UInt8} (hp:Mbx.Eh s.data.toList=(E,x,y)):Calls Tryz.prog 21 #[t,.string s] w λe w'=>e=.returned (.tuple #[.agg #[.string ⟨x.toArray⟩,.string ⟨y.toArray⟩],.int .i64 E])/\Below w.heap.size w w':=by
 have hT0:=hT
 obtain ⟨b0,b1,b2,b3,rfl,-,-,-,-⟩:=hT0
 obtain ⟨B,hB⟩:∃ B,w.heap.size=B:=⟨_,rfl⟩
 obtain ⟨W0,hW0⟩:∃ W0,W0=(w.alloc (.cells #[.slice (some ⟨b0,0,none⟩) 74 74,.slice (some ⟨b1,0,none⟩) 10 10,.slice (some ⟨b2,0,none⟩) 11 11,.slice (some ⟨b3,0,none⟩) 42 42] 31)).alloc (.cells #[.string ⟨#[]⟩,.string ⟨#[]⟩] 23):=⟨_,rfl⟩
 have M0:Hid (Mk B b0 b1 b2 b3 ⟨#[]⟩ ⟨#[]⟩ W0):=Lib.hid (by rw [hW0];exact Mk.new hB b0 b1 b2 b3 _ _)
 have E0:Hid (CAt (B+1) ⟨#[]⟩ ⟨#[]⟩ W0):=Lib.hid (by
  have:=CAt.new (w.alloc (.cells #[.slice (some ⟨b0,0,none⟩) 74 74,.slice (some ⟨b1,0,none⟩) 10 10,.slice (some ⟨b2,0,none⟩) 11 11,.slice (some ⟨b3,0,none⟩) 42 42] 31)) ⟨#[]⟩ ⟨#[]⟩
  rw [<- hW0,show (w.alloc (.cells #[.slice (some ⟨b0,0,none⟩) 74 74,.slice (some ⟨b1,0,none⟩) 10 10,.slice (some ⟨b2,0,none⟩) 11 11,.slice (some ⟨b3,0,none⟩) 42 42] 31)).heap.size=B+1 by simp [hB]] at this
  exact this)
 have B0:Hid (Below w.heap.size w W0):=Lib.hid (by rw [hW0];exact Bh _ _ _)
 have HW0:=Lib.hid hW0.symm
 obtain ⟨⟨F,pl,ts⟩,hl⟩:∃ q,Lex.Ij s.data.toList=q:=⟨_,rfl⟩
 have hsl:s.data.toList.length=s.size:=by simp
 obtain ⟨hfew,hout⟩:=Mbx.Avl hl (by omega)
 have HF:=Lib.hid hfew
 have KL:=Zk.lex s w hs
 have KL:=Lib.hid (λW=>Zk.lex s W hs)
 rw [hl] at KL
 simp only at KL
 unfold Mbx.Eh at hp
 rw [hl] at hp
 unfold Mbx.O0 at hp
 simp only at hp
 clear hW0 hfew
 by_cases hF:F=0
 case neg =>
  rw [if_pos hF] at hp
  injection hp with q1 q2
  injection q2 with q2 q3
  subst q1 q2 q3
  have e0:(F != 0)=true:=by simpa using hF
  clear hF hf hl hT
  go_enter Tryz.func21,Tryz.ntmps21
  go_wp2_with fail
  rw [HW0.out]
  refine (KL.out _).mono ?_
  rintro e w1 ⟨A,c,rfl,-,hb⟩
  have B1:=Lib.hid (B0.out.trans (hb.mono B0.out.size))
  have r0:=(E0.out.Ac hb).c0
  have r1:=(E0.out.Ac hb).c1
  have f0:=(E0.out.Ac hb).fr 0
  have f1:=(E0.out.Ac hb).fr 1
  clear hb
  go_wp2
  refine bodyPost_ret (v:=.tuple #[.agg #[.string ⟨#[]⟩,.string ⟨#[]⟩],.int .i64 F]) (by simp [results,Tryz.results21,go_sem,r0,r1]) rfl ⟨rfl,?_⟩
  exact (B1.out.setCell (p:=⟨B+1,0,none⟩) (show w.heap.size<=B+1 by omega) _).setCell (p:=⟨B+1,1,none⟩) (show w.heap.size<=B+1 by omega) _
 subst hF
 rw [if_neg (show ¬ ((0:Int) ≠ 0) by decide)] at hp
 have hpl:pl=0:=by
  rcases Lex.N8 s.data.toList with ⟨-,e⟩ | ⟨-,F,q,e,h1,-⟩ | ⟨-,us,e,hc,-⟩
  ·rw [e] at hl;injection hl with h _;cases h
  ·rw [e] at hl;injection hl with h _;omega
  ·rw [e] at hl;injection hl with _ h;injection h with h _;exact h.symm
 subst hpl
 have KT:=λv W (h:Yy v ts W)=>Ag7 v (ts.map Lex.Hl) W (Lq.of h) HF.out
 cases ht:Mbx.take (ts.map Lex.Hl) with
 | none =>
  rw [ht,Mbx.Yj] at KT
  rw [ht] at hp
  simp only at hp
  injection hp with q1 q2
  injection q2 with q2 q3
  subst q1 q2 q3
  have KT:=Lib.hid KT
  clear hf hl hT ht
  go_enter Tryz.func21,Tryz.ntmps21
  go_wp2_with fail
  rw [HW0.out]
  refine (KL.out _).mono ?_
  rintro e w1 ⟨A,c,rfl,hv,hb⟩
  have B1:=Lib.hid (B0.out.trans (hb.mono B0.out.size))
  have E1:=Lib.hid (E0.out.Ac hb)
  have V1:=Lib.hid hv
  clear hb hv
  go_wp2_with fail
  refine (KT.out _ _ V1.out).mono ?_
  rintro e w2 ⟨rfl,hb⟩
  have B2:=Lib.hid (B1.out.trans (hb.mono B1.out.size))
  obtain ⟨C,hC⟩:∃ C,w2.heap.size=C:=⟨_,rfl⟩
  have E2:=Lib.hid ((E1.out.Ac hb).Ac (Ab w2 (.cells #[.string ⟨#[]⟩,.string ⟨#[]⟩] 23)))
  have r0:=E2.out.c0
  have r1:=E2.out.c1
  have f0:=E2.out.fr 0
  have f1:=E2.out.fr 1
  have B3:=Lib.hid (B2.out.trans ((Ab w2 (.cells #[.string ⟨#[]⟩,.string ⟨#[]⟩] 23)).mono B2.out.size))
  clear hb
  go_wp2
  refine bodyPost_ret (v:=.tuple #[.agg #[.string ⟨#[]⟩,.string ⟨#[]⟩],.int .i64 4]) (by simp [results,Tryz.results21,go_sem,r0,r1]) rfl ⟨rfl,?_⟩
  exact (B3.out.setCell (p:=⟨B+1,0,none⟩) (show w.heap.size<=B+1 by omega) _).setCell (p:=⟨B+1,1,none⟩) (show w.heap.size<=B+1 by omega) _
 | some q =>
  obtain ⟨mx,my,n⟩:=q
  rw [ht,Mbx.Akb] at KT
  rw [ht] at hp
  simp only at hp
  have hn:=(Mbx.take_len ht).2
  rw [List.length_map] at hn
  have KT:=Lib.hid KT
  have LY:=Lib.hid (hf ts mx my n hl ht)
  have hmx:mx.length<=100000:=by have:=Mbx.Ani ht;omega
  by_cases hnn:n=ts.length
  case neg =>
   rw [if_neg hnn] at hp
   injection hp with q1 q2
   injection q2 with q2 q3
   subst q1 q2 q3
   have hz:(n:Int)<(ts.length:Int):=by omega
   clear hf hl hT ht hnn hn
   go_enter Tryz.func21,Tryz.ntmps21
   go_wp2_with fail
   rw [HW0.out]
   refine (KL.out _).mono ?_
   rintro e w1 ⟨A,c,rfl,hv,hb⟩
   have B1:=Lib.hid (B0.out.trans (hb.mono B0.out.size))
   have E1:=Lib.hid (E0.out.Ac hb)
   have V1:=Lib.hid hv
   clear hb hv
   go_wp2_with fail
   refine (KT.out _ _ V1.out).mono ?_
   rintro e w2 ⟨rfl,hb⟩
   have B2:=Lib.hid (B1.out.trans (hb.mono B1.out.size))
   obtain ⟨C,hC⟩:∃ C,w2.heap.size=C:=⟨_,rfl⟩
   have E2:=Lib.hid ((E1.out.Ac hb).Ac (Ab w2 (.cells #[.string ⟨mx.toArray⟩,.string ⟨my.toArray⟩] 23)))
   have r0:=E2.out.c0
   have r1:=E2.out.c1
   have f0:=E2.out.fr 0
   have f1:=E2.out.fr 1
   have B3:=Lib.hid (B2.out.trans ((Ab w2 (.cells #[.string ⟨mx.toArray⟩,.string ⟨my.toArray⟩] 23)).mono B2.out.size))
   clear hb
   go_wp2
   refine bodyPost_ret (v:=.tuple #[.agg #[.string ⟨#[]⟩,.string ⟨#[]⟩],.int .i64 4]) (by simp [results,Tryz.results21,go_sem,r0,r1]) rfl ⟨rfl,?_⟩
   exact (B3.out.setCell (p:=⟨B+1,0,none⟩) (show w.heap.size<=B+1 by omega) _).setCell (p:=⟨B+1,1,none⟩) (show w.heap.size<=B+1 by omega) _
  rw [if_pos hnn] at hp
  have hz:¬ (n:Int)<(ts.length:Int):=by omega
  have KR:=Lib.hid (λW (h:Below w.heap.size w W)=>Lg _ ⟨mx.toArray⟩ ⟨my.toArray⟩ W (hT.below h) (by simpa [ByteArray.size] using hmx) LY.out)
  have hxx:(⟨mx.toArray⟩:ByteArray).data.toList=mx:=rfl
  have hyy:(⟨my.toArray⟩:ByteArray).data.toList=my:=rfl
  rw [hxx,hyy] at KR
  generalize Mbx.Bo mx my=G at KR hp
  clear hf hl hT ht hnn hn hxx hyy hmx LY
  by_cases hG:G=0
  ·rw [if_pos hG] at hp
   injection hp with q1 q2
   injection q2 with q2 q3
   subst hG q1 q2 q3
   go_enter Tryz.func21,Tryz.ntmps21
   go_wp2_with fail
   rw [HW0.out]
   refine (KL.out _).mono ?_
   rintro e w1 ⟨A,c,rfl,hv,hb⟩
   have B1:=Lib.hid (B0.out.trans (hb.mono B0.out.size))
   have E1:=Lib.hid (E0.out.Ac hb)
   have M1:=Lib.hid (M0.out.Ac hb)
   have V1:=Lib.hid hv
   clear hb hv
   go_wp2_with fail
   refine (KT.out _ _ V1.out).mono ?_
   rintro e w2 ⟨rfl,hb⟩
   have B2:=Lib.hid (B1.out.trans (hb.mono B1.out.size))
   obtain ⟨C,hC⟩:∃ C,w2.heap.size=C:=⟨_,rfl⟩
   have E2:=Lib.hid ((E1.out.Ac hb).Ac (Ab w2 (.cells #[.string ⟨mx.toArray⟩,.string ⟨my.toArray⟩] 23)))
   have M2:=Lib.hid ((M1.out.Ac hb).Ac (Ab w2 (.cells #[.string ⟨mx.toArray⟩,.string ⟨my.toArray⟩] 23)))
   have C2:=Lib.hid (show CAt C ⟨mx.toArray⟩ ⟨my.toArray⟩ (w2.alloc (.cells #[.string ⟨mx.toArray⟩,.string ⟨my.toArray⟩] 23)) from hC ▸ CAt.new w2 _ _)
   obtain ⟨d0,d1,d2,d3,-,-,-⟩:=M2.out
   have c0:=C2.out.c0
   have c1:=C2.out.c1
   have B3:=Lib.hid (B2.out.trans ((Ab w2 (.cells #[.string ⟨mx.toArray⟩,.string ⟨my.toArray⟩] 23)).mono B2.out.size))
   clear hb
   go_wp2_with fail
   refine (KR.out _ B3.out).mono ?_
   rintro e w3 ⟨rfl,hb⟩
   have B4:=Lib.hid (B3.out.trans (hb.mono B3.out.size))
   have E4:=Lib.hid (E2.out.Ac hb)
   have C4:=Lib.hid (C2.out.Ac hb)
   clear hb d0 d1 d2 d3 c0 c1
   have r0:=E4.out.c0
   have r1:=E4.out.c1
   have f0:=E4.out.fr 0
   have f1:=E4.out.fr 1
   have c0:=C4.out.c0
   have c1:=C4.out.c1
   go_wp2
   refine bodyPost_ret (v:=.tuple #[.agg #[.string ⟨mx.toArray⟩,.string ⟨my.toArray⟩],.int .i64 0]) (by simp [results,Tryz.results21,go_sem,r0,r1]) rfl ⟨rfl,?_⟩
   exact (B4.out.setCell (p:=⟨B+1,0,none⟩) (show w.heap.size<=B+1 by omega) _).setCell (p:=⟨B+1,1,none⟩) (show w.heap.size<=B+1 by omega) _
  ·rw [if_neg hG] at hp
   have e0:(G != 0)=true:=by simpa using hG
   injection hp with q1 q2
   injection q2 with q2 q3
   subst q1 q2 q3
   clear hG
   go_enter Tryz.func21,Tryz.ntmps21
   go_wp2_with fail
   rw [HW0.out]
   refine (KL.out _).mono ?_
   rintro e w1 ⟨A,c,rfl,hv,hb⟩
   have B1:=Lib.hid (B0.out.trans (hb.mono B0.out.size))
   have E1:=Lib.hid (E0.out.Ac hb)
   have M1:=Lib.hid (M0.out.Ac hb)
   have V1:=Lib.hid hv
   clear hb hv
   go_wp2_with fail
   refine (KT.out _ _ V1.out).mono ?_
   rintro e w2 ⟨rfl,hb⟩
   have B2:=Lib.hid (B1.out.trans (hb.mono B1.out.size))
   obtain ⟨C,hC⟩:∃ C,w2.heap.size=C:=⟨_,rfl⟩
   have E2:=Lib.hid ((E1.out.Ac hb).Ac (Ab w2 (.cells #[.string ⟨mx.toArray⟩,.string ⟨my.toArray⟩] 23)))
   have M2:=Lib.hid ((M1.out.Ac hb).Ac (Ab w2 (.cells #[.string ⟨mx.toArray⟩,.string ⟨my.toArray⟩] 23)))
   have C2:=Lib.hid (show CAt C ⟨mx.toArray⟩ ⟨my.toArray⟩ (w2.alloc (.cells #[.string ⟨mx.toArray⟩,.string ⟨my.toArray⟩] 23)) from hC ▸ CAt.new w2 _ _)
   obtain ⟨d0,d1,d2,d3,-,-,-⟩:=M2.out
   have c0:=C2.out.c0
   have c1:=C2.out.c1
   have B3:=Lib.hid (B2.out.trans ((Ab w2 (.cells #[.string ⟨mx.toArray⟩,.string ⟨my.toArray⟩] 23)).mono B2.out.size))
   clear hb
   go_wp2_with fail
   refine (KR.out _ B3.out).mono ?_
   rintro e w3 ⟨rfl,hb⟩
   have B4:=Lib.hid (B3.out.trans (hb.mono B3.out.size))
   have E4:=Lib.hid (E2.out.Ac hb)
   clear hb d0 d1 d2 d3 c0 c1
   have r0:=E4.out.c0
   have r1:=E4.out.c1
   have f0:=E4.out.fr 0
   have f1:=E4.out.fr 1
   go_wp2
   refine bodyPost_ret (v:=.tuple #[.agg #[.string ⟨#[]⟩,.string ⟨#[]⟩],.int .i64 G]) (by simp [results,Tryz.results21,go_sem,r0,r1]) rfl ⟨rfl,?_⟩
   exact (B4.out.setCell (p:=⟨B+1,0,none⟩) (show w.heap.size<=B+1 by omega) _).setCell (p:=⟨B+1,1,none⟩) (show w.heap.size<=B+1 by omega) _
end
end Go.Proofs.YtppmbilonaflfaaGreatDoor
