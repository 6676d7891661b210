import Derived.Test.YtpcgbgfpnhiihaaGreatDoorMbxOk
set_option maxRecDepth 100000
set_option maxHeartbeats 4000000
namespace Go.Proofs.YtpcgbgfpnhiihaaGreatDoor
open Go.RowKit Utf
theorem Aiq (t:Value) (x y:ByteArray) (w:World) (hT:Table w t) (hx:Au x) (hy:Au y):Calls Tryz.prog 19 #[t,.agg #[.string x,.string y]] w λe w'=>e=.returned (.agg #[.string ⟨(Mbx.Aa2 x.data.toList).toArray⟩,.string ⟨(Mbx.Anw y.data.toList).toArray⟩])/\Below w.heap.size w w':=by
 have hT0:=hT
 obtain ⟨b0,b1,b2,b3,rfl,-,-,-,-⟩:=hT0
 obtain ⟨B,hB⟩:∃ B,w.heap.size=B:=⟨_,rfl⟩
 obtain ⟨W0,hW0⟩:∃ W0,W0=((w.alloc (.cells #[.slice (some ⟨b0,0,none⟩) 74 74,.slice (some ⟨b1,0,none⟩) 10 10,.slice (some ⟨b2,0,none⟩) 11 11,.slice (some ⟨b3,0,none⟩) 42 42] 31)).alloc (.cells #[.string x,.string y] 23)).alloc (.cells #[.string ⟨#[]⟩,.string ⟨#[]⟩] 23):=⟨_,rfl⟩
 have hs2:((w.alloc (.cells #[.slice (some ⟨b0,0,none⟩) 74 74,.slice (some ⟨b1,0,none⟩) 10 10,.slice (some ⟨b2,0,none⟩) 11 11,.slice (some ⟨b3,0,none⟩) 42 42] 31)).alloc (.cells #[.string x,.string y] 23)).heap.size=B+2:=by simp [hB]
 have M0:Hid (Pt B b0 b1 b2 b3 x y W0):=jH (by rw [hW0];exact (Pt.new hB b0 b1 b2 b3 x y).Ac (Ab _ _))
 have E0:Hid (CAt (B+2) ⟨#[]⟩ ⟨#[]⟩ W0):=jH (by rw [hW0,<- hs2];exact CAt.new _ _ _)
 have B0:Hid (Below w.heap.size w W0):=jH (by rw [hW0];exact (Bd w (.cells #[.slice (some ⟨b0,0,none⟩) 74 74,.slice (some ⟨b1,0,none⟩) 10 10,.slice (some ⟨b2,0,none⟩) 11 11,.slice (some ⟨b3,0,none⟩) 42 42] 31) (.cells #[.string x,.string y] 23)).trans ((Ab _ _).mono (by simp;omega)))
 have HW0:=jH hW0.symm
 clear hs2 hW0
 have KN:=jH (λW (h:Below w.heap.size w W)=>Ao5 _ x W (hT.below h) hx)
 have KD:=jH (λW (h:Below w.heap.size w W)=>Wb _ y W (hT.below h) hy)
 have KC:=jH (λW=>V7 x y W hx.1 hy.1)
 have KH:=jH (λW=>Iq x y W)
 have KP:=jH (λW=>Tb y W hy.1)
 obtain ⟨U,hU⟩:∃ U:ByteArray,U=⟨(Mbx.Aa2 x.data.toList).toArray⟩:=⟨_,rfl⟩
 obtain ⟨V,hV⟩:∃ V:ByteArray,V=⟨(Mbx.Anw y.data.toList).toArray⟩:=⟨_,rfl⟩
 rw [<- hU,<- hV]
 unfold Mbx.Aa2 at hU
 unfold Mbx.Anw at hV
 have HX:=jH (show (⟨x.data.toList.toArray⟩:ByteArray)=x from rfl)
 have HY:=jH (show (⟨y.data.toList.toArray⟩:ByteArray)=y from rfl)
 obtain ⟨⟨F,nm⟩,hN⟩:∃ p,Prec.Q3 x.data.toList=p:=⟨_,rfl⟩
 obtain ⟨⟨G,da,du⟩,hD⟩:∃ p,Dom.Cj y.data.toList=p:=⟨_,rfl⟩
 obtain ⟨l,hl⟩:∃ l,Mbx.Gc y.data.toList=l:=⟨_,rfl⟩
 rw [hN] at KN hU
 rw [hD] at KD hV
 rw [hl] at KH hV
 simp only at KN KD hU hV
 clear hT hx hy hN hD hl
 by_cases hF:F=0
 ·subst hF
  rw [if_pos rfl] at hU
  cases l
  ·rw [if_neg (show ¬ (false=true) by decide)] at hV
   by_cases hG:G=0
   ·subst hG
    rw [if_pos rfl] at hV
    have EU:=jH hU
    have EV:=jH hV
    clear hU hV
    go_enter Tryz.func19,Tryz.ntmps19
    go_wp2_with fail
    rw [HW0.out]
    refine (KC.out _).mono ?_
    rintro e w1 ⟨rfl,hb⟩
    have M1:=jH (M0.out.Ac hb)
    have B1:=jH (B0.out.trans (hb.mono B0.out.size))
    have E1:=jH (E0.out.Ac hb)
    clear M0 B0 E0
    obtain ⟨d0,d1,d2,d3,m0,m1,-⟩:=M1.out
    have r0:=E1.out.c0
    have r1:=E1.out.c1
    have f0:=E1.out.fr 0
    have f1:=E1.out.fr 1
    clear hb
    obtain ⟨C,hC⟩:∃ C,w1.heap.size=C:=⟨_,rfl⟩
    have hBC:B+2<C:=by have:=E1.out.lt;omega
    have M2:=jH (M1.out.Ac (Ab _ (.cells #[.string x,.string y] 23)))
    have B2:=jH (B1.out.trans ((Ab _ (.cells #[.string x,.string y] 23)).mono B1.out.size))
    have E2:=jH (E1.out.Ac (Ab _ (.cells #[.string x,.string y] 23)))
    have C2:=jH (show CAt C x y (w1.alloc (.cells #[.string x,.string y] 23)) from hC ▸ CAt.new w1 x y)
    clear d0 d1 d2 d3 m0 m1 r0 r1 f0 f1
    clear M1 B1 E1
    obtain ⟨d0,d1,d2,d3,m0,m1,-⟩:=M2.out
    have r0:=E2.out.c0
    have r1:=E2.out.c1
    have f0:=E2.out.fr 0
    have f1:=E2.out.fr 1
    have c0:=C2.out.c0
    have c1:=C2.out.c1
    have g0:=C2.out.fr 0
    have g1:=C2.out.fr 1
    go_wp2_with fail
    refine (KN.out _ B2.out).mono ?_
    rintro e w2 ⟨rfl,hb⟩
    have M3:=jH (M2.out.Ac hb)
    have B3:=jH (B2.out.trans (hb.mono B2.out.size))
    have E3:=jH (E2.out.Ac hb)
    have C3:=jH (C2.out.Ac hb)
    clear d0 d1 d2 d3 m0 m1 r0 r1 f0 f1
    clear M2 B2 E2
    clear C2 c0 c1 g0 g1
    obtain ⟨d0,d1,d2,d3,m0,m1,-⟩:=M3.out
    have r0:=E3.out.c0
    have r1:=E3.out.c1
    have f0:=E3.out.fr 0
    have f1:=E3.out.fr 1
    have c0:=C3.out.c0
    have c1:=C3.out.c1
    have g0:=C3.out.fr 0
    have g1:=C3.out.fr 1
    clear hb
    go_wp2_with fail
    have M4:=jH (M3.out.other (D:=C) (by omega) 0 (.string ⟨nm.toArray⟩))
    have B4:=jH (B3.out.setCell (p:=⟨C,0,none⟩) (show w.heap.size<=C by omega) (.string ⟨nm.toArray⟩))
    have E4:=jH (E3.out.other (D:=C) (by omega) 0 (.string ⟨nm.toArray⟩))
    have C4:=jH (C3.out.Ahi ⟨nm.toArray⟩)
    clear d0 d1 d2 d3 m0 m1 r0 r1 f0 f1
    clear M3 B3 E3
    clear C3 c0 c1 g0 g1
    obtain ⟨d0,d1,d2,d3,m0,m1,-⟩:=M4.out
    have r0:=E4.out.c0
    have r1:=E4.out.c1
    have f0:=E4.out.fr 0
    have f1:=E4.out.fr 1
    have c0:=C4.out.c0
    have c1:=C4.out.c1
    have g0:=C4.out.fr 0
    have g1:=C4.out.fr 1
    refine (KH.out _).mono ?_
    rintro e w3 ⟨rfl,hb⟩
    have M5:=jH (M4.out.Ac hb)
    have B5:=jH (B4.out.trans (hb.mono B4.out.size))
    have E5:=jH (E4.out.Ac hb)
    have C5:=jH (C4.out.Ac hb)
    clear d0 d1 d2 d3 m0 m1 r0 r1 f0 f1
    clear M4 B4 E4
    clear C4 c0 c1 g0 g1
    obtain ⟨d0,d1,d2,d3,m0,m1,-⟩:=M5.out
    have r0:=E5.out.c0
    have r1:=E5.out.c1
    have f0:=E5.out.fr 0
    have f1:=E5.out.fr 1
    have c0:=C5.out.c0
    have c1:=C5.out.c1
    have g0:=C5.out.fr 0
    have g1:=C5.out.fr 1
    clear hb
    go_wp2_with fail
    refine (KD.out _ B5.out).mono ?_
    rintro e w4 ⟨rfl,hb⟩
    have M6:=jH (M5.out.Ac hb)
    have B6:=jH (B5.out.trans (hb.mono B5.out.size))
    have E6:=jH (E5.out.Ac hb)
    have C6:=jH (C5.out.Ac hb)
    clear d0 d1 d2 d3 m0 m1 r0 r1 f0 f1
    clear M5 B5 E5
    clear C5 c0 c1 g0 g1
    obtain ⟨d0,d1,d2,d3,m0,m1,-⟩:=M6.out
    have r0:=E6.out.c0
    have r1:=E6.out.c1
    have f0:=E6.out.fr 0
    have f1:=E6.out.fr 1
    have c0:=C6.out.c0
    have c1:=C6.out.c1
    have g0:=C6.out.fr 0
    have g1:=C6.out.fr 1
    clear hb
    go_wp2
    refine bodyPost_ret (v:=.agg #[.string ⟨nm.toArray⟩,.string ⟨da.toArray⟩]) (by simp [results,Tryz.results19,go_sem,r0,r1]) rfl ⟨by rw [EU.out,EV.out],?_⟩
    exact ((B6.out.setCell (p:=⟨C,1,none⟩) (show w.heap.size<=C by omega) (.string ⟨da.toArray⟩)).setCell (p:=⟨B+2,0,none⟩) (show w.heap.size<=B+2 by omega) _).setCell (p:=⟨B+2,1,none⟩) (show w.heap.size<=B+2 by omega) _
   ·rw [if_neg hG,HY.out] at hV
    have e1:(G == 0)=false:=by simpa using hG
    clear hG
    have EU:=jH hU
    have EV:=jH hV
    clear hU hV
    go_enter Tryz.func19,Tryz.ntmps19
    go_wp2_with fail
    rw [HW0.out]
    refine (KC.out _).mono ?_
    rintro e w1 ⟨rfl,hb⟩
    have M1:=jH (M0.out.Ac hb)
    have B1:=jH (B0.out.trans (hb.mono B0.out.size))
    have E1:=jH (E0.out.Ac hb)
    clear M0 B0 E0
    obtain ⟨d0,d1,d2,d3,m0,m1,-⟩:=M1.out
    have r0:=E1.out.c0
    have r1:=E1.out.c1
    have f0:=E1.out.fr 0
    have f1:=E1.out.fr 1
    clear hb
    obtain ⟨C,hC⟩:∃ C,w1.heap.size=C:=⟨_,rfl⟩
    have hBC:B+2<C:=by have:=E1.out.lt;omega
    have M2:=jH (M1.out.Ac (Ab _ (.cells #[.string x,.string y] 23)))
    have B2:=jH (B1.out.trans ((Ab _ (.cells #[.string x,.string y] 23)).mono B1.out.size))
    have E2:=jH (E1.out.Ac (Ab _ (.cells #[.string x,.string y] 23)))
    have C2:=jH (show CAt C x y (w1.alloc (.cells #[.string x,.string y] 23)) from hC ▸ CAt.new w1 x y)
    clear d0 d1 d2 d3 m0 m1 r0 r1 f0 f1
    clear M1 B1 E1
    obtain ⟨d0,d1,d2,d3,m0,m1,-⟩:=M2.out
    have r0:=E2.out.c0
    have r1:=E2.out.c1
    have f0:=E2.out.fr 0
    have f1:=E2.out.fr 1
    have c0:=C2.out.c0
    have c1:=C2.out.c1
    have g0:=C2.out.fr 0
    have g1:=C2.out.fr 1
    go_wp2_with fail
    refine (KN.out _ B2.out).mono ?_
    rintro e w2 ⟨rfl,hb⟩
    have M3:=jH (M2.out.Ac hb)
    have B3:=jH (B2.out.trans (hb.mono B2.out.size))
    have E3:=jH (E2.out.Ac hb)
    have C3:=jH (C2.out.Ac hb)
    clear d0 d1 d2 d3 m0 m1 r0 r1 f0 f1
    clear M2 B2 E2
    clear C2 c0 c1 g0 g1
    obtain ⟨d0,d1,d2,d3,m0,m1,-⟩:=M3.out
    have r0:=E3.out.c0
    have r1:=E3.out.c1
    have f0:=E3.out.fr 0
    have f1:=E3.out.fr 1
    have c0:=C3.out.c0
    have c1:=C3.out.c1
    have g0:=C3.out.fr 0
    have g1:=C3.out.fr 1
    clear hb
    go_wp2_with fail
    have M4:=jH (M3.out.other (D:=C) (by omega) 0 (.string ⟨nm.toArray⟩))
    have B4:=jH (B3.out.setCell (p:=⟨C,0,none⟩) (show w.heap.size<=C by omega) (.string ⟨nm.toArray⟩))
    have E4:=jH (E3.out.other (D:=C) (by omega) 0 (.string ⟨nm.toArray⟩))
    have C4:=jH (C3.out.Ahi ⟨nm.toArray⟩)
    clear d0 d1 d2 d3 m0 m1 r0 r1 f0 f1
    clear M3 B3 E3
    clear C3 c0 c1 g0 g1
    obtain ⟨d0,d1,d2,d3,m0,m1,-⟩:=M4.out
    have r0:=E4.out.c0
    have r1:=E4.out.c1
    have f0:=E4.out.fr 0
    have f1:=E4.out.fr 1
    have c0:=C4.out.c0
    have c1:=C4.out.c1
    have g0:=C4.out.fr 0
    have g1:=C4.out.fr 1
    refine (KH.out _).mono ?_
    rintro e w3 ⟨rfl,hb⟩
    have M5:=jH (M4.out.Ac hb)
    have B5:=jH (B4.out.trans (hb.mono B4.out.size))
    have E5:=jH (E4.out.Ac hb)
    have C5:=jH (C4.out.Ac hb)
    clear d0 d1 d2 d3 m0 m1 r0 r1 f0 f1
    clear M4 B4 E4
    clear C4 c0 c1 g0 g1
    obtain ⟨d0,d1,d2,d3,m0,m1,-⟩:=M5.out
    have r0:=E5.out.c0
    have r1:=E5.out.c1
    have f0:=E5.out.fr 0
    have f1:=E5.out.fr 1
    have c0:=C5.out.c0
    have c1:=C5.out.c1
    have g0:=C5.out.fr 0
    have g1:=C5.out.fr 1
    clear hb
    go_wp2_with fail
    refine (KD.out _ B5.out).mono ?_
    rintro e w4 ⟨rfl,hb⟩
    have M6:=jH (M5.out.Ac hb)
    have B6:=jH (B5.out.trans (hb.mono B5.out.size))
    have E6:=jH (E5.out.Ac hb)
    have C6:=jH (C5.out.Ac hb)
    clear d0 d1 d2 d3 m0 m1 r0 r1 f0 f1
    clear M5 B5 E5
    clear C5 c0 c1 g0 g1
    obtain ⟨d0,d1,d2,d3,m0,m1,-⟩:=M6.out
    have r0:=E6.out.c0
    have r1:=E6.out.c1
    have f0:=E6.out.fr 0
    have f1:=E6.out.fr 1
    have c0:=C6.out.c0
    have c1:=C6.out.c1
    have g0:=C6.out.fr 0
    have g1:=C6.out.fr 1
    clear hb
    go_wp2
    refine bodyPost_ret (v:=.agg #[.string ⟨nm.toArray⟩,.string y]) (by simp [results,Tryz.results19,go_sem,r0,r1]) rfl ⟨by rw [EU.out,EV.out],?_⟩
    exact (B6.out.setCell (p:=⟨B+2,0,none⟩) (show w.heap.size<=B+2 by omega) _).setCell (p:=⟨B+2,1,none⟩) (show w.heap.size<=B+2 by omega) _
  ·rw [if_pos rfl] at hV
   have EU:=jH hU
   have EV:=jH hV
   clear hU hV
   go_enter Tryz.func19,Tryz.ntmps19
   go_wp2_with fail
   rw [HW0.out]
   refine (KC.out _).mono ?_
   rintro e w1 ⟨rfl,hb⟩
   have M1:=jH (M0.out.Ac hb)
   have B1:=jH (B0.out.trans (hb.mono B0.out.size))
   have E1:=jH (E0.out.Ac hb)
   clear M0 B0 E0
   obtain ⟨d0,d1,d2,d3,m0,m1,-⟩:=M1.out
   have r0:=E1.out.c0
   have r1:=E1.out.c1
   have f0:=E1.out.fr 0
   have f1:=E1.out.fr 1
   clear hb
   obtain ⟨C,hC⟩:∃ C,w1.heap.size=C:=⟨_,rfl⟩
   have hBC:B+2<C:=by have:=E1.out.lt;omega
   have M2:=jH (M1.out.Ac (Ab _ (.cells #[.string x,.string y] 23)))
   have B2:=jH (B1.out.trans ((Ab _ (.cells #[.string x,.string y] 23)).mono B1.out.size))
   have E2:=jH (E1.out.Ac (Ab _ (.cells #[.string x,.string y] 23)))
   have C2:=jH (show CAt C x y (w1.alloc (.cells #[.string x,.string y] 23)) from hC ▸ CAt.new w1 x y)
   clear d0 d1 d2 d3 m0 m1 r0 r1 f0 f1
   clear M1 B1 E1
   obtain ⟨d0,d1,d2,d3,m0,m1,-⟩:=M2.out
   have r0:=E2.out.c0
   have r1:=E2.out.c1
   have f0:=E2.out.fr 0
   have f1:=E2.out.fr 1
   have c0:=C2.out.c0
   have c1:=C2.out.c1
   have g0:=C2.out.fr 0
   have g1:=C2.out.fr 1
   go_wp2_with fail
   refine (KN.out _ B2.out).mono ?_
   rintro e w2 ⟨rfl,hb⟩
   have M3:=jH (M2.out.Ac hb)
   have B3:=jH (B2.out.trans (hb.mono B2.out.size))
   have E3:=jH (E2.out.Ac hb)
   have C3:=jH (C2.out.Ac hb)
   clear d0 d1 d2 d3 m0 m1 r0 r1 f0 f1
   clear M2 B2 E2
   clear C2 c0 c1 g0 g1
   obtain ⟨d0,d1,d2,d3,m0,m1,-⟩:=M3.out
   have r0:=E3.out.c0
   have r1:=E3.out.c1
   have f0:=E3.out.fr 0
   have f1:=E3.out.fr 1
   have c0:=C3.out.c0
   have c1:=C3.out.c1
   have g0:=C3.out.fr 0
   have g1:=C3.out.fr 1
   clear hb
   go_wp2_with fail
   have M4:=jH (M3.out.other (D:=C) (by omega) 0 (.string ⟨nm.toArray⟩))
   have B4:=jH (B3.out.setCell (p:=⟨C,0,none⟩) (show w.heap.size<=C by omega) (.string ⟨nm.toArray⟩))
   have E4:=jH (E3.out.other (D:=C) (by omega) 0 (.string ⟨nm.toArray⟩))
   have C4:=jH (C3.out.Ahi ⟨nm.toArray⟩)
   clear d0 d1 d2 d3 m0 m1 r0 r1 f0 f1
   clear M3 B3 E3
   clear C3 c0 c1 g0 g1
   obtain ⟨d0,d1,d2,d3,m0,m1,-⟩:=M4.out
   have r0:=E4.out.c0
   have r1:=E4.out.c1
   have f0:=E4.out.fr 0
   have f1:=E4.out.fr 1
   have c0:=C4.out.c0
   have c1:=C4.out.c1
   have g0:=C4.out.fr 0
   have g1:=C4.out.fr 1
   refine (KH.out _).mono ?_
   rintro e w3 ⟨rfl,hb⟩
   have M5:=jH (M4.out.Ac hb)
   have B5:=jH (B4.out.trans (hb.mono B4.out.size))
   have E5:=jH (E4.out.Ac hb)
   have C5:=jH (C4.out.Ac hb)
   clear d0 d1 d2 d3 m0 m1 r0 r1 f0 f1
   clear M4 B4 E4
   clear C4 c0 c1 g0 g1
   obtain ⟨d0,d1,d2,d3,m0,m1,-⟩:=M5.out
   have r0:=E5.out.c0
   have r1:=E5.out.c1
   have f0:=E5.out.fr 0
   have f1:=E5.out.fr 1
   have c0:=C5.out.c0
   have c1:=C5.out.c1
   have g0:=C5.out.fr 0
   have g1:=C5.out.fr 1
   clear hb
   go_wp2_with fail
   refine (KP.out _).mono ?_
   rintro e w4 ⟨rfl,hb⟩
   have M6:=jH (M5.out.Ac hb)
   have B6:=jH (B5.out.trans (hb.mono B5.out.size))
   have E6:=jH (E5.out.Ac hb)
   have C6:=jH (C5.out.Ac hb)
   clear d0 d1 d2 d3 m0 m1 r0 r1 f0 f1
   clear M5 B5 E5
   clear C5 c0 c1 g0 g1
   obtain ⟨d0,d1,d2,d3,m0,m1,-⟩:=M6.out
   have r0:=E6.out.c0
   have r1:=E6.out.c1
   have f0:=E6.out.fr 0
   have f1:=E6.out.fr 1
   have c0:=C6.out.c0
   have c1:=C6.out.c1
   have g0:=C6.out.fr 0
   have g1:=C6.out.fr 1
   clear hb
   go_wp2
   refine bodyPost_ret (v:=.agg #[.string ⟨nm.toArray⟩,.string ⟨(y.data.toList.map An).toArray⟩]) (by simp [results,Tryz.results19,go_sem,r0,r1]) rfl ⟨by rw [EU.out,EV.out],?_⟩
   exact ((B6.out.setCell (p:=⟨C,1,none⟩) (show w.heap.size<=C by omega) (.string ⟨(y.data.toList.map An).toArray⟩)).setCell (p:=⟨B+2,0,none⟩) (show w.heap.size<=B+2 by omega) _).setCell (p:=⟨B+2,1,none⟩) (show w.heap.size<=B+2 by omega) _
 ·rw [if_neg hF,HX.out] at hU
  have e0:(F == 0)=false:=by simpa using hF
  clear hF
  cases l
  ·rw [if_neg (show ¬ (false=true) by decide)] at hV
   by_cases hG:G=0
   ·subst hG
    rw [if_pos rfl] at hV
    have EU:=jH hU
    have EV:=jH hV
    clear hU hV
    go_enter Tryz.func19,Tryz.ntmps19
    go_wp2_with fail
    rw [HW0.out]
    refine (KC.out _).mono ?_
    rintro e w1 ⟨rfl,hb⟩
    have M1:=jH (M0.out.Ac hb)
    have B1:=jH (B0.out.trans (hb.mono B0.out.size))
    have E1:=jH (E0.out.Ac hb)
    clear M0 B0 E0
    obtain ⟨d0,d1,d2,d3,m0,m1,-⟩:=M1.out
    have r0:=E1.out.c0
    have r1:=E1.out.c1
    have f0:=E1.out.fr 0
    have f1:=E1.out.fr 1
    clear hb
    obtain ⟨C,hC⟩:∃ C,w1.heap.size=C:=⟨_,rfl⟩
    have hBC:B+2<C:=by have:=E1.out.lt;omega
    have M2:=jH (M1.out.Ac (Ab _ (.cells #[.string x,.string y] 23)))
    have B2:=jH (B1.out.trans ((Ab _ (.cells #[.string x,.string y] 23)).mono B1.out.size))
    have E2:=jH (E1.out.Ac (Ab _ (.cells #[.string x,.string y] 23)))
    have C2:=jH (show CAt C x y (w1.alloc (.cells #[.string x,.string y] 23)) from hC ▸ CAt.new w1 x y)
    clear d0 d1 d2 d3 m0 m1 r0 r1 f0 f1
    clear M1 B1 E1
    obtain ⟨d0,d1,d2,d3,m0,m1,-⟩:=M2.out
    have r0:=E2.out.c0
    have r1:=E2.out.c1
    have f0:=E2.out.fr 0
    have f1:=E2.out.fr 1
    have c0:=C2.out.c0
    have c1:=C2.out.c1
    have g0:=C2.out.fr 0
    have g1:=C2.out.fr 1
    go_wp2_with fail
    refine (KN.out _ B2.out).mono ?_
    rintro e w2 ⟨rfl,hb⟩
    have M3:=jH (M2.out.Ac hb)
    have B3:=jH (B2.out.trans (hb.mono B2.out.size))
    have E3:=jH (E2.out.Ac hb)
    have C3:=jH (C2.out.Ac hb)
    clear d0 d1 d2 d3 m0 m1 r0 r1 f0 f1
    clear M2 B2 E2
    clear C2 c0 c1 g0 g1
    obtain ⟨d0,d1,d2,d3,m0,m1,-⟩:=M3.out
    have r0:=E3.out.c0
    have r1:=E3.out.c1
    have f0:=E3.out.fr 0
    have f1:=E3.out.fr 1
    have c0:=C3.out.c0
    have c1:=C3.out.c1
    have g0:=C3.out.fr 0
    have g1:=C3.out.fr 1
    clear hb
    go_wp2_with fail
    refine (KH.out _).mono ?_
    rintro e w3 ⟨rfl,hb⟩
    have M4:=jH (M3.out.Ac hb)
    have B4:=jH (B3.out.trans (hb.mono B3.out.size))
    have E4:=jH (E3.out.Ac hb)
    have C4:=jH (C3.out.Ac hb)
    clear d0 d1 d2 d3 m0 m1 r0 r1 f0 f1
    clear M3 B3 E3
    clear C3 c0 c1 g0 g1
    obtain ⟨d0,d1,d2,d3,m0,m1,-⟩:=M4.out
    have r0:=E4.out.c0
    have r1:=E4.out.c1
    have f0:=E4.out.fr 0
    have f1:=E4.out.fr 1
    have c0:=C4.out.c0
    have c1:=C4.out.c1
    have g0:=C4.out.fr 0
    have g1:=C4.out.fr 1
    clear hb
    go_wp2_with fail
    refine (KD.out _ B4.out).mono ?_
    rintro e w4 ⟨rfl,hb⟩
    have M5:=jH (M4.out.Ac hb)
    have B5:=jH (B4.out.trans (hb.mono B4.out.size))
    have E5:=jH (E4.out.Ac hb)
    have C5:=jH (C4.out.Ac hb)
    clear d0 d1 d2 d3 m0 m1 r0 r1 f0 f1
    clear M4 B4 E4
    clear C4 c0 c1 g0 g1
    obtain ⟨d0,d1,d2,d3,m0,m1,-⟩:=M5.out
    have r0:=E5.out.c0
    have r1:=E5.out.c1
    have f0:=E5.out.fr 0
    have f1:=E5.out.fr 1
    have c0:=C5.out.c0
    have c1:=C5.out.c1
    have g0:=C5.out.fr 0
    have g1:=C5.out.fr 1
    clear hb
    go_wp2
    refine bodyPost_ret (v:=.agg #[.string x,.string ⟨da.toArray⟩]) (by simp [results,Tryz.results19,go_sem,r0,r1]) rfl ⟨by rw [EU.out,EV.out],?_⟩
    exact ((B5.out.setCell (p:=⟨C,1,none⟩) (show w.heap.size<=C by omega) (.string ⟨da.toArray⟩)).setCell (p:=⟨B+2,0,none⟩) (show w.heap.size<=B+2 by omega) _).setCell (p:=⟨B+2,1,none⟩) (show w.heap.size<=B+2 by omega) _
   ·rw [if_neg hG,HY.out] at hV
    have e1:(G == 0)=false:=by simpa using hG
    clear hG
    have EU:=jH hU
    have EV:=jH hV
    clear hU hV
    go_enter Tryz.func19,Tryz.ntmps19
    go_wp2_with fail
    rw [HW0.out]
    refine (KC.out _).mono ?_
    rintro e w1 ⟨rfl,hb⟩
    have M1:=jH (M0.out.Ac hb)
    have B1:=jH (B0.out.trans (hb.mono B0.out.size))
    have E1:=jH (E0.out.Ac hb)
    clear M0 B0 E0
    obtain ⟨d0,d1,d2,d3,m0,m1,-⟩:=M1.out
    have r0:=E1.out.c0
    have r1:=E1.out.c1
    have f0:=E1.out.fr 0
    have f1:=E1.out.fr 1
    clear hb
    obtain ⟨C,hC⟩:∃ C,w1.heap.size=C:=⟨_,rfl⟩
    have hBC:B+2<C:=by have:=E1.out.lt;omega
    have M2:=jH (M1.out.Ac (Ab _ (.cells #[.string x,.string y] 23)))
    have B2:=jH (B1.out.trans ((Ab _ (.cells #[.string x,.string y] 23)).mono B1.out.size))
    have E2:=jH (E1.out.Ac (Ab _ (.cells #[.string x,.string y] 23)))
    have C2:=jH (show CAt C x y (w1.alloc (.cells #[.string x,.string y] 23)) from hC ▸ CAt.new w1 x y)
    clear d0 d1 d2 d3 m0 m1 r0 r1 f0 f1
    clear M1 B1 E1
    obtain ⟨d0,d1,d2,d3,m0,m1,-⟩:=M2.out
    have r0:=E2.out.c0
    have r1:=E2.out.c1
    have f0:=E2.out.fr 0
    have f1:=E2.out.fr 1
    have c0:=C2.out.c0
    have c1:=C2.out.c1
    have g0:=C2.out.fr 0
    have g1:=C2.out.fr 1
    go_wp2_with fail
    refine (KN.out _ B2.out).mono ?_
    rintro e w2 ⟨rfl,hb⟩
    have M3:=jH (M2.out.Ac hb)
    have B3:=jH (B2.out.trans (hb.mono B2.out.size))
    have E3:=jH (E2.out.Ac hb)
    have C3:=jH (C2.out.Ac hb)
    clear d0 d1 d2 d3 m0 m1 r0 r1 f0 f1
    clear M2 B2 E2
    clear C2 c0 c1 g0 g1
    obtain ⟨d0,d1,d2,d3,m0,m1,-⟩:=M3.out
    have r0:=E3.out.c0
    have r1:=E3.out.c1
    have f0:=E3.out.fr 0
    have f1:=E3.out.fr 1
    have c0:=C3.out.c0
    have c1:=C3.out.c1
    have g0:=C3.out.fr 0
    have g1:=C3.out.fr 1
    clear hb
    go_wp2_with fail
    refine (KH.out _).mono ?_
    rintro e w3 ⟨rfl,hb⟩
    have M4:=jH (M3.out.Ac hb)
    have B4:=jH (B3.out.trans (hb.mono B3.out.size))
    have E4:=jH (E3.out.Ac hb)
    have C4:=jH (C3.out.Ac hb)
    clear d0 d1 d2 d3 m0 m1 r0 r1 f0 f1
    clear M3 B3 E3
    clear C3 c0 c1 g0 g1
    obtain ⟨d0,d1,d2,d3,m0,m1,-⟩:=M4.out
    have r0:=E4.out.c0
    have r1:=E4.out.c1
    have f0:=E4.out.fr 0
    have f1:=E4.out.fr 1
    have c0:=C4.out.c0
    have c1:=C4.out.c1
    have g0:=C4.out.fr 0
    have g1:=C4.out.fr 1
    clear hb
    go_wp2_with fail
    refine (KD.out _ B4.out).mono ?_
    rintro e w4 ⟨rfl,hb⟩
    have M5:=jH (M4.out.Ac hb)
    have B5:=jH (B4.out.trans (hb.mono B4.out.size))
    have E5:=jH (E4.out.Ac hb)
    have C5:=jH (C4.out.Ac hb)
    clear d0 d1 d2 d3 m0 m1 r0 r1 f0 f1
    clear M4 B4 E4
    clear C4 c0 c1 g0 g1
    obtain ⟨d0,d1,d2,d3,m0,m1,-⟩:=M5.out
    have r0:=E5.out.c0
    have r1:=E5.out.c1
    have f0:=E5.out.fr 0
    have f1:=E5.out.fr 1
    have c0:=C5.out.c0
    have c1:=C5.out.c1
    have g0:=C5.out.fr 0
    have g1:=C5.out.fr 1
    clear hb
    go_wp2
    refine bodyPost_ret (v:=.agg #[.string x,.string y]) (by simp [results,Tryz.results19,go_sem,r0,r1]) rfl ⟨by rw [EU.out,EV.out],?_⟩
    exact (B5.out.setCell (p:=⟨B+2,0,none⟩) (show w.heap.size<=B+2 by omega) _).setCell (p:=⟨B+2,1,none⟩) (show w.heap.size<=B+2 by omega) _
  ·rw [if_pos rfl] at hV
   have EU:=jH hU
   have EV:=jH hV
   clear hU hV
   go_enter Tryz.func19,Tryz.ntmps19
   go_wp2_with fail
   rw [HW0.out]
   refine (KC.out _).mono ?_
   rintro e w1 ⟨rfl,hb⟩
   have M1:=jH (M0.out.Ac hb)
   have B1:=jH (B0.out.trans (hb.mono B0.out.size))
   have E1:=jH (E0.out.Ac hb)
   clear M0 B0 E0
   obtain ⟨d0,d1,d2,d3,m0,m1,-⟩:=M1.out
   have r0:=E1.out.c0
   have r1:=E1.out.c1
   have f0:=E1.out.fr 0
   have f1:=E1.out.fr 1
   clear hb
   obtain ⟨C,hC⟩:∃ C,w1.heap.size=C:=⟨_,rfl⟩
   have hBC:B+2<C:=by have:=E1.out.lt;omega
   have M2:=jH (M1.out.Ac (Ab _ (.cells #[.string x,.string y] 23)))
   have B2:=jH (B1.out.trans ((Ab _ (.cells #[.string x,.string y] 23)).mono B1.out.size))
   have E2:=jH (E1.out.Ac (Ab _ (.cells #[.string x,.string y] 23)))
   have C2:=jH (show CAt C x y (w1.alloc (.cells #[.string x,.string y] 23)) from hC ▸ CAt.new w1 x y)
   clear d0 d1 d2 d3 m0 m1 r0 r1 f0 f1
   clear M1 B1 E1
   obtain ⟨d0,d1,d2,d3,m0,m1,-⟩:=M2.out
   have r0:=E2.out.c0
   have r1:=E2.out.c1
   have f0:=E2.out.fr 0
   have f1:=E2.out.fr 1
   have c0:=C2.out.c0
   have c1:=C2.out.c1
   have g0:=C2.out.fr 0
   have g1:=C2.out.fr 1
   go_wp2_with fail
   refine (KN.out _ B2.out).mono ?_
   rintro e w2 ⟨rfl,hb⟩
   have M3:=jH (M2.out.Ac hb)
   have B3:=jH (B2.out.trans (hb.mono B2.out.size))
   have E3:=jH (E2.out.Ac hb)
   have C3:=jH (C2.out.Ac hb)
   clear d0 d1 d2 d3 m0 m1 r0 r1 f0 f1
   clear M2 B2 E2
   clear C2 c0 c1 g0 g1
   obtain ⟨d0,d1,d2,d3,m0,m1,-⟩:=M3.out
   have r0:=E3.out.c0
   have r1:=E3.out.c1
   have f0:=E3.out.fr 0
   have f1:=E3.out.fr 1
   have c0:=C3.out.c0
   have c1:=C3.out.c1
   have g0:=C3.out.fr 0
   have g1:=C3.out.fr 1
   clear hb
   go_wp2_with fail
   refine (KH.out _).mono ?_
   rintro e w3 ⟨rfl,hb⟩
   have M4:=jH (M3.out.Ac hb)
   have B4:=jH (B3.out.trans (hb.mono B3.out.size))
   have E4:=jH (E3.out.Ac hb)
   have C4:=jH (C3.out.Ac hb)
   clear d0 d1 d2 d3 m0 m1 r0 r1 f0 f1
   clear M3 B3 E3
   clear C3 c0 c1 g0 g1
   obtain ⟨d0,d1,d2,d3,m0,m1,-⟩:=M4.out
   have r0:=E4.out.c0
   have r1:=E4.out.c1
   have f0:=E4.out.fr 0
   have f1:=E4.out.fr 1
   have c0:=C4.out.c0
   have c1:=C4.out.c1
   have g0:=C4.out.fr 0
   have g1:=C4.out.fr 1
   clear hb
   go_wp2_with fail
   refine (KP.out _).mono ?_
   rintro e w4 ⟨rfl,hb⟩
   have M5:=jH (M4.out.Ac hb)
   have B5:=jH (B4.out.trans (hb.mono B4.out.size))
   have E5:=jH (E4.out.Ac hb)
   have C5:=jH (C4.out.Ac hb)
   clear d0 d1 d2 d3 m0 m1 r0 r1 f0 f1
   clear M4 B4 E4
   clear C4 c0 c1 g0 g1
   obtain ⟨d0,d1,d2,d3,m0,m1,-⟩:=M5.out
   have r0:=E5.out.c0
   have r1:=E5.out.c1
   have f0:=E5.out.fr 0
   have f1:=E5.out.fr 1
   have c0:=C5.out.c0
   have c1:=C5.out.c1
   have g0:=C5.out.fr 0
   have g1:=C5.out.fr 1
   clear hb
   go_wp2
   refine bodyPost_ret (v:=.agg #[.string x,.string ⟨(y.data.toList.map An).toArray⟩]) (by simp [results,Tryz.results19,go_sem,r0,r1]) rfl ⟨by rw [EU.out,EV.out],?_⟩
   exact ((B5.out.setCell (p:=⟨C,1,none⟩) (show w.heap.size<=C by omega) (.string ⟨(y.data.toList.map An).toArray⟩)).setCell (p:=⟨B+2,0,none⟩) (show w.heap.size<=B+2 by omega) _).setCell (p:=⟨B+2,1,none⟩) (show w.heap.size<=B+2 by omega) _
theorem An0 (t:Value) (x y:ByteArray) (w:World) (hT:Table w t) (hx:x.size<=100000) (hy:Au y) {E:Int} {u v:List UInt8} (hd:Mbx.Wc x.data.toList y.data.toList=(E,u,v)):Calls Tryz.prog 12 #[t,.agg #[.string x,.string y]] w λe w'=>e=.returned (.tuple #[.agg #[.string ⟨u.toArray⟩,.string ⟨v.toArray⟩],.int .i64 E])/\Below w.heap.size w w':=by
 have hT0:=hT
 obtain ⟨b0,b1,b2,b3,rfl,-,-,-,-⟩:=hT0
 obtain ⟨B,hB⟩:∃ B,w.heap.size=B:=⟨_,rfl⟩
 obtain ⟨W0,hW0⟩:∃ W0,W0=((w.alloc (.cells #[.slice (some ⟨b0,0,none⟩) 74 74,.slice (some ⟨b1,0,none⟩) 10 10,.slice (some ⟨b2,0,none⟩) 11 11,.slice (some ⟨b3,0,none⟩) 42 42] 31)).alloc (.cells #[.string x,.string y] 23)).alloc (.cells #[.string ⟨#[]⟩,.string ⟨#[]⟩] 23):=⟨_,rfl⟩
 have hs2:((w.alloc (.cells #[.slice (some ⟨b0,0,none⟩) 74 74,.slice (some ⟨b1,0,none⟩) 10 10,.slice (some ⟨b2,0,none⟩) 11 11,.slice (some ⟨b3,0,none⟩) 42 42] 31)).alloc (.cells #[.string x,.string y] 23)).heap.size=B+2:=by simp [hB]
 have M0:Hid (Pt B b0 b1 b2 b3 x y W0):=jH (by rw [hW0];exact (Pt.new hB b0 b1 b2 b3 x y).Ac (Ab _ _))
 have E0:Hid (CAt (B+2) ⟨#[]⟩ ⟨#[]⟩ W0):=jH (by rw [hW0,<- hs2];exact CAt.new _ _ _)
 have B0:Hid (Below w.heap.size w W0):=jH (by rw [hW0];exact (Bd w (.cells #[.slice (some ⟨b0,0,none⟩) 74 74,.slice (some ⟨b1,0,none⟩) 10 10,.slice (some ⟨b2,0,none⟩) 11 11,.slice (some ⟨b3,0,none⟩) 42 42] 31) (.cells #[.string x,.string y] 23)).trans ((Ab _ _).mono (by simp;omega)))
 have HW0:=jH hW0.symm
 clear hs2 hW0
 have KX:=λW=>Ie x W hx
 have KY:=λW=>Ie y W hy.1
 have KD:=jH (λW (h:Below w.heap.size w W)=>Ae4 _ y W (hT.below h) hy)
 have KC:=jH (λW=>V7 x y W hx hy.1)
 have KH:=jH (λW=>Iq x y W)
 unfold Mbx.Wc at hd
 have HX:=jH (show (⟨x.data.toList.toArray⟩:ByteArray)=x from rfl)
 have HY:=jH (show (⟨y.data.toList.toArray⟩:ByteArray)=y from rfl)
 obtain ⟨⟨G,da,du⟩,hD⟩:∃ p,Dom.Cj y.data.toList=p:=⟨_,rfl⟩
 obtain ⟨dd,hdd⟩:∃ dd,Dom.Afa y.data.toList=dd:=⟨_,rfl⟩
 obtain ⟨l,hl⟩:∃ l,Mbx.Gc y.data.toList=l:=⟨_,rfl⟩
 have hxe:=Lab.F2 x.data.toList
 have hye:=Lab.F2 y.data.toList
 obtain ⟨ex,hex⟩:∃ ex,Bj x.data.toList=ex:=⟨_,rfl⟩
 obtain ⟨ey,hey⟩:∃ ey,Bj y.data.toList=ey:=⟨_,rfl⟩
 rw [hex] at KX hd hxe
 rw [hey] at KY hd hye
 rw [hD,hdd] at KD hd
 rw [hl] at KH hd
 simp only at KD hd
 have KX:=jH KX
 have KY:=jH KY
 have hxe:ex=-1\/0<=ex:=by rcases hxe with ⟨-,h⟩ | ⟨-,h⟩<;>omega
 have hye:ey=-1\/0<=ey:=by rcases hye with ⟨-,h⟩ | ⟨-,h⟩<;>omega
 clear hT hx hy hD hdd hl hex hey
 by_cases h1:ex=-1
 case neg =>
  rw [if_pos h1] at hd
  injection hd with q1 q2
  injection q2 with q2 q3
  subst q1 q2 q3
  have z1:(0:Int)<=ex:=by omega
  have r0:=E0.out.c0
  have r1:=E0.out.c1
  have f0:=E0.out.fr 0
  have f1:=E0.out.fr 1
  have m0:=M0.out.m0
  have m1:=M0.out.m1
  go_enter Tryz.func12,Tryz.ntmps12
  go_wp2_with fail
  rw [HW0.out]
  refine (KX.out _).mono ?_
  rintro e w1 ⟨rfl,rfl⟩
  go_wp2
  refine bodyPost_ret (v:=.tuple #[.agg #[.string ⟨#[]⟩,.string ⟨#[]⟩],.int .i64 8]) (by simp [results,Tryz.results12,go_sem,r0,r1]) rfl ⟨rfl,?_⟩
  exact (B0.out.setCell (p:=⟨B+2,0,none⟩) (show w.heap.size<=B+2 by omega) _).setCell (p:=⟨B+2,1,none⟩) (show w.heap.size<=B+2 by omega) _
 subst h1
 rw [if_neg (show ¬ ((-1:Int) ≠ -1) by decide)] at hd
 cases l
 ·rw [if_neg (show ¬ (false=true) by decide)] at hd
  by_cases hG:G=0
  ·subst hG
   rw [if_pos rfl] at hd
   injection hd with q1 q2
   injection q2 with q2 q3
   subst q1 q2 q3
   have m0:=M0.out.m0
   have m1:=M0.out.m1
   go_enter Tryz.func12,Tryz.ntmps12
   go_wp2_with fail
   rw [HW0.out]
   refine (KX.out _).mono ?_
   rintro e w0 ⟨rfl,rfl⟩
   go_wp2_with fail
   clear m0 m1
   refine (KH.out _).mono ?_
   rintro e w1 ⟨rfl,hb⟩
   have M1:=jH (M0.out.Ac hb)
   have B1:=jH (B0.out.trans (hb.mono B0.out.size))
   have E1:=jH (E0.out.Ac hb)
   clear M0 B0 E0
   obtain ⟨d0,d1,d2,d3,m0,m1,-⟩:=M1.out
   have r0:=E1.out.c0
   have r1:=E1.out.c1
   have f0:=E1.out.fr 0
   have f1:=E1.out.fr 1
   clear hb
   go_wp2_with fail
   refine (KC.out _).mono ?_
   rintro e w2 ⟨rfl,hb⟩
   have M2:=jH (M1.out.Ac hb)
   have B2:=jH (B1.out.trans (hb.mono B1.out.size))
   have E2:=jH (E1.out.Ac hb)
   clear d0 d1 d2 d3 m0 m1 r0 r1 f0 f1
   clear M1 B1 E1
   obtain ⟨d0,d1,d2,d3,m0,m1,-⟩:=M2.out
   have r0:=E2.out.c0
   have r1:=E2.out.c1
   have f0:=E2.out.fr 0
   have f1:=E2.out.fr 1
   clear hb
   obtain ⟨C,hC⟩:∃ C,w2.heap.size=C:=⟨_,rfl⟩
   have hBC:B+2<C:=by have:=E2.out.lt;omega
   have M3:=jH (M2.out.Ac (Ab _ (.cells #[.string x,.string y] 23)))
   have B3:=jH (B2.out.trans ((Ab _ (.cells #[.string x,.string y] 23)).mono B2.out.size))
   have E3:=jH (E2.out.Ac (Ab _ (.cells #[.string x,.string y] 23)))
   have C3:=jH (show CAt C x y (w2.alloc (.cells #[.string x,.string y] 23)) from hC ▸ CAt.new w2 x y)
   clear d0 d1 d2 d3 m0 m1 r0 r1 f0 f1
   clear M2 B2 E2
   obtain ⟨d0,d1,d2,d3,m0,m1,-⟩:=M3.out
   have r0:=E3.out.c0
   have r1:=E3.out.c1
   have f0:=E3.out.fr 0
   have f1:=E3.out.fr 1
   have c0:=C3.out.c0
   have c1:=C3.out.c1
   have g0:=C3.out.fr 0
   have g1:=C3.out.fr 1
   go_wp2_with fail
   refine (KH.out _).mono ?_
   rintro e w3 ⟨rfl,hb⟩
   have M4:=jH (M3.out.Ac hb)
   have B4:=jH (B3.out.trans (hb.mono B3.out.size))
   have E4:=jH (E3.out.Ac hb)
   have C4:=jH (C3.out.Ac hb)
   clear d0 d1 d2 d3 m0 m1 r0 r1 f0 f1
   clear M3 B3 E3
   clear C3 c0 c1 g0 g1
   obtain ⟨d0,d1,d2,d3,m0,m1,-⟩:=M4.out
   have r0:=E4.out.c0
   have r1:=E4.out.c1
   have f0:=E4.out.fr 0
   have f1:=E4.out.fr 1
   have c0:=C4.out.c0
   have c1:=C4.out.c1
   have g0:=C4.out.fr 0
   have g1:=C4.out.fr 1
   clear hb
   go_wp2_with fail
   refine (KD.out _ B4.out).mono ?_
   rintro e w4 ⟨rfl,hb⟩
   have M5:=jH (M4.out.Ac hb)
   have B5:=jH (B4.out.trans (hb.mono B4.out.size))
   have E5:=jH (E4.out.Ac hb)
   have C5:=jH (C4.out.Ac hb)
   clear d0 d1 d2 d3 m0 m1 r0 r1 f0 f1
   clear M4 B4 E4
   clear C4 c0 c1 g0 g1
   obtain ⟨d0,d1,d2,d3,m0,m1,-⟩:=M5.out
   have r0:=E5.out.c0
   have r1:=E5.out.c1
   have f0:=E5.out.fr 0
   have f1:=E5.out.fr 1
   have c0:=C5.out.c0
   have c1:=C5.out.c1
   have g0:=C5.out.fr 0
   have g1:=C5.out.fr 1
   clear hb
   go_wp2
   refine bodyPost_ret (v:=.tuple #[.agg #[.string x,.string ⟨dd.toArray⟩],.int .i64 0]) (by simp [results,Tryz.results12,go_sem,r0,r1]) rfl ⟨rfl,?_⟩
   exact ((B5.out.setCell (p:=⟨C,1,none⟩) (show w.heap.size<=C by omega) (.string ⟨dd.toArray⟩)).setCell (p:=⟨B+2,0,none⟩) (show w.heap.size<=B+2 by omega) _).setCell (p:=⟨B+2,1,none⟩) (show w.heap.size<=B+2 by omega) _
  ·rw [if_neg hG] at hd
   have e1:(G != 0)=true:=by simpa using hG
   injection hd with q1 q2
   injection q2 with q2 q3
   subst q1 q2 q3
   clear hG
   have m0:=M0.out.m0
   have m1:=M0.out.m1
   go_enter Tryz.func12,Tryz.ntmps12
   go_wp2_with fail
   rw [HW0.out]
   refine (KX.out _).mono ?_
   rintro e w0 ⟨rfl,rfl⟩
   go_wp2_with fail
   clear m0 m1
   refine (KH.out _).mono ?_
   rintro e w1 ⟨rfl,hb⟩
   have M1:=jH (M0.out.Ac hb)
   have B1:=jH (B0.out.trans (hb.mono B0.out.size))
   have E1:=jH (E0.out.Ac hb)
   clear M0 B0 E0
   obtain ⟨d0,d1,d2,d3,m0,m1,-⟩:=M1.out
   have r0:=E1.out.c0
   have r1:=E1.out.c1
   have f0:=E1.out.fr 0
   have f1:=E1.out.fr 1
   clear hb
   go_wp2_with fail
   refine (KC.out _).mono ?_
   rintro e w2 ⟨rfl,hb⟩
   have M2:=jH (M1.out.Ac hb)
   have B2:=jH (B1.out.trans (hb.mono B1.out.size))
   have E2:=jH (E1.out.Ac hb)
   clear d0 d1 d2 d3 m0 m1 r0 r1 f0 f1
   clear M1 B1 E1
   obtain ⟨d0,d1,d2,d3,m0,m1,-⟩:=M2.out
   have r0:=E2.out.c0
   have r1:=E2.out.c1
   have f0:=E2.out.fr 0
   have f1:=E2.out.fr 1
   clear hb
   obtain ⟨C,hC⟩:∃ C,w2.heap.size=C:=⟨_,rfl⟩
   have hBC:B+2<C:=by have:=E2.out.lt;omega
   have M3:=jH (M2.out.Ac (Ab _ (.cells #[.string x,.string y] 23)))
   have B3:=jH (B2.out.trans ((Ab _ (.cells #[.string x,.string y] 23)).mono B2.out.size))
   have E3:=jH (E2.out.Ac (Ab _ (.cells #[.string x,.string y] 23)))
   have C3:=jH (show CAt C x y (w2.alloc (.cells #[.string x,.string y] 23)) from hC ▸ CAt.new w2 x y)
   clear d0 d1 d2 d3 m0 m1 r0 r1 f0 f1
   clear M2 B2 E2
   obtain ⟨d0,d1,d2,d3,m0,m1,-⟩:=M3.out
   have r0:=E3.out.c0
   have r1:=E3.out.c1
   have f0:=E3.out.fr 0
   have f1:=E3.out.fr 1
   have c0:=C3.out.c0
   have c1:=C3.out.c1
   have g0:=C3.out.fr 0
   have g1:=C3.out.fr 1
   go_wp2_with fail
   refine (KH.out _).mono ?_
   rintro e w3 ⟨rfl,hb⟩
   have M4:=jH (M3.out.Ac hb)
   have B4:=jH (B3.out.trans (hb.mono B3.out.size))
   have E4:=jH (E3.out.Ac hb)
   have C4:=jH (C3.out.Ac hb)
   clear d0 d1 d2 d3 m0 m1 r0 r1 f0 f1
   clear M3 B3 E3
   clear C3 c0 c1 g0 g1
   obtain ⟨d0,d1,d2,d3,m0,m1,-⟩:=M4.out
   have r0:=E4.out.c0
   have r1:=E4.out.c1
   have f0:=E4.out.fr 0
   have f1:=E4.out.fr 1
   have c0:=C4.out.c0
   have c1:=C4.out.c1
   have g0:=C4.out.fr 0
   have g1:=C4.out.fr 1
   clear hb
   go_wp2_with fail
   refine (KD.out _ B4.out).mono ?_
   rintro e w4 ⟨rfl,hb⟩
   have M5:=jH (M4.out.Ac hb)
   have B5:=jH (B4.out.trans (hb.mono B4.out.size))
   have E5:=jH (E4.out.Ac hb)
   have C5:=jH (C4.out.Ac hb)
   clear d0 d1 d2 d3 m0 m1 r0 r1 f0 f1
   clear M4 B4 E4
   clear C4 c0 c1 g0 g1
   obtain ⟨d0,d1,d2,d3,m0,m1,-⟩:=M5.out
   have r0:=E5.out.c0
   have r1:=E5.out.c1
   have f0:=E5.out.fr 0
   have f1:=E5.out.fr 1
   have c0:=C5.out.c0
   have c1:=C5.out.c1
   have g0:=C5.out.fr 0
   have g1:=C5.out.fr 1
   clear hb
   go_wp2
   refine bodyPost_ret (v:=.tuple #[.agg #[.string ⟨#[]⟩,.string ⟨#[]⟩],.int .i64 G]) (by simp [results,Tryz.results12,go_sem,r0,r1]) rfl ⟨rfl,?_⟩
   exact (B5.out.setCell (p:=⟨B+2,0,none⟩) (show w.heap.size<=B+2 by omega) _).setCell (p:=⟨B+2,1,none⟩) (show w.heap.size<=B+2 by omega) _
 ·rw [if_pos rfl] at hd
  by_cases h2:ey=-1
  ·subst h2
   rw [if_neg (show ¬ ((-1:Int) ≠ -1) by decide)] at hd
   injection hd with q1 q2
   injection q2 with q2 q3
   subst q1 q2 q3
   have m0:=M0.out.m0
   have m1:=M0.out.m1
   go_enter Tryz.func12,Tryz.ntmps12
   go_wp2_with fail
   rw [HW0.out]
   refine (KX.out _).mono ?_
   rintro e w0 ⟨rfl,rfl⟩
   go_wp2_with fail
   clear m0 m1
   refine (KH.out _).mono ?_
   rintro e w1 ⟨rfl,hb⟩
   have M1:=jH (M0.out.Ac hb)
   have B1:=jH (B0.out.trans (hb.mono B0.out.size))
   have E1:=jH (E0.out.Ac hb)
   clear M0 B0 E0
   obtain ⟨d0,d1,d2,d3,m0,m1,-⟩:=M1.out
   have r0:=E1.out.c0
   have r1:=E1.out.c1
   have f0:=E1.out.fr 0
   have f1:=E1.out.fr 1
   clear hb
   go_wp2_with fail
   refine (KY.out _).mono ?_
   rintro e w9 ⟨rfl,rfl⟩
   go_wp2_with fail
   refine (KC.out _).mono ?_
   rintro e w2 ⟨rfl,hb⟩
   have M2:=jH (M1.out.Ac hb)
   have B2:=jH (B1.out.trans (hb.mono B1.out.size))
   have E2:=jH (E1.out.Ac hb)
   clear d0 d1 d2 d3 m0 m1 r0 r1 f0 f1
   clear M1 B1 E1
   obtain ⟨d0,d1,d2,d3,m0,m1,-⟩:=M2.out
   have r0:=E2.out.c0
   have r1:=E2.out.c1
   have f0:=E2.out.fr 0
   have f1:=E2.out.fr 1
   clear hb
   obtain ⟨C,hC⟩:∃ C,w2.heap.size=C:=⟨_,rfl⟩
   have hBC:B+2<C:=by have:=E2.out.lt;omega
   have M3:=jH (M2.out.Ac (Ab _ (.cells #[.string x,.string y] 23)))
   have B3:=jH (B2.out.trans ((Ab _ (.cells #[.string x,.string y] 23)).mono B2.out.size))
   have E3:=jH (E2.out.Ac (Ab _ (.cells #[.string x,.string y] 23)))
   have C3:=jH (show CAt C x y (w2.alloc (.cells #[.string x,.string y] 23)) from hC ▸ CAt.new w2 x y)
   clear d0 d1 d2 d3 m0 m1 r0 r1 f0 f1
   clear M2 B2 E2
   obtain ⟨d0,d1,d2,d3,m0,m1,-⟩:=M3.out
   have r0:=E3.out.c0
   have r1:=E3.out.c1
   have f0:=E3.out.fr 0
   have f1:=E3.out.fr 1
   have c0:=C3.out.c0
   have c1:=C3.out.c1
   have g0:=C3.out.fr 0
   have g1:=C3.out.fr 1
   go_wp2_with fail
   refine (KH.out _).mono ?_
   rintro e w3 ⟨rfl,hb⟩
   have M4:=jH (M3.out.Ac hb)
   have B4:=jH (B3.out.trans (hb.mono B3.out.size))
   have E4:=jH (E3.out.Ac hb)
   have C4:=jH (C3.out.Ac hb)
   clear d0 d1 d2 d3 m0 m1 r0 r1 f0 f1
   clear M3 B3 E3
   clear C3 c0 c1 g0 g1
   obtain ⟨d0,d1,d2,d3,m0,m1,-⟩:=M4.out
   have r0:=E4.out.c0
   have r1:=E4.out.c1
   have f0:=E4.out.fr 0
   have f1:=E4.out.fr 1
   have c0:=C4.out.c0
   have c1:=C4.out.c1
   have g0:=C4.out.fr 0
   have g1:=C4.out.fr 1
   clear hb
   go_wp2
   refine bodyPost_ret (v:=.tuple #[.agg #[.string x,.string y],.int .i64 0]) (by simp [results,Tryz.results12,go_sem,r0,r1]) rfl ⟨rfl,?_⟩
   exact (B4.out.setCell (p:=⟨B+2,0,none⟩) (show w.heap.size<=B+2 by omega) _).setCell (p:=⟨B+2,1,none⟩) (show w.heap.size<=B+2 by omega) _
  ·rw [if_pos h2] at hd
   have z2:(0:Int)<=ey:=by omega
   injection hd with q1 q2
   injection q2 with q2 q3
   subst q1 q2 q3
   clear h2 hye
   have m0:=M0.out.m0
   have m1:=M0.out.m1
   go_enter Tryz.func12,Tryz.ntmps12
   go_wp2_with fail
   rw [HW0.out]
   refine (KX.out _).mono ?_
   rintro e w0 ⟨rfl,rfl⟩
   go_wp2_with fail
   clear m0 m1
   refine (KH.out _).mono ?_
   rintro e w1 ⟨rfl,hb⟩
   have M1:=jH (M0.out.Ac hb)
   have B1:=jH (B0.out.trans (hb.mono B0.out.size))
   have E1:=jH (E0.out.Ac hb)
   clear M0 B0 E0
   obtain ⟨d0,d1,d2,d3,m0,m1,-⟩:=M1.out
   have r0:=E1.out.c0
   have r1:=E1.out.c1
   have f0:=E1.out.fr 0
   have f1:=E1.out.fr 1
   clear hb
   go_wp2_with fail
   refine (KY.out _).mono ?_
   rintro e w9 ⟨rfl,rfl⟩
   go_wp2
   refine bodyPost_ret (v:=.tuple #[.agg #[.string ⟨#[]⟩,.string ⟨#[]⟩],.int .i64 8]) (by simp [results,Tryz.results12,go_sem,r0,r1]) rfl ⟨rfl,?_⟩
   exact (B1.out.setCell (p:=⟨B+2,0,none⟩) (show w.heap.size<=B+2 by omega) _).setCell (p:=⟨B+2,1,none⟩) (show w.heap.size<=B+2 by omega) _
end Go.Proofs.YtpcgbgfpnhiihaaGreatDoor
