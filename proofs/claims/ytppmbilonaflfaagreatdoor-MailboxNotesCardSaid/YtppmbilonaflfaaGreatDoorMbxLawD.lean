import Derived.Test.YtppmbilonaflfaaGreatDoorMbxSmall
import Derived.Test.YtppmbilonaflfaaGreatDoorMbxFits
namespace Go.Proofs.YtppmbilonaflfaaGreatDoor
open Go.RowKit Utf
set_option maxHeartbeats 16000000 in
set_option maxRecDepth 100000 in
theorem Ady (x y s:ByteArray) (w:World):Calls Tryz.prog 8 #[.agg #[.string x,.string y],.string s] w λe w'=>e=.returned (.bool true)/\Below w.heap.size w w':=by
 by_cases hf:x.size<=150/\y.size<=200
 case neg =>
  have BB:=Lib.hid (Below.refl w.heap.size w)
  go_enter Tryz.func8,Tryz.ntmps8
  obtain ⟨B,hB⟩:∃ N,w.heap.size=N:=⟨_,rfl⟩
  have hb:=Ab w (.cells #[.string x,.string y] 23)
  replace BB:=Lib.hid (Aa BB.out hb)
  clear hb
  have CB:=Lib.hid (show CAt B x y (w.alloc (.cells #[.string x,.string y] 23)) from hB ▸ CAt.new w x y)
  have m0:=CB.out.c0
  have m1:=CB.out.c1
  go_wp2_with fail
  refine (Ar _).mono ?_
  rintro e w1 ⟨rfl,hb⟩
  replace m0:=Kc hb m0
  replace m1:=Kc hb m1
  replace CB:=Lib.hid (CB.out.Ac hb)
  replace BB:=Lib.hid (Aa BB.out hb)
  clear hb
  go_wp2_with fail
  refine (Ade x y _ hf).mono ?_
  rintro e w2 ⟨rfl,hb⟩
  replace m0:=Kc hb m0
  replace m1:=Kc hb m1
  replace CB:=Lib.hid (CB.out.Ac hb)
  replace BB:=Lib.hid (Aa BB.out hb)
  clear hb
  go_wp2
  go_ret
  exact ⟨rfl,BB.out⟩
 obtain ⟨hx,hy⟩:=hf
 by_cases hs:s.size<=50
 case neg =>
  have hz:(50:Int)<(s.size:Int):=by omega
  have BB:=Lib.hid (Below.refl w.heap.size w)
  go_enter Tryz.func8,Tryz.ntmps8
  obtain ⟨B,hB⟩:∃ N,w.heap.size=N:=⟨_,rfl⟩
  have hb:=Ab w (.cells #[.string x,.string y] 23)
  replace BB:=Lib.hid (Aa BB.out hb)
  clear hb
  have CB:=Lib.hid (show CAt B x y (w.alloc (.cells #[.string x,.string y] 23)) from hB ▸ CAt.new w x y)
  have m0:=CB.out.c0
  have m1:=CB.out.c1
  go_wp2_with fail
  refine (Ar _).mono ?_
  rintro e w1 ⟨rfl,hb⟩
  replace m0:=Kc hb m0
  replace m1:=Kc hb m1
  replace CB:=Lib.hid (CB.out.Ac hb)
  replace BB:=Lib.hid (Aa BB.out hb)
  clear hb
  go_wp2_with fail
  refine (Di x y _ hx hy).mono ?_
  rintro e w2 ⟨rfl,hb⟩
  replace m0:=Kc hb m0
  replace m1:=Kc hb m1
  replace CB:=Lib.hid (CB.out.Ac hb)
  replace BB:=Lib.hid (Aa BB.out hb)
  clear hb
  go_wp2
  go_ret
  exact ⟨rfl,BB.out⟩
 have hz:¬ (50:Int)<(s.size:Int):=by omega
 have LX:=Lib.hid (D5 (s:=x) (by omega))
 have LY:=Lib.hid (D5 (s:=y) (by omega))
 have hxl:x.data.toList.length=x.size:=by simp
 have hyl:y.data.toList.length=y.size:=by simp
 have hsl:s.data.toList.length=s.size:=by simp
 obtain ⟨E,hE⟩:∃ E,Mbx.Bo x.data.toList y.data.toList=E:=⟨_,rfl⟩
 have HE:=Lib.hid hE
 have KP:=λW=>Zk.plain s W (by omega)
 have KE:=λW=>D1 s W (by omega)
 cases hp:Lex.Ed s.data.toList
 ·rw [hp] at KP
  have KP:=Lib.hid KP
  clear hp
  have BB:=Lib.hid (Below.refl w.heap.size w)
  go_enter Tryz.func8,Tryz.ntmps8
  obtain ⟨B,hB⟩:∃ N,w.heap.size=N:=⟨_,rfl⟩
  have hb:=Ab w (.cells #[.string x,.string y] 23)
  replace BB:=Lib.hid (Aa BB.out hb)
  clear hb
  have CB:=Lib.hid (show CAt B x y (w.alloc (.cells #[.string x,.string y] 23)) from hB ▸ CAt.new w x y)
  have m0:=CB.out.c0
  have m1:=CB.out.c1
  go_wp2_with fail
  refine (Ar _).mono ?_
  rintro e w1 ⟨rfl,hb⟩
  replace m0:=Kc hb m0
  replace m1:=Kc hb m1
  replace CB:=Lib.hid (CB.out.Ac hb)
  replace BB:=Lib.hid (Aa BB.out hb)
  clear hb
  go_wp2_with fail
  refine (Di x y _ hx hy).mono ?_
  rintro e w2 ⟨rfl,hb⟩
  replace m0:=Kc hb m0
  replace m1:=Kc hb m1
  replace CB:=Lib.hid (CB.out.Ac hb)
  replace BB:=Lib.hid (Aa BB.out hb)
  clear hb
  go_wp2_with fail
  refine (KP.out _).mono ?_
  rintro e w3 ⟨rfl,hb⟩
  replace m0:=Kc hb m0
  replace m1:=Kc hb m1
  replace CB:=Lib.hid (CB.out.Ac hb)
  replace BB:=Lib.hid (Aa BB.out hb)
  clear hb
  go_wp2
  go_ret
  exact ⟨rfl,BB.out⟩
 rw [hp] at KP
 have KP:=Lib.hid KP
 have h8:=Lab.C8 s.data.toList
 by_cases h0:E=0
 case neg =>
  have e0:(E != 0)=true:=by simpa using h0
  clear h0 hE h8 hp
  have BB:=Lib.hid (Below.refl w.heap.size w)
  go_enter Tryz.func8,Tryz.ntmps8
  obtain ⟨B,hB⟩:∃ N,w.heap.size=N:=⟨_,rfl⟩
  have hb:=Ab w (.cells #[.string x,.string y] 23)
  replace BB:=Lib.hid (Aa BB.out hb)
  clear hb
  have CB:=Lib.hid (show CAt B x y (w.alloc (.cells #[.string x,.string y] 23)) from hB ▸ CAt.new w x y)
  have m0:=CB.out.c0
  have m1:=CB.out.c1
  go_wp2_with fail
  refine (Ar _).mono ?_
  rintro e w1 ⟨rfl,hb⟩
  replace m0:=Kc hb m0
  replace m1:=Kc hb m1
  replace CB:=Lib.hid (CB.out.Ac hb)
  replace BB:=Lib.hid (Aa BB.out hb)
  clear hb
  go_wp2_with fail
  refine (Di x y _ hx hy).mono ?_
  rintro e w2 ⟨rfl,hb⟩
  replace m0:=Kc hb m0
  replace m1:=Kc hb m1
  replace CB:=Lib.hid (CB.out.Ac hb)
  replace BB:=Lib.hid (Aa BB.out hb)
  clear hb
  go_wp2_with fail
  refine (KP.out _).mono ?_
  rintro e w3 ⟨rfl,hb⟩
  replace m0:=Kc hb m0
  replace m1:=Kc hb m1
  replace CB:=Lib.hid (CB.out.Ac hb)
  replace BB:=Lib.hid (Aa BB.out hb)
  clear hb
  go_wp2_with fail
  refine (Dz _).mono ?_
  rintro e w4 ⟨tt,rfl,hT,hb⟩
  obtain ⟨b0,b1,b2,b3,rfl,-,-,-,-⟩:=id hT
  replace m0:=Kc hb m0
  replace m1:=Kc hb m1
  replace CB:=Lib.hid (CB.out.Ac hb)
  replace BB:=Lib.hid (Aa BB.out hb)
  have K:=Lib.hid (Cw (b0:=b0) (b1:=b1) (b2:=b2) (b3:=b3) BB.out hT 31)
  clear hT hb BB
  obtain ⟨S,hS⟩:∃ N,w4.heap.size=N:=⟨_,rfl⟩
  rw [hS] at K
  have hb:=Ab w4 (.cells #[.slice (some ⟨b0,0,none⟩) 74 74,.slice (some ⟨b1,0,none⟩) 10 10,.slice (some ⟨b2,0,none⟩) 11 11,.slice (some ⟨b3,0,none⟩) 42 42] 31)
  replace m0:=Kc hb m0
  replace m1:=Kc hb m1
  replace CB:=Lib.hid (CB.out.Ac hb)
  clear hb
  obtain ⟨-,t0,t1,t2,t3⟩:=K.out.held
  go_wp2_with fail
  refine (Cg (.agg #[.slice (some ⟨b0,0,none⟩) 74 74,.slice (some ⟨b1,0,none⟩) 10 10,.slice (some ⟨b2,0,none⟩) 11 11,.slice (some ⟨b3,0,none⟩) 42 42]) x y _ K.out.table LX.out.1 LY.out HE.out).mono ?_
  rintro e w5 ⟨rfl,hb⟩
  replace m0:=Kc hb m0
  replace m1:=Kc hb m1
  replace t0:=Kc hb t0
  replace t1:=Kc hb t1
  replace t2:=Kc hb t2
  replace t3:=Kc hb t3
  replace CB:=Lib.hid (CB.out.Ac hb)
  replace K:=Lib.hid (K.out.next hb)
  clear hb
  go_wp2
  go_ret
  exact ⟨rfl,K.out.below⟩
 subst h0
 by_cases h9:Ao s.data.toList=-1
 case neg =>
  have hv:0<=Ao s.data.toList:=by rcases h8 with ⟨-,h⟩ | ⟨-,h⟩<;>omega
  obtain ⟨ev,hev⟩:∃ ev,Ao s.data.toList=ev:=⟨_,rfl⟩
  rw [hev] at hv KE
  have KE:=Lib.hid KE
  clear h9 h8 hE hp hev
  have BB:=Lib.hid (Below.refl w.heap.size w)
  go_enter Tryz.func8,Tryz.ntmps8
  obtain ⟨B,hB⟩:∃ N,w.heap.size=N:=⟨_,rfl⟩
  have hb:=Ab w (.cells #[.string x,.string y] 23)
  replace BB:=Lib.hid (Aa BB.out hb)
  clear hb
  have CB:=Lib.hid (show CAt B x y (w.alloc (.cells #[.string x,.string y] 23)) from hB ▸ CAt.new w x y)
  have m0:=CB.out.c0
  have m1:=CB.out.c1
  go_wp2_with fail
  refine (Ar _).mono ?_
  rintro e w1 ⟨rfl,hb⟩
  replace m0:=Kc hb m0
  replace m1:=Kc hb m1
  replace CB:=Lib.hid (CB.out.Ac hb)
  replace BB:=Lib.hid (Aa BB.out hb)
  clear hb
  go_wp2_with fail
  refine (Di x y _ hx hy).mono ?_
  rintro e w2 ⟨rfl,hb⟩
  replace m0:=Kc hb m0
  replace m1:=Kc hb m1
  replace CB:=Lib.hid (CB.out.Ac hb)
  replace BB:=Lib.hid (Aa BB.out hb)
  clear hb
  go_wp2_with fail
  refine (KP.out _).mono ?_
  rintro e w3 ⟨rfl,hb⟩
  replace m0:=Kc hb m0
  replace m1:=Kc hb m1
  replace CB:=Lib.hid (CB.out.Ac hb)
  replace BB:=Lib.hid (Aa BB.out hb)
  clear hb
  go_wp2_with fail
  refine (Dz _).mono ?_
  rintro e w4 ⟨tt,rfl,hT,hb⟩
  obtain ⟨b0,b1,b2,b3,rfl,-,-,-,-⟩:=id hT
  replace m0:=Kc hb m0
  replace m1:=Kc hb m1
  replace CB:=Lib.hid (CB.out.Ac hb)
  replace BB:=Lib.hid (Aa BB.out hb)
  have K:=Lib.hid (Cw (b0:=b0) (b1:=b1) (b2:=b2) (b3:=b3) BB.out hT 31)
  clear hT hb BB
  obtain ⟨S,hS⟩:∃ N,w4.heap.size=N:=⟨_,rfl⟩
  rw [hS] at K
  have hb:=Ab w4 (.cells #[.slice (some ⟨b0,0,none⟩) 74 74,.slice (some ⟨b1,0,none⟩) 10 10,.slice (some ⟨b2,0,none⟩) 11 11,.slice (some ⟨b3,0,none⟩) 42 42] 31)
  replace m0:=Kc hb m0
  replace m1:=Kc hb m1
  replace CB:=Lib.hid (CB.out.Ac hb)
  clear hb
  obtain ⟨-,t0,t1,t2,t3⟩:=K.out.held
  go_wp2_with fail
  refine (Cg (.agg #[.slice (some ⟨b0,0,none⟩) 74 74,.slice (some ⟨b1,0,none⟩) 10 10,.slice (some ⟨b2,0,none⟩) 11 11,.slice (some ⟨b3,0,none⟩) 42 42]) x y _ K.out.table LX.out.1 LY.out HE.out).mono ?_
  rintro e w5 ⟨rfl,hb⟩
  replace m0:=Kc hb m0
  replace m1:=Kc hb m1
  replace t0:=Kc hb t0
  replace t1:=Kc hb t1
  replace t2:=Kc hb t2
  replace t3:=Kc hb t3
  replace CB:=Lib.hid (CB.out.Ac hb)
  replace K:=Lib.hid (K.out.next hb)
  clear hb
  go_wp2_with fail
  refine (KE.out _).mono ?_
  rintro e w_ ⟨rfl,rfl⟩
  go_wp2
  go_ret
  exact ⟨rfl,K.out.below⟩
 rw [h9] at KE
 have KE:=Lib.hid KE
 have hasc:∀ b ∈ s.data.toList,b.toNat<128:=by
  rcases h8 with ⟨h,-⟩ | ⟨-,h⟩
  ·exact Lab.Fe.1 h
  ·omega
 have hmain:=Mbx.Afz (nt:=s.data.toList) hE hp hasc (by omega) (by omega)
 obtain ⟨hr1,hr2,-⟩:=Mbx.Ju hE
 have hloc:=Mbx.Ik x.data.toList
 obtain ⟨lp,hlp⟩:∃ lp,Mbx.De x.data.toList=lp:=⟨_,rfl⟩
 obtain ⟨nt,hnt⟩:∃ nt,Mbx.Fh s.data.toList=nt:=⟨_,rfl⟩
 have hntl:nt.length=s.size+6:=by rw [<- hnt];simp [Mbx.Fh]
 rw [hlp] at hloc
 obtain ⟨LP,hLP⟩:∃ LP:ByteArray,LP=⟨lp.toArray⟩:=⟨_,rfl⟩
 obtain ⟨NT,hNT⟩:∃ NT:ByteArray,NT=⟨nt.toArray⟩:=⟨_,rfl⟩
 obtain ⟨PM,hPM⟩:∃ PM:ByteArray,PM=⟨(Mbx.F6 x.data.toList y.data.toList).toArray⟩:=⟨_,rfl⟩
 obtain ⟨k,hk⟩:∃ k,k=lp.length:=⟨_,rfl⟩
 have hLPs:LP.size=k:=by rw [hLP,hk];show lp.toArray.size=_;rw [List.size_toArray]
 have hNTs:NT.size=s.size+6:=by rw [hNT,<- hntl];show nt.toArray.size=_;rw [List.size_toArray]
 have hPMs:PM.size=k+1+y.size:=by
  rw [hPM]
  show (Mbx.F6 x.data.toList y.data.toList).toArray.size=_
  rw [List.size_toArray]
  unfold Mbx.F6
  rw [hlp,List.length_append,List.length_cons,hk,hyl]
  omega
 have KPM:Hid (∀ W,Calls Tryz.prog 17 #[.agg #[.string x,.string y]] W λe w'=>e=.returned (.string PM)/\Below W.heap.size W w'):=Lib.hid λW=>by rw [hPM];exact Gy x y W (by omega) (by omega) rfl
 have hcut:PM.extract 0 k=LP:=by
  rw [hPM,hLP,hk]
  apply ByteArray.ext
  rw [ByteArray.data_extract]
  apply Array.toList_inj.1
  rw [Array.toList_extract,List.extract_eq_take_drop]
  unfold Mbx.F6
  rw [hlp]
  simp
 have hkz:(PM.size:Int) - (y.size:Int) - 1=(k:Int):=by omega
 have hk1:(k:Int)<=(PM.size:Int):=by omega
 have hk2:k<=PM.size:=by omega
 have hPM1:(PM.size:Int)<=1000:=by have:=Mbx.Ik x.data.toList;rw [hlp] at this;omega
 have HNT:=Lib.hid (show (⟨#[32,40]⟩:ByteArray) ++ s ++ ⟨#[41,13,10,32]⟩=NT by
  rw [hNT,<- hnt]
  apply ByteArray.ext
  simp [ByteArray.data_append,Mbx.Fh])
 obtain ⟨T1,hT1⟩:∃ T:ByteArray,T=NT ++ LP:=⟨_,rfl⟩
 obtain ⟨T2,hT2⟩:∃ T:ByteArray,T=T1 ++ NT:=⟨_,rfl⟩
 obtain ⟨T3,hT3⟩:∃ T:ByteArray,T=T2 ++ (⟨#[64]⟩:ByteArray):=⟨_,rfl⟩
 obtain ⟨T4,hT4⟩:∃ T:ByteArray,T=T3 ++ NT:=⟨_,rfl⟩
 obtain ⟨T5,hT5⟩:∃ T:ByteArray,T=T4 ++ y:=⟨_,rfl⟩
 obtain ⟨T6,hT6⟩:∃ T:ByteArray,T=T5 ++ NT:=⟨_,rfl⟩
 have z1:T1.size<=300:=by rw [hT1,ByteArray.size_append];omega
 have z2:T2.size<=400:=by rw [hT2,ByteArray.size_append];omega
 have z3:T3.size<=401:=by rw [hT3,ByteArray.size_append];show T2.size+1<=_;omega
 have z4:T4.size<=500:=by rw [hT4,ByteArray.size_append];omega
 have z5:T5.size<=700:=by rw [hT5,ByteArray.size_append];omega
 have z6:T6.size<=800:=by rw [hT6,ByteArray.size_append];omega
 have a1:∀ W,(Op.stringOp .add NT LP).run Tryz.prog W=.ok (.string T1) W:=λW=>by rw [hT1];exact run_string_add_sum W _ _ (by omega)
 have a2:∀ W,(Op.stringOp .add T1 NT).run Tryz.prog W=.ok (.string T2) W:=λW=>by rw [hT2];exact run_string_add_sum W _ _ (by omega)
 have a3:∀ W,(Op.stringOp .add T2 ⟨#[64]⟩).run Tryz.prog W=.ok (.string T3) W:=λW=>by rw [hT3];exact run_string_add_sum W _ _ (by show T2.size+1<=_;omega)
 have a4:∀ W,(Op.stringOp .add T3 NT).run Tryz.prog W=.ok (.string T4) W:=λW=>by rw [hT4];exact run_string_add_sum W _ _ (by omega)
 have a5:∀ W,(Op.stringOp .add T4 y).run Tryz.prog W=.ok (.string T5) W:=λW=>by rw [hT5];exact run_string_add_sum W _ _ (by omega)
 have a6:∀ W,(Op.stringOp .add T5 NT).run Tryz.prog W=.ok (.string T6) W:=λW=>by rw [hT6];exact run_string_add_sum W _ _ (by omega)
 have HX:Hid ((⟨x.data.toList.toArray⟩:ByteArray)=x):=Lib.hid rfl
 have HY:Hid ((⟨y.data.toList.toArray⟩:ByteArray)=y):=Lib.hid rfl
 have hT6l:T6.data.toList=Mbx.Fh s.data.toList ++ (Mbx.De x.data.toList ++ (Mbx.Fh s.data.toList ++ 64::(Mbx.Fh s.data.toList ++ (y.data.toList ++ Mbx.Fh s.data.toList)))):=by
  rw [hT6,hT5,hT4,hT3,hT2,hT1,hNT,hLP,hlp,hnt]
  simp [ByteArray.data_append]
 rw [<- hT6l] at hmain
 have KT:Hid (∀ t W,Table W t->Calls Tryz.prog 21 #[t,.string T6] W λe w'=>e=.returned (.tuple #[.agg #[.string x,.string y],.int .i64 0])/\Below W.heap.size W w'):=Lib.hid λt W hT=>by
  have h7:=O8 t T6 W hT (by omega) (λts x' y' n hl ht=>by
   have h6:=Mbx.T0 hl ht hmain
   rw [h6]
   exact Ho (by omega)) hmain
  rwa [HX.out,HY.out] at h7
 clear hE h8 h9 hp hasc hmain hr1 hr2 hloc hlp hnt hntl hLP hNT hPM hk hLPs hNTs hPMs hT1 hT2 hT3 hT4 hT5 hT6 hT6l z1 z2 z3 z4 z5 z6 HX HY hxl hyl hsl
 have BB:=Lib.hid (Below.refl w.heap.size w)
 go_enter Tryz.func8,Tryz.ntmps8
 obtain ⟨B,hB⟩:∃ N,w.heap.size=N:=⟨_,rfl⟩
 have hb:=Ab w (.cells #[.string x,.string y] 23)
 replace BB:=Lib.hid (Aa BB.out hb)
 clear hb
 have CB:=Lib.hid (show CAt B x y (w.alloc (.cells #[.string x,.string y] 23)) from hB ▸ CAt.new w x y)
 have m0:=CB.out.c0
 have m1:=CB.out.c1
 go_wp2_with fail
 refine (Ar _).mono ?_
 rintro e w1 ⟨rfl,hb⟩
 replace m0:=Kc hb m0
 replace m1:=Kc hb m1
 replace CB:=Lib.hid (CB.out.Ac hb)
 replace BB:=Lib.hid (Aa BB.out hb)
 clear hb
 go_wp2_with fail
 refine (Di x y _ hx hy).mono ?_
 rintro e w2 ⟨rfl,hb⟩
 replace m0:=Kc hb m0
 replace m1:=Kc hb m1
 replace CB:=Lib.hid (CB.out.Ac hb)
 replace BB:=Lib.hid (Aa BB.out hb)
 clear hb
 go_wp2_with fail
 refine (KP.out _).mono ?_
 rintro e w3 ⟨rfl,hb⟩
 replace m0:=Kc hb m0
 replace m1:=Kc hb m1
 replace CB:=Lib.hid (CB.out.Ac hb)
 replace BB:=Lib.hid (Aa BB.out hb)
 clear hb
 go_wp2_with fail
 refine (Dz _).mono ?_
 rintro e w4 ⟨tt,rfl,hT,hb⟩
 obtain ⟨b0,b1,b2,b3,rfl,-,-,-,-⟩:=id hT
 replace m0:=Kc hb m0
 replace m1:=Kc hb m1
 replace CB:=Lib.hid (CB.out.Ac hb)
 replace BB:=Lib.hid (Aa BB.out hb)
 have K:=Lib.hid (Cw (b0:=b0) (b1:=b1) (b2:=b2) (b3:=b3) BB.out hT 31)
 clear hT hb BB
 obtain ⟨S,hS⟩:∃ N,w4.heap.size=N:=⟨_,rfl⟩
 rw [hS] at K
 have hb:=Ab w4 (.cells #[.slice (some ⟨b0,0,none⟩) 74 74,.slice (some ⟨b1,0,none⟩) 10 10,.slice (some ⟨b2,0,none⟩) 11 11,.slice (some ⟨b3,0,none⟩) 42 42] 31)
 replace m0:=Kc hb m0
 replace m1:=Kc hb m1
 replace CB:=Lib.hid (CB.out.Ac hb)
 clear hb
 obtain ⟨-,t0,t1,t2,t3⟩:=K.out.held
 go_wp2_with fail
 refine (Cg (.agg #[.slice (some ⟨b0,0,none⟩) 74 74,.slice (some ⟨b1,0,none⟩) 10 10,.slice (some ⟨b2,0,none⟩) 11 11,.slice (some ⟨b3,0,none⟩) 42 42]) x y _ K.out.table LX.out.1 LY.out HE.out).mono ?_
 rintro e w5 ⟨rfl,hb⟩
 replace m0:=Kc hb m0
 replace m1:=Kc hb m1
 replace t0:=Kc hb t0
 replace t1:=Kc hb t1
 replace t2:=Kc hb t2
 replace t3:=Kc hb t3
 replace CB:=Lib.hid (CB.out.Ac hb)
 replace K:=Lib.hid (K.out.next hb)
 clear hb
 go_wp2_with fail
 refine (KE.out _).mono ?_
 rintro e w_ ⟨rfl,rfl⟩
 go_wp2_with fail
 refine (KPM.out _).mono ?_
 rintro e w6 ⟨rfl,hb⟩
 replace m0:=Kc hb m0
 replace m1:=Kc hb m1
 replace t0:=Kc hb t0
 replace t1:=Kc hb t1
 replace t2:=Kc hb t2
 replace t3:=Kc hb t3
 replace CB:=Lib.hid (CB.out.Ac hb)
 replace K:=Lib.hid (K.out.next hb)
 clear hb
 go_wp2
 rw [HNT.out]
 replace m0:(World.drew w6).cell? ⟨B,0,none⟩=some (.string x):=m0
 replace m1:(World.drew w6).cell? ⟨B,1,none⟩=some (.string y):=m1
 replace t0:(World.drew w6).cell? ⟨S,0,none⟩=some (.slice (some ⟨b0,0,none⟩) 74 74):=t0
 replace t1:(World.drew w6).cell? ⟨S,1,none⟩=some (.slice (some ⟨b1,0,none⟩) 10 10):=t1
 replace t2:(World.drew w6).cell? ⟨S,2,none⟩=some (.slice (some ⟨b2,0,none⟩) 11 11):=t2
 replace t3:(World.drew w6).cell? ⟨S,3,none⟩=some (.slice (some ⟨b3,0,none⟩) 42 42):=t3
 replace K:=Lib.hid K.out.drew
 replace CB:=Lib.hid (CB.out.Ac (Below.refl _ _).drew)
 refine wp_region_held_drew (S:=(λw':World=>w'.cell? ⟨B,0,none⟩=some (.string x)/\w'.cell? ⟨B,1,none⟩=some (.string y)/\w'.cell? ⟨S,0,none⟩=some (.slice (some ⟨b0,0,none⟩) 74 74)/\w'.cell? ⟨S,1,none⟩=some (.slice (some ⟨b1,0,none⟩) 10 10)/\w'.cell? ⟨S,2,none⟩=some (.slice (some ⟨b2,0,none⟩) 11 11)/\w'.cell? ⟨S,3,none⟩=some (.slice (some ⟨b3,0,none⟩) 42 42))) (by kernel_rfl) ?_ (λhHeld=>?_)
 ·exact ⟨m0,m1,t0,t1,t2,t3⟩
 generalize hwd:(World.drew w6)=d7 at m0 m1 t0 t1 t2 t3 CB K hHeld ⊢
 clear hwd
 refine Ad 0 53 (v:=?_) rfl rfl (by kernel_rfl) (by kernel_rfl) (by kernel_rfl) (λ_ _ _ h=>h) (Or.inl ⟨by rfl,?_⟩) (by assumption) ?_
 rotate_left
 ·intro w hSw
  (try dsimp only at hSw)
  go_simp
  first | done | with_reducible rfl
 simp only [Act.put,Sa,Sb,Sc]
 refine Ad 1 54 (v:=?_) rfl rfl (by kernel_rfl) (by kernel_rfl) (by kernel_rfl) (λ_ _ _ h=>h) (Or.inl ⟨by rfl,?_⟩) (by assumption) ?_
 rotate_left
 ·intro w hSw
  (try dsimp only at hSw)
  go_simp
  first | done | with_reducible rfl
 simp only [Act.put,Sa,Sb,Sc]
 refine Ad 2 55 (v:=?_) rfl rfl (by kernel_rfl) (by kernel_rfl) (by kernel_rfl) (λ_ _ _ h=>h) (Or.inl ⟨by rfl,?_⟩) (by assumption) ?_
 rotate_left
 ·intro w hSw
  (try dsimp only at hSw)
  go_simp
  first | done | with_reducible rfl
 simp only [Act.put,Sa,Sb,Sc]
 refine Ad 3 56 (v:=?_) rfl rfl (by kernel_rfl) (by kernel_rfl) (by kernel_rfl) (λ_ _ _ h=>h) (Or.inl ⟨by rfl,?_⟩) (by assumption) ?_
 rotate_left
 ·intro w hSw
  (try dsimp only at hSw)
  go_simp
  first | done | with_reducible rfl
 simp only [Act.put,Sa,Sb,Sc]
 refine Ad 4 57 (v:=?_) rfl rfl (by kernel_rfl) (by kernel_rfl) (by kernel_rfl) (λ_ _ _ h=>h) (Or.inl ⟨by rfl,?_⟩) (by assumption) ?_
 rotate_left
 ·intro w hSw
  (try dsimp only at hSw)
  go_simp
  first | done | with_reducible rfl
 simp only [Act.put,Sa,Sb,Sc]
 refine Ad 5 58 (v:=?_) rfl rfl (by kernel_rfl) (by kernel_rfl) (by kernel_rfl) (λ_ _ _ h=>h) (Or.inl ⟨by rfl,?_⟩) (by assumption) ?_
 rotate_left
 ·intro w hSw
  (try dsimp only at hSw)
  go_simp
  first | done | with_reducible rfl
 simp only [Act.put,Sa,Sb,Sc]
 refine Ad 6 59 (v:=?_) rfl rfl (by kernel_rfl) (by kernel_rfl) (by kernel_rfl) (λ_ _ _ h=>h) (Or.inl ⟨by rfl,?_⟩) (by assumption) ?_
 rotate_left
 ·intro w hSw
  (try dsimp only at hSw)
  go_simp
  first | done | with_reducible rfl
 simp only [Act.put,Sa,Sb,Sc]
 refine Ad 7 60 (v:=?_) rfl rfl (by kernel_rfl) (by kernel_rfl) (by kernel_rfl) (λ_ _ _ h=>h) (Or.inl ⟨by rfl,?_⟩) (by assumption) ?_
 rotate_left
 ·intro w hSw
  (try dsimp only at hSw)
  go_simp
  first | done | with_reducible rfl
 simp only [Act.put,Sa,Sb,Sc]
 refine Ad 8 61 (v:=?_) rfl rfl (by kernel_rfl) (by kernel_rfl) (by kernel_rfl) (λ_ _ _ h=>h) (Or.inl ⟨by rfl,?_⟩) (by assumption) ?_
 rotate_left
 ·intro w hSw
  (try dsimp only at hSw)
  go_simp
  first | done | with_reducible rfl
 simp only [Act.put,Sa,Sb,Sc]
 refine Ad 9 62 (v:=?_) rfl rfl (by kernel_rfl) (by kernel_rfl) (by kernel_rfl) (λ_ _ _ h=>h) (Or.inl ⟨by rfl,?_⟩) (by assumption) ?_
 rotate_left
 ·intro w hSw
  (try dsimp only at hSw)
  go_simp
  first | done | with_reducible rfl
 simp only [Act.put,Sa,Sb,Sc]
 refine Ad 10 63 (v:=?_) rfl rfl (by kernel_rfl) (by kernel_rfl) (by kernel_rfl) (λ_ _ _ h=>h) (Or.inl ⟨by rfl,?_⟩) (by assumption) ?_
 rotate_left
 ·intro w hSw
  (try dsimp only at hSw)
  go_simp
  first | done | with_reducible rfl
 simp only [Act.put,Sa,Sb,Sc]
 refine Ad 11 64 (v:=?_) rfl rfl (by kernel_rfl) (by kernel_rfl) (by kernel_rfl) (λ_ _ _ h=>h) (Or.inl ⟨by rfl,?_⟩) (by assumption) ?_
 rotate_left
 ·intro w hSw
  (try dsimp only at hSw)
  go_simp
  first | done | with_reducible rfl
 simp only [Act.put,Sa,Sb,Sc]
 refine Ad 12 65 (v:=?_) rfl rfl (by kernel_rfl) (by kernel_rfl) (by kernel_rfl) (λ_ _ _ h=>h) (Or.inl ⟨by rfl,?_⟩) (by assumption) ?_
 rotate_left
 ·intro w hSw
  (try dsimp only at hSw)
  go_simp
  first | done | with_reducible rfl
 simp only [Act.put,Sa,Sb,Sc]
 refine Ad 13 66 (v:=?_) rfl rfl (by kernel_rfl) (by kernel_rfl) (by kernel_rfl) (λ_ _ _ h=>h) (Or.inl ⟨by rfl,?_⟩) (by assumption) ?_
 rotate_left
 ·intro w hSw
  (try dsimp only at hSw)
  go_simp
  first | done | with_reducible rfl
 simp only [Act.put,Sa,Sb,Sc]
 refine Ad 14 67 (v:=?_) rfl rfl (by kernel_rfl) (by kernel_rfl) (by kernel_rfl) (λ_ _ _ h=>h) (Or.inl ⟨by rfl,?_⟩) (by assumption) ?_
 rotate_left
 ·intro w hSw
  (try dsimp only at hSw)
  go_simp
  first | done | with_reducible rfl
 simp only [Act.put,Sa,Sb,Sc]
 refine Ad 15 68 (v:=?_) rfl rfl (by kernel_rfl) (by kernel_rfl) (by kernel_rfl) (λ_ _ _ h=>h) (Or.inl ⟨by rfl,?_⟩) (by assumption) ?_
 rotate_left
 ·intro w hSw
  (try dsimp only at hSw)
  go_simp
  first | done | with_reducible rfl
 simp only [Act.put,Sa,Sb,Sc]
 refine wpAnyH_ready (rs:=[16,20]) (by kernel_rfl) (by simp) ?_
 refine AllReadyH.cons (o:={ dst:=some 69,op:=.call { callee:=.value (.func 21),args:=#[.tmp 53,.tmp 68],argTypes:=#[31,9] },type:=_,pos := "law.go:132", after:=_,guard:=none }) rfl (λK_ hK=>?_) (AllReadyH.cons (o:={ dst:=some 11,op:=.alloc 23,type:=_,pos := "law.go:132", after:=_,guard:=none }) rfl (λK_ hK=>?_) AllReadyH.nil)
 ·skip
  (try go_simp)
  go_at_call 21
  refine (KT.out _ _ K.out.table).mono ?_
  rintro e w8 ⟨rfl,hb⟩
  replace m0:=Kc hb m0
  replace m1:=Kc hb m1
  replace t0:=Kc hb t0
  replace t1:=Kc hb t1
  replace t2:=Kc hb t2
  replace t3:=Kc hb t3
  replace CB:=Lib.hid (CB.out.Ac hb)
  replace K:=Lib.hid (K.out.next hb)
  clear hb
  go_wp2_with fail
  clear hHeld
  refine hK.out _ _ ?_ (λhHeld=>?_)
  ·exact ⟨m0,m1,t0,t1,t2,t3⟩
  clear hK K_
  refine Ad 17 52 (v:=?_) rfl rfl (by kernel_rfl) (by kernel_rfl) (by kernel_rfl) (λ_ _ _ h=>h) (Or.inl ⟨by rfl,?_⟩) (by assumption) ?_
  rotate_left
  ·intro w hSw
   (try dsimp only at hSw)
   go_simp
   first | done | with_reducible rfl
  simp only [Act.put,Sa,Sb,Sc]
  refine Ad 18 70 (v:=?_) rfl rfl (by kernel_rfl) (by kernel_rfl) (by kernel_rfl) (λ_ _ _ h=>h) (Or.inl ⟨by rfl,?_⟩) (by assumption) ?_
  rotate_left
  ·intro w hSw
   (try dsimp only at hSw)
   go_simp
   first | done | with_reducible rfl
  simp only [Act.put,Sa,Sb,Sc]
  refine Ad 19 71 (v:=?_) rfl rfl (by kernel_rfl) (by kernel_rfl) (by kernel_rfl) (λ_ _ _ h=>h) (Or.inl ⟨by rfl,?_⟩) (by assumption) ?_
  rotate_left
  ·intro w hSw
   (try dsimp only at hSw)
   go_simp
   first | done | with_reducible rfl
  simp only [Act.put,Sa,Sb,Sc]
  refine wpAnyH_ready (rs:=[20]) (by kernel_rfl) (by simp) ?_
  refine AllReadyH.cons (o:={ dst:=some 11,op:=.alloc 23,type:=_,pos := "law.go:132", after:=_,guard:=none }) rfl (λK_ hK=>?_) AllReadyH.nil
  (try go_simp)
  go_wp2_with fail
  obtain ⟨Y,hY⟩:∃ N,w8.heap.size=N:=⟨_,rfl⟩
  have ltYB:B<Y:=by have h_:=World.block_lt_of_cell? _ _ m0;simp only [hY] at h_;exact h_
  have ltYS:S<Y:=by have h_:=World.block_lt_of_cell? _ _ t0;simp only [hY] at h_;exact h_
  have YY:=K
  have hb:=Ab w8 (.cells #[.string ⟨#[]⟩,.string ⟨#[]⟩] 23)
  replace m0:=Kc hb m0
  replace m1:=Kc hb m1
  replace t0:=Kc hb t0
  replace t1:=Kc hb t1
  replace t2:=Kc hb t2
  replace t3:=Kc hb t3
  replace CB:=Lib.hid (CB.out.Ac hb)
  replace K:=Lib.hid (K.out.next hb)
  have ZY:=Lib.hid hb
  clear hb
  have CY:=Lib.hid (show CAt Y ⟨#[]⟩ ⟨#[]⟩ (w8.alloc (.cells #[.string ⟨#[]⟩,.string ⟨#[]⟩] 23)) from hY ▸ CAt.new w8 ⟨#[]⟩ ⟨#[]⟩)
  clear hHeld
  refine hK.out _ _ ?_ (λhHeld=>?_)
  ·exact ⟨m0,m1,t0,t1,t2,t3⟩
  clear hK K_
  refine wpAnyH_ready (rs:=[21]) (by kernel_rfl) (by simp) ?_
  refine AllReadyH.cons (o:={ dst:=none,op:=.store 23 (.tmp 11) (.tmp 70),type:=_,pos := "law.go:132", after:=_,guard:=none }) rfl (λK_ hK=>?_) AllReadyH.nil
  have a0:=CY.out.c0
  have a1:=CY.out.c1
  have a2:=CY.out.fr 0
  have a3:=CY.out.fr 1
  (try go_simp)
  go_wp2_with fail
  clear a0 a1 a2 a3
  have hb:=Ab w8 (.cells #[.string x,.string y] 23)
  have hb0:=Ab w8 (.cells #[.string ⟨#[]⟩,.string ⟨#[]⟩] 23)
  replace m0:=(hb.cell (p:=⟨B,0,none⟩) (show B<w8.heap.size by rw [hY];exact ltYB)).trans (((hb0.cell (p:=⟨B,0,none⟩) (show B<w8.heap.size by rw [hY];exact ltYB)).symm).trans m0)
  replace m1:=(hb.cell (p:=⟨B,1,none⟩) (show B<w8.heap.size by rw [hY];exact ltYB)).trans (((hb0.cell (p:=⟨B,1,none⟩) (show B<w8.heap.size by rw [hY];exact ltYB)).symm).trans m1)
  replace t0:=(hb.cell (p:=⟨S,0,none⟩) (show S<w8.heap.size by rw [hY];exact ltYS)).trans (((hb0.cell (p:=⟨S,0,none⟩) (show S<w8.heap.size by rw [hY];exact ltYS)).symm).trans t0)
  replace t1:=(hb.cell (p:=⟨S,1,none⟩) (show S<w8.heap.size by rw [hY];exact ltYS)).trans (((hb0.cell (p:=⟨S,1,none⟩) (show S<w8.heap.size by rw [hY];exact ltYS)).symm).trans t1)
  replace t2:=(hb.cell (p:=⟨S,2,none⟩) (show S<w8.heap.size by rw [hY];exact ltYS)).trans (((hb0.cell (p:=⟨S,2,none⟩) (show S<w8.heap.size by rw [hY];exact ltYS)).symm).trans t2)
  replace t3:=(hb.cell (p:=⟨S,3,none⟩) (show S<w8.heap.size by rw [hY];exact ltYS)).trans (((hb0.cell (p:=⟨S,3,none⟩) (show S<w8.heap.size by rw [hY];exact ltYS)).symm).trans t3)
  replace CB:=Lib.hid (show CAt _ _ _ _ from ⟨(hb.block B (by rw [hY];exact ltYB)).trans ((hb0.block B (by rw [hY];exact ltYB)).symm.trans CB.out.blk)⟩)
  replace CY:=Lib.hid (show CAt Y x y (w8.alloc (.cells #[.string x,.string y] 23)) from hY ▸ CAt.new w8 x y)
  replace K:=Lib.hid (YY.out.next hb)
  clear hb hb0 ZY
  clear hHeld
  refine hK.out _ _ ?_ (λhHeld=>?_)
  ·exact ⟨m0,m1,t0,t1,t2,t3⟩
  clear hK K_
  refine Ad 22 12 (v:=?_) rfl rfl (by kernel_rfl) (by kernel_rfl) (by kernel_rfl) (λ_ _ _ h=>h) (Or.inl ⟨by rfl,?_⟩) (by assumption) ?_
  rotate_left
  ·intro w hSw
   (try dsimp only at hSw)
   go_simp
   first | done | with_reducible rfl
  simp only [Act.put,Sa,Sb,Sc]
  refine wpAnyH_done (by kernel_rfl) ?_ _
  have y0:=CY.out.c0
  have y1:=CY.out.c1
  go_wp2
  go_ret
  exact ⟨rfl,K.out.below⟩
 ·skip
  (try go_simp)
  go_wp2_with fail
  obtain ⟨Y,hY⟩:∃ N,d7.heap.size=N:=⟨_,rfl⟩
  have ltYB:B<Y:=by have h_:=World.block_lt_of_cell? _ _ m0;simp only [hY] at h_;exact h_
  have ltYS:S<Y:=by have h_:=World.block_lt_of_cell? _ _ t0;simp only [hY] at h_;exact h_
  have YY:=K
  have hb:=Ab d7 (.cells #[.string ⟨#[]⟩,.string ⟨#[]⟩] 23)
  replace m0:=Kc hb m0
  replace m1:=Kc hb m1
  replace t0:=Kc hb t0
  replace t1:=Kc hb t1
  replace t2:=Kc hb t2
  replace t3:=Kc hb t3
  replace CB:=Lib.hid (CB.out.Ac hb)
  replace K:=Lib.hid (K.out.next hb)
  have ZY:=Lib.hid hb
  clear hb
  have CY:=Lib.hid (show CAt Y ⟨#[]⟩ ⟨#[]⟩ (d7.alloc (.cells #[.string ⟨#[]⟩,.string ⟨#[]⟩] 23)) from hY ▸ CAt.new d7 ⟨#[]⟩ ⟨#[]⟩)
  clear hHeld
  refine hK.out _ _ ?_ (λhHeld=>?_)
  ·exact ⟨m0,m1,t0,t1,t2,t3⟩
  clear hK K_
  refine wpAnyH_ready (rs:=[16]) (by kernel_rfl) (by simp) ?_
  refine AllReadyH.cons (o:={ dst:=some 69,op:=.call { callee:=.value (.func 21),args:=#[.tmp 53,.tmp 68],argTypes:=#[31,9] },type:=_,pos := "law.go:132", after:=_,guard:=none }) rfl (λK_ hK=>?_) AllReadyH.nil
  (try go_simp)
  go_at_call 21
  refine (KT.out _ _ K.out.table).mono ?_
  rintro e w8 ⟨rfl,hb⟩
  replace m0:=Kc hb m0
  replace m1:=Kc hb m1
  replace t0:=Kc hb t0
  replace t1:=Kc hb t1
  replace t2:=Kc hb t2
  replace t3:=Kc hb t3
  replace CB:=Lib.hid (CB.out.Ac hb)
  replace CY:=Lib.hid (CY.out.Ac hb)
  replace ZY:=Lib.hid (Aa ZY.out hb)
  replace K:=Lib.hid (K.out.next hb)
  clear hb
  go_wp2_with fail
  clear hHeld
  refine hK.out _ _ ?_ (λhHeld=>?_)
  ·exact ⟨m0,m1,t0,t1,t2,t3⟩
  clear hK K_
  refine Ad 17 52 (v:=?_) rfl rfl (by kernel_rfl) (by kernel_rfl) (by kernel_rfl) (λ_ _ _ h=>h) (Or.inl ⟨by rfl,?_⟩) (by assumption) ?_
  rotate_left
  ·intro w hSw
   (try dsimp only at hSw)
   go_simp
   first | done | with_reducible rfl
  simp only [Act.put,Sa,Sb,Sc]
  refine Ad 18 70 (v:=?_) rfl rfl (by kernel_rfl) (by kernel_rfl) (by kernel_rfl) (λ_ _ _ h=>h) (Or.inl ⟨by rfl,?_⟩) (by assumption) ?_
  rotate_left
  ·intro w hSw
   (try dsimp only at hSw)
   go_simp
   first | done | with_reducible rfl
  simp only [Act.put,Sa,Sb,Sc]
  refine Ad 19 71 (v:=?_) rfl rfl (by kernel_rfl) (by kernel_rfl) (by kernel_rfl) (λ_ _ _ h=>h) (Or.inl ⟨by rfl,?_⟩) (by assumption) ?_
  rotate_left
  ·intro w hSw
   (try dsimp only at hSw)
   go_simp
   first | done | with_reducible rfl
  simp only [Act.put,Sa,Sb,Sc]
  refine wpAnyH_ready (rs:=[21]) (by kernel_rfl) (by simp) ?_
  refine AllReadyH.cons (o:={ dst:=none,op:=.store 23 (.tmp 11) (.tmp 70),type:=_,pos := "law.go:132", after:=_,guard:=none }) rfl (λK_ hK=>?_) AllReadyH.nil
  have a0:=CY.out.c0
  have a1:=CY.out.c1
  have a2:=CY.out.fr 0
  have a3:=CY.out.fr 1
  (try go_simp)
  go_wp2_with fail
  clear a0 a1 a2 a3
  replace m0:=(Ae (k:=1) (z:=.string y) (Nat.ne_of_lt ltYB)).trans ((Ae (k:=0) (z:=.string x) (Nat.ne_of_lt ltYB)).trans m0)
  replace m1:=(Ae (k:=1) (z:=.string y) (Nat.ne_of_lt ltYB)).trans ((Ae (k:=0) (z:=.string x) (Nat.ne_of_lt ltYB)).trans m1)
  replace t0:=(Ae (k:=1) (z:=.string y) (Nat.ne_of_lt ltYS)).trans ((Ae (k:=0) (z:=.string x) (Nat.ne_of_lt ltYS)).trans t0)
  replace t1:=(Ae (k:=1) (z:=.string y) (Nat.ne_of_lt ltYS)).trans ((Ae (k:=0) (z:=.string x) (Nat.ne_of_lt ltYS)).trans t1)
  replace t2:=(Ae (k:=1) (z:=.string y) (Nat.ne_of_lt ltYS)).trans ((Ae (k:=0) (z:=.string x) (Nat.ne_of_lt ltYS)).trans t2)
  replace t3:=(Ae (k:=1) (z:=.string y) (Nat.ne_of_lt ltYS)).trans ((Ae (k:=0) (z:=.string x) (Nat.ne_of_lt ltYS)).trans t3)
  replace CB:=Lib.hid ((CB.out.other (Nat.ne_of_lt ltYB) 0 (.string x)).other (Nat.ne_of_lt ltYB) 1 (.string y))
  replace CY:=Lib.hid ((CY.out.My x).P8 y)
  replace ZY:=Lib.hid ((ZY.out.setCell (p:=⟨Y,0,none⟩) (show _<=Y by omega) (.string x)).setCell (p:=⟨Y,1,none⟩) (show _<=Y by omega) (.string y))
  replace K:=Lib.hid (YY.out.next ZY.out)
  clear ZY
  clear hHeld
  refine hK.out _ _ ?_ (λhHeld=>?_)
  ·exact ⟨m0,m1,t0,t1,t2,t3⟩
  clear hK K_
  refine Ad 22 12 (v:=?_) rfl rfl (by kernel_rfl) (by kernel_rfl) (by kernel_rfl) (λ_ _ _ h=>h) (Or.inl ⟨by rfl,?_⟩) (by assumption) ?_
  rotate_left
  ·intro w hSw
   (try dsimp only at hSw)
   go_simp
   first | done | with_reducible rfl
  simp only [Act.put,Sa,Sb,Sc]
  refine wpAnyH_done (by kernel_rfl) ?_ _
  have y0:=CY.out.c0
  have y1:=CY.out.c1
  go_wp2
  go_ret
  exact ⟨rfl,K.out.below⟩
end Go.Proofs.YtppmbilonaflfaaGreatDoor
