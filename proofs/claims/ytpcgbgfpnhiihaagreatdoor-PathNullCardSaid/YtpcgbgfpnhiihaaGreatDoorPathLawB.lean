import Derived.Test.YtpcgbgfpnhiihaaGreatDoorPathSmall
namespace Go.Proofs.YtpcgbgfpnhiihaaGreatDoor
open Go.RowKit Utf
set_option maxHeartbeats 16000000 in
set_option maxRecDepth 100000 in
theorem Agm (n:Bool) (x y:ByteArray) (w:World):Calls Tryz.prog 8 #[.agg #[.bool n,.string x,.string y]] w λe w'=>e=.returned (.bool true)/\Below w.heap.size w w':=by
 by_cases hf:x.size<=150/\y.size<=200
 case neg =>
  have BB:=jH (Below.refl w.heap.size w)
  go_enter Tryz.func8,Tryz.ntmps8
  obtain ⟨B,hB⟩:∃ N,w.heap.size=N:=⟨_,rfl⟩
  have hb:=Ab w (.cells #[.bool n,.string x,.string y] 53)
  replace BB:=jH (Aa BB.out hb)
  clear hb
  have CB:=jH (show PAt B n x y (w.alloc (.cells #[.bool n,.string x,.string y] 53)) from hB ▸ PAt.new w n x y)
  obtain ⟨m0,m1,m2⟩:=CB.out.all
  go_wp2_with fail
  refine (Hn _).mono ?_
  rintro e w1 ⟨rfl,hb⟩
  replace m0:=Kc hb m0
  replace m1:=Kc hb m1
  replace m2:=Kc hb m2
  replace CB:=jH (CB.out.Ac hb)
  replace BB:=jH (Aa BB.out hb)
  clear hb
  go_wp2_with fail
  refine (Asq x y _ hf).mono ?_
  rintro e w2 ⟨rfl,hb⟩
  replace m0:=Kc hb m0
  replace m1:=Kc hb m1
  replace m2:=Kc hb m2
  replace CB:=jH (CB.out.Ac hb)
  replace BB:=jH (Aa BB.out hb)
  clear hb
  go_wp2
  go_ret
  exact ⟨rfl,BB.out⟩
 obtain ⟨hx,hy⟩:=hf
 have LX:=jH (Fs (s:=x) (by omega))
 have LY:=jH (Fs (s:=y) (by omega))
 have LE:=jH (Fs (s:=⟨#[]⟩) (by decide))
 have hxl:x.data.toList.length=x.size:=by simp
 have hyl:y.data.toList.length=y.size:=by simp
 have hpl:(Pth.Cm n x.data.toList y.data.toList).length<=2*x.size+y.size+10:=by
  unfold Pth.Cm Pth.Ls Mbx.Ew
  have:=Mbx.Kd x.data.toList
  rw [List.length_cons,List.length_append]
  split
  ·simp
  ·split
   ·simp;omega
   ·rw [List.length_append,List.length_cons];simp;omega
 obtain ⟨PM,hPM⟩:∃ P:ByteArray,P=⟨(Pth.Cm n x.data.toList y.data.toList).toArray⟩:=⟨_,rfl⟩
 have hPMl:PM.data.toList=Pth.Cm n x.data.toList y.data.toList:=by rw [hPM]
 have hPMs:PM.size<=100000:=by rw [hPM];show (Pth.Cm n x.data.toList y.data.toList).toArray.size<=_;rw [List.size_toArray];omega
 have KPM:Hid (∀ W,Calls Tryz.prog 31 #[.agg #[.bool n,.string x,.string y]] W λe w'=>e=.returned (.string PM)/\Below W.heap.size W w'):=jH λW=>by rw [hPM];exact Hc n x y W (by omega) (by omega)
 obtain ⟨⟨F,k,p,q⟩,hp⟩:∃ r,Pth.Dv PM.data.toList=r:=⟨_,rfl⟩
 obtain ⟨P,hP⟩:∃ P:ByteArray,P=⟨p.toArray⟩:=⟨_,rfl⟩
 obtain ⟨Q,hQ⟩:∃ Q:ByteArray,Q=⟨q.toArray⟩:=⟨_,rfl⟩
 have hkn:F=0->k=n:=λh=>by subst h;rw [hPMl] at hp;exact Pth.Ana hp
 have KP:Hid (∀ t W,Table W t->Calls Tryz.prog 35 #[t,.string PM] W λe w'=>e=.returned (.tuple #[.agg #[.bool k,.string P,.string Q],.int .i64 F])/\Below W.heap.size W w'):=jH λt W hT=>by
  rw [hP,hQ]
  refine Jl t PM W hT hPMs (λts n' u v hl hr=>?_) hp
  have h1:=Pth.W5 hl hr
  have h2:PM.data.toList.length=PM.size:=by simp
  refine ⟨by omega,?_⟩
  rw [hPMl] at hl
  rcases Pth.Apn n x.data.toList y.data.toList with h3 | h3 | h3
  ·rw [h3] at hPMl
   have h4:=congrArg List.length hPMl
   rw [h2] at h4
   simp at h4
   exact Ke (by omega)
  ·have h4:=congrArg List.length hPMl
   rw [h2,h3.1] at h4
   simp at h4
   exact Ke (by omega)
  ·rw [h3] at hl
   have:=Pth.Apm hl hr
   exact Ke (by omega)
 have KD:Hid (∀ t W,Table W t->Calls Tryz.prog 28 #[t,.agg #[.bool true,.string ⟨#[]⟩,.string ⟨#[]⟩]] W λe w'=>e=.returned (.tuple #[.agg #[.bool true,.string ⟨#[]⟩,.string ⟨#[]⟩],.int .i64 0])/\Below W.heap.size W w'):=jH λt W hT=>Adh t true ⟨#[]⟩ ⟨#[]⟩ W hT (by decide) LE.out rfl
 have KC:Hid (∀ t W,Table W t->Calls Tryz.prog 33 #[t,.agg #[.bool true,.string ⟨#[]⟩,.string ⟨#[]⟩]] W λe w'=>e=.returned (.agg #[.bool true,.string ⟨#[]⟩,.string ⟨#[]⟩])/\Below W.heap.size W w'):=jH λt W hT=>Adg t true ⟨#[]⟩ ⟨#[]⟩ W hT LE.out LE.out rfl rfl
 obtain ⟨z,hz⟩:∃ z,Pth.Om true [] [] n x.data.toList y.data.toList=z:=⟨_,rfl⟩
 have KS:Hid (∀ t W,Table W t->Calls Tryz.prog 34 #[t,.agg #[.bool true,.string ⟨#[]⟩,.string ⟨#[]⟩],.agg #[.bool n,.string x,.string y]] W λe w'=>e=.returned (.bool z)/\Below W.heap.size W w'):=jH λt W hT=>Jc t true ⟨#[]⟩ ⟨#[]⟩ n x y W hT LE.out LE.out LX.out LY.out hz
 have hpn:(PM.toList == [60,62])=n:=by rw [ByteArray.toList_eq,hPMl];exact Pth.Xs n _ _
 have hway:(n=false/\z=false)\/(n=true/\x=⟨#[]⟩/\y=⟨#[]⟩/\z=true)\/(n=true/\(x.toList == [])=false/\z=false)\/(n=true/\x=⟨#[]⟩/\(y.toList == [])=false/\z=false):=by
  cases n with
  | false=>exact .inl ⟨rfl,by rw [<- hz];unfold Pth.Om;simp⟩
  | true =>
   right
   by_cases hx0:x.size=0
   ·obtain rfl:x=⟨#[]⟩:=ByteArray.ext (Array.eq_empty_of_size_eq_zero hx0)
    by_cases hy0:y.size=0
    ·obtain rfl:y=⟨#[]⟩:=ByteArray.ext (Array.eq_empty_of_size_eq_zero hy0)
     exact .inl ⟨rfl,rfl,rfl,hz.symm⟩
    ·refine .inr (.inr ⟨rfl,rfl,J5 hy0,?_⟩)
     rw [<- hz]
     unfold Pth.Om Pth.Cu
     rw [if_pos rfl,if_pos rfl,if_neg (show ¬ ((⟨#[]⟩:ByteArray).data.toList=[]/\y.data.toList=[]) from λh=>Qy hy0 h.2)]
     simp
   ·refine .inr (.inl ⟨rfl,J5 hx0,?_⟩)
    rw [<- hz]
    unfold Pth.Om Pth.Cu
    rw [if_pos rfl,if_pos rfl,if_neg (show ¬ (x.data.toList=[]/\y.data.toList=[]) from λh=>Qy hx0 h.1)]
    simp
 have HQ:=jH (show ∀ W:World,(if n=false then (Result.ok (Next.value (Value.bool false)) W:Result Next) else if x.toList=[] then (if y.toList=[] then Result.ok (Next.value (Value.bool true)) W else Result.ok (Next.value (Value.bool false)) W) else Result.ok (Next.value (Value.bool false)) W)=Result.ok (Next.value (Value.bool z)) W from λW=>by
  rcases hway with ⟨rfl,rfl⟩ | ⟨rfl,rfl,rfl,rfl⟩ | ⟨rfl,e1,rfl⟩ | ⟨rfl,rfl,e1,rfl⟩
  ·rfl
  ·rw [ByteArray.toList_eq];rfl
  ·rw [if_neg (by decide),if_neg (by simpa using e1)]
  ·rw [if_neg (by decide),if_pos (by rw [ByteArray.toList_eq]),if_neg (by simpa using e1)])
 have HN:=jH hpn
 have HK:=jH hkn
 clear hway hpn hkn hz hp hP hQ hPM hPMl hPMs hpl hxl hyl LE
 have BB:=jH (Below.refl w.heap.size w)
 go_enter Tryz.func8,Tryz.ntmps8
 obtain ⟨B,hB⟩:∃ N,w.heap.size=N:=⟨_,rfl⟩
 have hb:=Ab w (.cells #[.bool n,.string x,.string y] 53)
 replace BB:=jH (Aa BB.out hb)
 clear hb
 have CB:=jH (show PAt B n x y (w.alloc (.cells #[.bool n,.string x,.string y] 53)) from hB ▸ PAt.new w n x y)
 obtain ⟨m0,m1,m2⟩:=CB.out.all
 go_wp2_with fail
 refine (Hn _).mono ?_
 rintro e w1 ⟨rfl,hb⟩
 replace m0:=Kc hb m0
 replace m1:=Kc hb m1
 replace m2:=Kc hb m2
 replace CB:=jH (CB.out.Ac hb)
 replace BB:=jH (Aa BB.out hb)
 clear hb
 go_wp2_with fail
 refine (Acz x y _ hx hy).mono ?_
 rintro e w2 ⟨rfl,hb⟩
 replace m0:=Kc hb m0
 replace m1:=Kc hb m1
 replace m2:=Kc hb m2
 replace CB:=jH (CB.out.Ac hb)
 replace BB:=jH (Aa BB.out hb)
 clear hb
 go_wp2_with fail
 refine (Ade _).mono ?_
 rintro e w3 ⟨tt,rfl,hT,hb⟩
 obtain ⟨b0,b1,b2,b3,rfl,-,-,-,-⟩:=id hT
 replace m0:=Kc hb m0
 replace m1:=Kc hb m1
 replace m2:=Kc hb m2
 replace CB:=jH (CB.out.Ac hb)
 replace BB:=jH (Aa BB.out hb)
 have K:=jH (Wx (b0:=b0) (b1:=b1) (b2:=b2) (b3:=b3) BB.out hT 31)
 clear hT hb BB
 obtain ⟨S,hS⟩:∃ N,w3.heap.size=N:=⟨_,rfl⟩
 rw [hS] at K
 have hb:=Ab w3 (.cells #[.slice (some ⟨b0,0,none⟩) 74 74,.slice (some ⟨b1,0,none⟩) 10 10,.slice (some ⟨b2,0,none⟩) 11 11,.slice (some ⟨b3,0,none⟩) 42 42] 31)
 replace m0:=Kc hb m0
 replace m1:=Kc hb m1
 replace m2:=Kc hb m2
 replace CB:=jH (CB.out.Ac hb)
 clear hb
 obtain ⟨-,t0,t1,t2,t3⟩:=K.out.held
 obtain ⟨A,hA⟩:∃ N,(w3.alloc (.cells #[.slice (some ⟨b0,0,none⟩) 74 74,.slice (some ⟨b1,0,none⟩) 10 10,.slice (some ⟨b2,0,none⟩) 11 11,.slice (some ⟨b3,0,none⟩) 42 42] 31)).heap.size=N:=⟨_,rfl⟩
 have ltAB:B<A:=by have h_:=World.block_lt_of_cell? _ _ m0;simp only [hA] at h_;exact h_
 have ltAS:S<A:=by have h_:=World.block_lt_of_cell? _ _ t0;simp only [hA] at h_;exact h_
 have hb:=Ab (w3.alloc (.cells #[.slice (some ⟨b0,0,none⟩) 74 74,.slice (some ⟨b1,0,none⟩) 10 10,.slice (some ⟨b2,0,none⟩) 11 11,.slice (some ⟨b3,0,none⟩) 42 42] 31)) (.cells #[.bool true,.string ⟨#[]⟩,.string ⟨#[]⟩] 53)
 replace m0:=Kc hb m0
 replace m1:=Kc hb m1
 replace m2:=Kc hb m2
 replace t0:=Kc hb t0
 replace t1:=Kc hb t1
 replace t2:=Kc hb t2
 replace t3:=Kc hb t3
 replace CB:=jH (CB.out.Ac hb)
 replace K:=jH (K.out.next hb)
 clear hb
 have CA:=jH (show PAt A true ⟨#[]⟩ ⟨#[]⟩ ((w3.alloc (.cells #[.slice (some ⟨b0,0,none⟩) 74 74,.slice (some ⟨b1,0,none⟩) 10 10,.slice (some ⟨b2,0,none⟩) 11 11,.slice (some ⟨b3,0,none⟩) 42 42] 31)).alloc (.cells #[.bool true,.string ⟨#[]⟩,.string ⟨#[]⟩] 53)) from hA ▸ PAt.new (w3.alloc (.cells #[.slice (some ⟨b0,0,none⟩) 74 74,.slice (some ⟨b1,0,none⟩) 10 10,.slice (some ⟨b2,0,none⟩) 11 11,.slice (some ⟨b3,0,none⟩) 42 42] 31)) true ⟨#[]⟩ ⟨#[]⟩)
 obtain ⟨a0_,a1_,a2_⟩:=CA.out.all
 go_wp2_with fail
 refine (KD.out _ _ K.out.table).mono ?_
 rintro e w4 ⟨rfl,hb⟩
 replace m0:=Kc hb m0
 replace m1:=Kc hb m1
 replace m2:=Kc hb m2
 replace t0:=Kc hb t0
 replace t1:=Kc hb t1
 replace t2:=Kc hb t2
 replace t3:=Kc hb t3
 replace a0_:=(hb.cell (p:=⟨A,0,none⟩) (World.block_lt_of_cell? _ _ a0_)).trans a0_
 replace a1_:=(hb.cell (p:=⟨A,1,none⟩) (World.block_lt_of_cell? _ _ a1_)).trans a1_
 replace a2_:=(hb.cell (p:=⟨A,2,none⟩) (World.block_lt_of_cell? _ _ a2_)).trans a2_
 replace CB:=jH (CB.out.Ac hb)
 replace CA:=jH (CA.out.Ac hb)
 replace K:=jH (K.out.next hb)
 clear hb
 obtain ⟨D,hD⟩:∃ N,w4.heap.size=N:=⟨_,rfl⟩
 have ltDB:B<D:=by have h_:=World.block_lt_of_cell? _ _ m0;simp only [hD] at h_;exact h_
 have ltDS:S<D:=by have h_:=World.block_lt_of_cell? _ _ t0;simp only [hD] at h_;exact h_
 have ltDA:A<D:=by have h_:=World.block_lt_of_cell? _ _ a0_;simp only [hD] at h_;exact h_
 have hb:=Ab w4 (.cells #[.bool true,.string ⟨#[]⟩,.string ⟨#[]⟩] 53)
 replace m0:=Kc hb m0
 replace m1:=Kc hb m1
 replace m2:=Kc hb m2
 replace t0:=Kc hb t0
 replace t1:=Kc hb t1
 replace t2:=Kc hb t2
 replace t3:=Kc hb t3
 replace a0_:=(hb.cell (p:=⟨A,0,none⟩) (World.block_lt_of_cell? _ _ a0_)).trans a0_
 replace a1_:=(hb.cell (p:=⟨A,1,none⟩) (World.block_lt_of_cell? _ _ a1_)).trans a1_
 replace a2_:=(hb.cell (p:=⟨A,2,none⟩) (World.block_lt_of_cell? _ _ a2_)).trans a2_
 replace CB:=jH (CB.out.Ac hb)
 replace CA:=jH (CA.out.Ac hb)
 replace K:=jH (K.out.next hb)
 clear hb
 have CD:=jH (show PAt D true ⟨#[]⟩ ⟨#[]⟩ (w4.alloc (.cells #[.bool true,.string ⟨#[]⟩,.string ⟨#[]⟩] 53)) from hD ▸ PAt.new w4 true ⟨#[]⟩ ⟨#[]⟩)
 obtain ⟨d0_,d1_,d2_⟩:=CD.out.all
 go_upto_region 8 with (fail)
 go_cut [9,10] (λs9 s10 wx=>∃ N,s9=.pointer (some ⟨N,0,none⟩)/\s10=.int .i64 F/\Hid (Kept w S b0 b1 b2 b3 wx/\PAt B n x y wx/\PAt A true ⟨#[]⟩ ⟨#[]⟩ wx/\PAt D true ⟨#[]⟩ ⟨#[]⟩ wx/\PAt N k P Q wx))
 case first =>
  replace m0:(World.drew (w4.alloc (.cells #[.bool true,.string ⟨#[]⟩,.string ⟨#[]⟩] 53))).cell? ⟨B,0,none⟩=some (.bool n):=m0
  replace m1:(World.drew (w4.alloc (.cells #[.bool true,.string ⟨#[]⟩,.string ⟨#[]⟩] 53))).cell? ⟨B,1,none⟩=some (.string x):=m1
  replace m2:(World.drew (w4.alloc (.cells #[.bool true,.string ⟨#[]⟩,.string ⟨#[]⟩] 53))).cell? ⟨B,2,none⟩=some (.string y):=m2
  replace t0:(World.drew (w4.alloc (.cells #[.bool true,.string ⟨#[]⟩,.string ⟨#[]⟩] 53))).cell? ⟨S,0,none⟩=some (.slice (some ⟨b0,0,none⟩) 74 74):=t0
  replace t1:(World.drew (w4.alloc (.cells #[.bool true,.string ⟨#[]⟩,.string ⟨#[]⟩] 53))).cell? ⟨S,1,none⟩=some (.slice (some ⟨b1,0,none⟩) 10 10):=t1
  replace t2:(World.drew (w4.alloc (.cells #[.bool true,.string ⟨#[]⟩,.string ⟨#[]⟩] 53))).cell? ⟨S,2,none⟩=some (.slice (some ⟨b2,0,none⟩) 11 11):=t2
  replace t3:(World.drew (w4.alloc (.cells #[.bool true,.string ⟨#[]⟩,.string ⟨#[]⟩] 53))).cell? ⟨S,3,none⟩=some (.slice (some ⟨b3,0,none⟩) 42 42):=t3
  replace a0_:(World.drew (w4.alloc (.cells #[.bool true,.string ⟨#[]⟩,.string ⟨#[]⟩] 53))).cell? ⟨A,0,none⟩=some (.bool true):=a0_
  replace a1_:(World.drew (w4.alloc (.cells #[.bool true,.string ⟨#[]⟩,.string ⟨#[]⟩] 53))).cell? ⟨A,1,none⟩=some (.string ⟨#[]⟩):=a1_
  replace a2_:(World.drew (w4.alloc (.cells #[.bool true,.string ⟨#[]⟩,.string ⟨#[]⟩] 53))).cell? ⟨A,2,none⟩=some (.string ⟨#[]⟩):=a2_
  replace d0_:(World.drew (w4.alloc (.cells #[.bool true,.string ⟨#[]⟩,.string ⟨#[]⟩] 53))).cell? ⟨D,0,none⟩=some (.bool true):=d0_
  replace d1_:(World.drew (w4.alloc (.cells #[.bool true,.string ⟨#[]⟩,.string ⟨#[]⟩] 53))).cell? ⟨D,1,none⟩=some (.string ⟨#[]⟩):=d1_
  replace d2_:(World.drew (w4.alloc (.cells #[.bool true,.string ⟨#[]⟩,.string ⟨#[]⟩] 53))).cell? ⟨D,2,none⟩=some (.string ⟨#[]⟩):=d2_
  replace K:=jH K.out.drew
  replace CB:=jH (CB.out.Ac (Below.refl _ _).drew)
  replace CA:=jH (CA.out.Ac (Below.refl _ _).drew)
  replace CD:=jH (CD.out.Ac (Below.refl _ _).drew)
  refine wp_region_held_drew (S:=(λw':World=>w'.cell? ⟨B,0,none⟩=some (.bool n)/\w'.cell? ⟨B,1,none⟩=some (.string x)/\w'.cell? ⟨B,2,none⟩=some (.string y)/\w'.cell? ⟨S,0,none⟩=some (.slice (some ⟨b0,0,none⟩) 74 74)/\w'.cell? ⟨S,1,none⟩=some (.slice (some ⟨b1,0,none⟩) 10 10)/\w'.cell? ⟨S,2,none⟩=some (.slice (some ⟨b2,0,none⟩) 11 11)/\w'.cell? ⟨S,3,none⟩=some (.slice (some ⟨b3,0,none⟩) 42 42)/\w'.cell? ⟨A,0,none⟩=some (.bool true)/\w'.cell? ⟨A,1,none⟩=some (.string ⟨#[]⟩)/\w'.cell? ⟨A,2,none⟩=some (.string ⟨#[]⟩)/\w'.cell? ⟨D,0,none⟩=some (.bool true)/\w'.cell? ⟨D,1,none⟩=some (.string ⟨#[]⟩)/\w'.cell? ⟨D,2,none⟩=some (.string ⟨#[]⟩))) (by kernel_rfl) ?_ (λhHeld=>?_)
  ·exact ⟨m0,m1,m2,t0,t1,t2,t3,a0_,a1_,a2_,d0_,d1_,d2_⟩
  generalize hwd:(World.drew (w4.alloc (.cells #[.bool true,.string ⟨#[]⟩,.string ⟨#[]⟩] 53)))=d5 at m0 m1 m2 t0 t1 t2 t3 a0_ a1_ a2_ d0_ d1_ d2_ CB CA CD K hHeld ⊢
  clear hwd
  refine Ai 0 27 (v:=?_) rfl rfl (by kernel_rfl) (by kernel_rfl) (by kernel_rfl) (λ_ _ _ h=>h) (Or.inl ⟨by rfl,?_⟩) (by assumption) ?_
  rotate_left
  ·intro w hSw
   (try dsimp only at hSw)
   go_simp
   first | done | with_reducible rfl
  simp only [Act.put,List.setIfInBounds_toArray,List.set_cons_zero,List.set_cons_succ]
  refine Ai 1 28 (v:=?_) rfl rfl (by kernel_rfl) (by kernel_rfl) (by kernel_rfl) (λ_ _ _ h=>h) (Or.inl ⟨by rfl,?_⟩) (by assumption) ?_
  rotate_left
  ·intro w hSw
   (try dsimp only at hSw)
   go_simp
   first | done | with_reducible rfl
  simp only [Act.put,List.setIfInBounds_toArray,List.set_cons_zero,List.set_cons_succ]
  refine wpAnyH_ready (rs:=[2,7]) (by kernel_rfl) (by simp) ?_
  refine AllReadyH.cons (o:={ dst:=some 29,op:=.call { callee:=.value (.func 31),args:=#[.tmp 28],argTypes:=#[53] },type:=_,pos := "law.go:85", after:=_,guard:=none }) rfl (λK_ hK=>?_) (AllReadyH.cons (o:={ dst:=some 9,op:=.alloc 53,type:=_,pos := "law.go:85", after:=_,guard:=none }) rfl (λK_ hK=>?_) AllReadyH.nil)
  ·skip
   (try go_simp)
   go_at_call 31
   refine (KPM.out _).mono ?_
   rintro e w6 ⟨rfl,hb⟩
   replace m0:=Kc hb m0
   replace m1:=Kc hb m1
   replace m2:=Kc hb m2
   replace t0:=Kc hb t0
   replace t1:=Kc hb t1
   replace t2:=Kc hb t2
   replace t3:=Kc hb t3
   replace a0_:=(hb.cell (p:=⟨A,0,none⟩) (World.block_lt_of_cell? _ _ a0_)).trans a0_
   replace a1_:=(hb.cell (p:=⟨A,1,none⟩) (World.block_lt_of_cell? _ _ a1_)).trans a1_
   replace a2_:=(hb.cell (p:=⟨A,2,none⟩) (World.block_lt_of_cell? _ _ a2_)).trans a2_
   replace d0_:=(hb.cell (p:=⟨D,0,none⟩) (World.block_lt_of_cell? _ _ d0_)).trans d0_
   replace d1_:=(hb.cell (p:=⟨D,1,none⟩) (World.block_lt_of_cell? _ _ d1_)).trans d1_
   replace d2_:=(hb.cell (p:=⟨D,2,none⟩) (World.block_lt_of_cell? _ _ d2_)).trans d2_
   replace CB:=jH (CB.out.Ac hb)
   replace CA:=jH (CA.out.Ac hb)
   replace CD:=jH (CD.out.Ac hb)
   replace K:=jH (K.out.next hb)
   clear hb
   go_wp2_with fail
   clear hHeld
   refine hK.out _ _ ?_ (λhHeld=>?_)
   ·exact ⟨m0,m1,m2,t0,t1,t2,t3,a0_,a1_,a2_,d0_,d1_,d2_⟩
   clear hK K_
   refine wpAnyH_ready (rs:=[3,7]) (by kernel_rfl) (by simp) ?_
   refine AllReadyH.cons (o:={ dst:=some 30,op:=.call { callee:=.value (.func 35),args:=#[.tmp 27,.tmp 29],argTypes:=#[31,9] },type:=_,pos := "law.go:85", after:=_,guard:=none }) rfl (λK_ hK=>?_) (AllReadyH.cons (o:={ dst:=some 9,op:=.alloc 53,type:=_,pos := "law.go:85", after:=_,guard:=none }) rfl (λK_ hK=>?_) AllReadyH.nil)
   ·skip
    (try go_simp)
    go_at_call 35
    refine (KP.out _ _ K.out.table).mono ?_
    rintro e w7 ⟨rfl,hb⟩
    replace m0:=Kc hb m0
    replace m1:=Kc hb m1
    replace m2:=Kc hb m2
    replace t0:=Kc hb t0
    replace t1:=Kc hb t1
    replace t2:=Kc hb t2
    replace t3:=Kc hb t3
    replace a0_:=(hb.cell (p:=⟨A,0,none⟩) (World.block_lt_of_cell? _ _ a0_)).trans a0_
    replace a1_:=(hb.cell (p:=⟨A,1,none⟩) (World.block_lt_of_cell? _ _ a1_)).trans a1_
    replace a2_:=(hb.cell (p:=⟨A,2,none⟩) (World.block_lt_of_cell? _ _ a2_)).trans a2_
    replace d0_:=(hb.cell (p:=⟨D,0,none⟩) (World.block_lt_of_cell? _ _ d0_)).trans d0_
    replace d1_:=(hb.cell (p:=⟨D,1,none⟩) (World.block_lt_of_cell? _ _ d1_)).trans d1_
    replace d2_:=(hb.cell (p:=⟨D,2,none⟩) (World.block_lt_of_cell? _ _ d2_)).trans d2_
    replace CB:=jH (CB.out.Ac hb)
    replace CA:=jH (CA.out.Ac hb)
    replace CD:=jH (CD.out.Ac hb)
    replace K:=jH (K.out.next hb)
    clear hb
    go_wp2_with fail
    clear hHeld
    refine hK.out _ _ ?_ (λhHeld=>?_)
    ·exact ⟨m0,m1,m2,t0,t1,t2,t3,a0_,a1_,a2_,d0_,d1_,d2_⟩
    clear hK K_
    refine Ai 4 26 (v:=?_) rfl rfl (by kernel_rfl) (by kernel_rfl) (by kernel_rfl) (λ_ _ _ h=>h) (Or.inl ⟨by rfl,?_⟩) (by assumption) ?_
    rotate_left
    ·intro w hSw
     (try dsimp only at hSw)
     go_simp
     first | done | with_reducible rfl
    simp only [Act.put,List.setIfInBounds_toArray,List.set_cons_zero,List.set_cons_succ]
    refine Ai 5 31 (v:=?_) rfl rfl (by kernel_rfl) (by kernel_rfl) (by kernel_rfl) (λ_ _ _ h=>h) (Or.inl ⟨by rfl,?_⟩) (by assumption) ?_
    rotate_left
    ·intro w hSw
     (try dsimp only at hSw)
     go_simp
     first | done | with_reducible rfl
    simp only [Act.put,List.setIfInBounds_toArray,List.set_cons_zero,List.set_cons_succ]
    refine Ai 6 32 (v:=?_) rfl rfl (by kernel_rfl) (by kernel_rfl) (by kernel_rfl) (λ_ _ _ h=>h) (Or.inl ⟨by rfl,?_⟩) (by assumption) ?_
    rotate_left
    ·intro w hSw
     (try dsimp only at hSw)
     go_simp
     first | done | with_reducible rfl
    simp only [Act.put,List.setIfInBounds_toArray,List.set_cons_zero,List.set_cons_succ]
    refine wpAnyH_ready (rs:=[7]) (by kernel_rfl) (by simp) ?_
    refine AllReadyH.cons (o:={ dst:=some 9,op:=.alloc 53,type:=_,pos := "law.go:85", after:=_,guard:=none }) rfl (λK_ hK=>?_) AllReadyH.nil
    (try go_simp)
    go_wp2_with fail
    obtain ⟨N,hN⟩:∃ N,w7.heap.size=N:=⟨_,rfl⟩
    have ltNB:B<N:=by have h_:=World.block_lt_of_cell? _ _ m0;simp only [hN] at h_;exact h_
    have ltNS:S<N:=by have h_:=World.block_lt_of_cell? _ _ t0;simp only [hN] at h_;exact h_
    have ltNA:A<N:=by have h_:=World.block_lt_of_cell? _ _ a0_;simp only [hN] at h_;exact h_
    have ltND:D<N:=by have h_:=World.block_lt_of_cell? _ _ d0_;simp only [hN] at h_;exact h_
    have YN:=K
    have hb:=Ab w7 (.cells #[.bool false,.string ⟨#[]⟩,.string ⟨#[]⟩] 53)
    replace m0:=Kc hb m0
    replace m1:=Kc hb m1
    replace m2:=Kc hb m2
    replace t0:=Kc hb t0
    replace t1:=Kc hb t1
    replace t2:=Kc hb t2
    replace t3:=Kc hb t3
    replace a0_:=(hb.cell (p:=⟨A,0,none⟩) (World.block_lt_of_cell? _ _ a0_)).trans a0_
    replace a1_:=(hb.cell (p:=⟨A,1,none⟩) (World.block_lt_of_cell? _ _ a1_)).trans a1_
    replace a2_:=(hb.cell (p:=⟨A,2,none⟩) (World.block_lt_of_cell? _ _ a2_)).trans a2_
    replace d0_:=(hb.cell (p:=⟨D,0,none⟩) (World.block_lt_of_cell? _ _ d0_)).trans d0_
    replace d1_:=(hb.cell (p:=⟨D,1,none⟩) (World.block_lt_of_cell? _ _ d1_)).trans d1_
    replace d2_:=(hb.cell (p:=⟨D,2,none⟩) (World.block_lt_of_cell? _ _ d2_)).trans d2_
    replace CB:=jH (CB.out.Ac hb)
    replace CA:=jH (CA.out.Ac hb)
    replace CD:=jH (CD.out.Ac hb)
    replace K:=jH (K.out.next hb)
    have ZN:=jH hb
    clear hb
    have CN:=jH (show PAt N false ⟨#[]⟩ ⟨#[]⟩ (w7.alloc (.cells #[.bool false,.string ⟨#[]⟩,.string ⟨#[]⟩] 53)) from hN ▸ PAt.new w7 false ⟨#[]⟩ ⟨#[]⟩)
    clear hHeld
    refine hK.out _ _ ?_ (λhHeld=>?_)
    ·exact ⟨m0,m1,m2,t0,t1,t2,t3,a0_,a1_,a2_,d0_,d1_,d2_⟩
    clear hK K_
    refine wpAnyH_ready (rs:=[8]) (by kernel_rfl) (by simp) ?_
    refine AllReadyH.cons (o:={ dst:=none,op:=.store 53 (.tmp 9) (.tmp 31),type:=_,pos := "law.go:85", after:=_,guard:=none }) rfl (λK_ hK=>?_) AllReadyH.nil
    obtain ⟨a0,a1,a2⟩:=CN.out.all
    obtain ⟨a3,a4,a5⟩:=CN.out.fr
    (try go_simp)
    go_wp2_with fail
    clear a0 a1 a2 a3 a4 a5
    have hb:=Ab w7 (.cells #[.bool k,.string P,.string Q] 53)
    have hb0:=Ab w7 (.cells #[.bool false,.string ⟨#[]⟩,.string ⟨#[]⟩] 53)
    replace m0:=(hb.cell (p:=⟨B,0,none⟩) (show B<w7.heap.size by rw [hN];exact ltNB)).trans (((hb0.cell (p:=⟨B,0,none⟩) (show B<w7.heap.size by rw [hN];exact ltNB)).symm).trans m0)
    replace m1:=(hb.cell (p:=⟨B,1,none⟩) (show B<w7.heap.size by rw [hN];exact ltNB)).trans (((hb0.cell (p:=⟨B,1,none⟩) (show B<w7.heap.size by rw [hN];exact ltNB)).symm).trans m1)
    replace m2:=(hb.cell (p:=⟨B,2,none⟩) (show B<w7.heap.size by rw [hN];exact ltNB)).trans (((hb0.cell (p:=⟨B,2,none⟩) (show B<w7.heap.size by rw [hN];exact ltNB)).symm).trans m2)
    replace t0:=(hb.cell (p:=⟨S,0,none⟩) (show S<w7.heap.size by rw [hN];exact ltNS)).trans (((hb0.cell (p:=⟨S,0,none⟩) (show S<w7.heap.size by rw [hN];exact ltNS)).symm).trans t0)
    replace t1:=(hb.cell (p:=⟨S,1,none⟩) (show S<w7.heap.size by rw [hN];exact ltNS)).trans (((hb0.cell (p:=⟨S,1,none⟩) (show S<w7.heap.size by rw [hN];exact ltNS)).symm).trans t1)
    replace t2:=(hb.cell (p:=⟨S,2,none⟩) (show S<w7.heap.size by rw [hN];exact ltNS)).trans (((hb0.cell (p:=⟨S,2,none⟩) (show S<w7.heap.size by rw [hN];exact ltNS)).symm).trans t2)
    replace t3:=(hb.cell (p:=⟨S,3,none⟩) (show S<w7.heap.size by rw [hN];exact ltNS)).trans (((hb0.cell (p:=⟨S,3,none⟩) (show S<w7.heap.size by rw [hN];exact ltNS)).symm).trans t3)
    replace a0_:=(hb.cell (p:=⟨A,0,none⟩) (show A<w7.heap.size by rw [hN];exact ltNA)).trans (((hb0.cell (p:=⟨A,0,none⟩) (show A<w7.heap.size by rw [hN];exact ltNA)).symm).trans a0_)
    replace a1_:=(hb.cell (p:=⟨A,1,none⟩) (show A<w7.heap.size by rw [hN];exact ltNA)).trans (((hb0.cell (p:=⟨A,1,none⟩) (show A<w7.heap.size by rw [hN];exact ltNA)).symm).trans a1_)
    replace a2_:=(hb.cell (p:=⟨A,2,none⟩) (show A<w7.heap.size by rw [hN];exact ltNA)).trans (((hb0.cell (p:=⟨A,2,none⟩) (show A<w7.heap.size by rw [hN];exact ltNA)).symm).trans a2_)
    replace d0_:=(hb.cell (p:=⟨D,0,none⟩) (show D<w7.heap.size by rw [hN];exact ltND)).trans (((hb0.cell (p:=⟨D,0,none⟩) (show D<w7.heap.size by rw [hN];exact ltND)).symm).trans d0_)
    replace d1_:=(hb.cell (p:=⟨D,1,none⟩) (show D<w7.heap.size by rw [hN];exact ltND)).trans (((hb0.cell (p:=⟨D,1,none⟩) (show D<w7.heap.size by rw [hN];exact ltND)).symm).trans d1_)
    replace d2_:=(hb.cell (p:=⟨D,2,none⟩) (show D<w7.heap.size by rw [hN];exact ltND)).trans (((hb0.cell (p:=⟨D,2,none⟩) (show D<w7.heap.size by rw [hN];exact ltND)).symm).trans d2_)
    replace CB:=jH (show PAt _ _ _ _ _ from ⟨(hb.block B (by rw [hN];exact ltNB)).trans ((hb0.block B (by rw [hN];exact ltNB)).symm.trans CB.out.blk)⟩)
    replace CA:=jH (show PAt _ _ _ _ _ from ⟨(hb.block A (by rw [hN];exact ltNA)).trans ((hb0.block A (by rw [hN];exact ltNA)).symm.trans CA.out.blk)⟩)
    replace CD:=jH (show PAt _ _ _ _ _ from ⟨(hb.block D (by rw [hN];exact ltND)).trans ((hb0.block D (by rw [hN];exact ltND)).symm.trans CD.out.blk)⟩)
    replace CN:=jH (show PAt N k P Q (w7.alloc (.cells #[.bool k,.string P,.string Q] 53)) from hN ▸ PAt.new w7 k P Q)
    replace K:=jH (YN.out.next hb)
    clear hb hb0 ZN
    clear hHeld
    refine hK.out _ _ ?_ (λhHeld=>?_)
    ·exact ⟨m0,m1,m2,t0,t1,t2,t3,a0_,a1_,a2_,d0_,d1_,d2_⟩
    clear hK K_
    refine Ai 9 10 (v:=?_) rfl rfl (by kernel_rfl) (by kernel_rfl) (by kernel_rfl) (λ_ _ _ h=>h) (Or.inl ⟨by rfl,?_⟩) (by assumption) ?_
    rotate_left
    ·intro w hSw
     (try dsimp only at hSw)
     go_simp
     first | done | with_reducible rfl
    simp only [Act.put,List.setIfInBounds_toArray,List.set_cons_zero,List.set_cons_succ]
    refine wpAnyH_done (by kernel_rfl) ?_ _
    go_wp2_with fail
    go_meet
    exact ⟨N,rfl,rfl,jH ⟨K.out,CB.out,CA.out,CD.out,CN.out⟩⟩
   ·skip
    (try go_simp)
    go_wp2_with fail
    obtain ⟨N,hN⟩:∃ N,w6.heap.size=N:=⟨_,rfl⟩
    have ltNB:B<N:=by have h_:=World.block_lt_of_cell? _ _ m0;simp only [hN] at h_;exact h_
    have ltNS:S<N:=by have h_:=World.block_lt_of_cell? _ _ t0;simp only [hN] at h_;exact h_
    have ltNA:A<N:=by have h_:=World.block_lt_of_cell? _ _ a0_;simp only [hN] at h_;exact h_
    have ltND:D<N:=by have h_:=World.block_lt_of_cell? _ _ d0_;simp only [hN] at h_;exact h_
    have YN:=K
    have hb:=Ab w6 (.cells #[.bool false,.string ⟨#[]⟩,.string ⟨#[]⟩] 53)
    replace m0:=Kc hb m0
    replace m1:=Kc hb m1
    replace m2:=Kc hb m2
    replace t0:=Kc hb t0
    replace t1:=Kc hb t1
    replace t2:=Kc hb t2
    replace t3:=Kc hb t3
    replace a0_:=(hb.cell (p:=⟨A,0,none⟩) (World.block_lt_of_cell? _ _ a0_)).trans a0_
    replace a1_:=(hb.cell (p:=⟨A,1,none⟩) (World.block_lt_of_cell? _ _ a1_)).trans a1_
    replace a2_:=(hb.cell (p:=⟨A,2,none⟩) (World.block_lt_of_cell? _ _ a2_)).trans a2_
    replace d0_:=(hb.cell (p:=⟨D,0,none⟩) (World.block_lt_of_cell? _ _ d0_)).trans d0_
    replace d1_:=(hb.cell (p:=⟨D,1,none⟩) (World.block_lt_of_cell? _ _ d1_)).trans d1_
    replace d2_:=(hb.cell (p:=⟨D,2,none⟩) (World.block_lt_of_cell? _ _ d2_)).trans d2_
    replace CB:=jH (CB.out.Ac hb)
    replace CA:=jH (CA.out.Ac hb)
    replace CD:=jH (CD.out.Ac hb)
    replace K:=jH (K.out.next hb)
    have ZN:=jH hb
    clear hb
    have CN:=jH (show PAt N false ⟨#[]⟩ ⟨#[]⟩ (w6.alloc (.cells #[.bool false,.string ⟨#[]⟩,.string ⟨#[]⟩] 53)) from hN ▸ PAt.new w6 false ⟨#[]⟩ ⟨#[]⟩)
    clear hHeld
    refine hK.out _ _ ?_ (λhHeld=>?_)
    ·exact ⟨m0,m1,m2,t0,t1,t2,t3,a0_,a1_,a2_,d0_,d1_,d2_⟩
    clear hK K_
    refine wpAnyH_ready (rs:=[3]) (by kernel_rfl) (by simp) ?_
    refine AllReadyH.cons (o:={ dst:=some 30,op:=.call { callee:=.value (.func 35),args:=#[.tmp 27,.tmp 29],argTypes:=#[31,9] },type:=_,pos := "law.go:85", after:=_,guard:=none }) rfl (λK_ hK=>?_) AllReadyH.nil
    (try go_simp)
    go_at_call 35
    refine (KP.out _ _ K.out.table).mono ?_
    rintro e w7 ⟨rfl,hb⟩
    replace m0:=Kc hb m0
    replace m1:=Kc hb m1
    replace m2:=Kc hb m2
    replace t0:=Kc hb t0
    replace t1:=Kc hb t1
    replace t2:=Kc hb t2
    replace t3:=Kc hb t3
    replace a0_:=(hb.cell (p:=⟨A,0,none⟩) (World.block_lt_of_cell? _ _ a0_)).trans a0_
    replace a1_:=(hb.cell (p:=⟨A,1,none⟩) (World.block_lt_of_cell? _ _ a1_)).trans a1_
    replace a2_:=(hb.cell (p:=⟨A,2,none⟩) (World.block_lt_of_cell? _ _ a2_)).trans a2_
    replace d0_:=(hb.cell (p:=⟨D,0,none⟩) (World.block_lt_of_cell? _ _ d0_)).trans d0_
    replace d1_:=(hb.cell (p:=⟨D,1,none⟩) (World.block_lt_of_cell? _ _ d1_)).trans d1_
    replace d2_:=(hb.cell (p:=⟨D,2,none⟩) (World.block_lt_of_cell? _ _ d2_)).trans d2_
    replace CB:=jH (CB.out.Ac hb)
    replace CA:=jH (CA.out.Ac hb)
    replace CD:=jH (CD.out.Ac hb)
    replace CN:=jH (CN.out.Ac hb)
    replace ZN:=jH (Aa ZN.out hb)
    replace K:=jH (K.out.next hb)
    clear hb
    go_wp2_with fail
    clear hHeld
    refine hK.out _ _ ?_ (λhHeld=>?_)
    ·exact ⟨m0,m1,m2,t0,t1,t2,t3,a0_,a1_,a2_,d0_,d1_,d2_⟩
    clear hK K_
    refine Ai 4 26 (v:=?_) rfl rfl (by kernel_rfl) (by kernel_rfl) (by kernel_rfl) (λ_ _ _ h=>h) (Or.inl ⟨by rfl,?_⟩) (by assumption) ?_
    rotate_left
    ·intro w hSw
     (try dsimp only at hSw)
     go_simp
     first | done | with_reducible rfl
    simp only [Act.put,List.setIfInBounds_toArray,List.set_cons_zero,List.set_cons_succ]
    refine Ai 5 31 (v:=?_) rfl rfl (by kernel_rfl) (by kernel_rfl) (by kernel_rfl) (λ_ _ _ h=>h) (Or.inl ⟨by rfl,?_⟩) (by assumption) ?_
    rotate_left
    ·intro w hSw
     (try dsimp only at hSw)
     go_simp
     first | done | with_reducible rfl
    simp only [Act.put,List.setIfInBounds_toArray,List.set_cons_zero,List.set_cons_succ]
    refine Ai 6 32 (v:=?_) rfl rfl (by kernel_rfl) (by kernel_rfl) (by kernel_rfl) (λ_ _ _ h=>h) (Or.inl ⟨by rfl,?_⟩) (by assumption) ?_
    rotate_left
    ·intro w hSw
     (try dsimp only at hSw)
     go_simp
     first | done | with_reducible rfl
    simp only [Act.put,List.setIfInBounds_toArray,List.set_cons_zero,List.set_cons_succ]
    refine wpAnyH_ready (rs:=[8]) (by kernel_rfl) (by simp) ?_
    refine AllReadyH.cons (o:={ dst:=none,op:=.store 53 (.tmp 9) (.tmp 31),type:=_,pos := "law.go:85", after:=_,guard:=none }) rfl (λK_ hK=>?_) AllReadyH.nil
    obtain ⟨a0,a1,a2⟩:=CN.out.all
    obtain ⟨a3,a4,a5⟩:=CN.out.fr
    (try go_simp)
    go_wp2_with fail
    clear a0 a1 a2 a3 a4 a5
    replace m0:=(Ad (k:=2) (z:=.string Q) (Nat.ne_of_lt ltNB)).trans ((Ad (k:=1) (z:=.string P) (Nat.ne_of_lt ltNB)).trans ((Ad (k:=0) (z:=.bool k) (Nat.ne_of_lt ltNB)).trans (m0)))
    replace m1:=(Ad (k:=2) (z:=.string Q) (Nat.ne_of_lt ltNB)).trans ((Ad (k:=1) (z:=.string P) (Nat.ne_of_lt ltNB)).trans ((Ad (k:=0) (z:=.bool k) (Nat.ne_of_lt ltNB)).trans (m1)))
    replace m2:=(Ad (k:=2) (z:=.string Q) (Nat.ne_of_lt ltNB)).trans ((Ad (k:=1) (z:=.string P) (Nat.ne_of_lt ltNB)).trans ((Ad (k:=0) (z:=.bool k) (Nat.ne_of_lt ltNB)).trans (m2)))
    replace t0:=(Ad (k:=2) (z:=.string Q) (Nat.ne_of_lt ltNS)).trans ((Ad (k:=1) (z:=.string P) (Nat.ne_of_lt ltNS)).trans ((Ad (k:=0) (z:=.bool k) (Nat.ne_of_lt ltNS)).trans (t0)))
    replace t1:=(Ad (k:=2) (z:=.string Q) (Nat.ne_of_lt ltNS)).trans ((Ad (k:=1) (z:=.string P) (Nat.ne_of_lt ltNS)).trans ((Ad (k:=0) (z:=.bool k) (Nat.ne_of_lt ltNS)).trans (t1)))
    replace t2:=(Ad (k:=2) (z:=.string Q) (Nat.ne_of_lt ltNS)).trans ((Ad (k:=1) (z:=.string P) (Nat.ne_of_lt ltNS)).trans ((Ad (k:=0) (z:=.bool k) (Nat.ne_of_lt ltNS)).trans (t2)))
    replace t3:=(Ad (k:=2) (z:=.string Q) (Nat.ne_of_lt ltNS)).trans ((Ad (k:=1) (z:=.string P) (Nat.ne_of_lt ltNS)).trans ((Ad (k:=0) (z:=.bool k) (Nat.ne_of_lt ltNS)).trans (t3)))
    replace a0_:=(Ad (k:=2) (z:=.string Q) (Nat.ne_of_lt ltNA)).trans ((Ad (k:=1) (z:=.string P) (Nat.ne_of_lt ltNA)).trans ((Ad (k:=0) (z:=.bool k) (Nat.ne_of_lt ltNA)).trans (a0_)))
    replace a1_:=(Ad (k:=2) (z:=.string Q) (Nat.ne_of_lt ltNA)).trans ((Ad (k:=1) (z:=.string P) (Nat.ne_of_lt ltNA)).trans ((Ad (k:=0) (z:=.bool k) (Nat.ne_of_lt ltNA)).trans (a1_)))
    replace a2_:=(Ad (k:=2) (z:=.string Q) (Nat.ne_of_lt ltNA)).trans ((Ad (k:=1) (z:=.string P) (Nat.ne_of_lt ltNA)).trans ((Ad (k:=0) (z:=.bool k) (Nat.ne_of_lt ltNA)).trans (a2_)))
    replace d0_:=(Ad (k:=2) (z:=.string Q) (Nat.ne_of_lt ltND)).trans ((Ad (k:=1) (z:=.string P) (Nat.ne_of_lt ltND)).trans ((Ad (k:=0) (z:=.bool k) (Nat.ne_of_lt ltND)).trans (d0_)))
    replace d1_:=(Ad (k:=2) (z:=.string Q) (Nat.ne_of_lt ltND)).trans ((Ad (k:=1) (z:=.string P) (Nat.ne_of_lt ltND)).trans ((Ad (k:=0) (z:=.bool k) (Nat.ne_of_lt ltND)).trans (d1_)))
    replace d2_:=(Ad (k:=2) (z:=.string Q) (Nat.ne_of_lt ltND)).trans ((Ad (k:=1) (z:=.string P) (Nat.ne_of_lt ltND)).trans ((Ad (k:=0) (z:=.bool k) (Nat.ne_of_lt ltND)).trans (d2_)))
    replace CB:=jH (((CB.out.other (Nat.ne_of_lt ltNB) 0 (.bool k)).other (Nat.ne_of_lt ltNB) 1 (.string P)).other (Nat.ne_of_lt ltNB) 2 (.string Q))
    replace CA:=jH (((CA.out.other (Nat.ne_of_lt ltNA) 0 (.bool k)).other (Nat.ne_of_lt ltNA) 1 (.string P)).other (Nat.ne_of_lt ltNA) 2 (.string Q))
    replace CD:=jH (((CD.out.other (Nat.ne_of_lt ltND) 0 (.bool k)).other (Nat.ne_of_lt ltND) 1 (.string P)).other (Nat.ne_of_lt ltND) 2 (.string Q))
    replace CN:=jH (CN.out.set k P Q)
    replace ZN:=jH (((ZN.out.setCell (p:=⟨N,0,none⟩) (show _<=N by omega) (.bool k)).setCell (p:=⟨N,1,none⟩) (show _<=N by omega) (.string P)).setCell (p:=⟨N,2,none⟩) (show _<=N by omega) (.string Q))
    replace K:=jH (YN.out.next ZN.out)
    clear ZN
    clear hHeld
    refine hK.out _ _ ?_ (λhHeld=>?_)
    ·exact ⟨m0,m1,m2,t0,t1,t2,t3,a0_,a1_,a2_,d0_,d1_,d2_⟩
    clear hK K_
    refine Ai 9 10 (v:=?_) rfl rfl (by kernel_rfl) (by kernel_rfl) (by kernel_rfl) (λ_ _ _ h=>h) (Or.inl ⟨by rfl,?_⟩) (by assumption) ?_
    rotate_left
    ·intro w hSw
     (try dsimp only at hSw)
     go_simp
     first | done | with_reducible rfl
    simp only [Act.put,List.setIfInBounds_toArray,List.set_cons_zero,List.set_cons_succ]
    refine wpAnyH_done (by kernel_rfl) ?_ _
    go_wp2_with fail
    go_meet
    exact ⟨N,rfl,rfl,jH ⟨K.out,CB.out,CA.out,CD.out,CN.out⟩⟩
  ·skip
   (try go_simp)
   go_wp2_with fail
   obtain ⟨N,hN⟩:∃ N,d5.heap.size=N:=⟨_,rfl⟩
   have ltNB:B<N:=by have h_:=World.block_lt_of_cell? _ _ m0;simp only [hN] at h_;exact h_
   have ltNS:S<N:=by have h_:=World.block_lt_of_cell? _ _ t0;simp only [hN] at h_;exact h_
   have ltNA:A<N:=by have h_:=World.block_lt_of_cell? _ _ a0_;simp only [hN] at h_;exact h_
   have ltND:D<N:=by have h_:=World.block_lt_of_cell? _ _ d0_;simp only [hN] at h_;exact h_
   have YN:=K
   have hb:=Ab d5 (.cells #[.bool false,.string ⟨#[]⟩,.string ⟨#[]⟩] 53)
   replace m0:=Kc hb m0
   replace m1:=Kc hb m1
   replace m2:=Kc hb m2
   replace t0:=Kc hb t0
   replace t1:=Kc hb t1
   replace t2:=Kc hb t2
   replace t3:=Kc hb t3
   replace a0_:=(hb.cell (p:=⟨A,0,none⟩) (World.block_lt_of_cell? _ _ a0_)).trans a0_
   replace a1_:=(hb.cell (p:=⟨A,1,none⟩) (World.block_lt_of_cell? _ _ a1_)).trans a1_
   replace a2_:=(hb.cell (p:=⟨A,2,none⟩) (World.block_lt_of_cell? _ _ a2_)).trans a2_
   replace d0_:=(hb.cell (p:=⟨D,0,none⟩) (World.block_lt_of_cell? _ _ d0_)).trans d0_
   replace d1_:=(hb.cell (p:=⟨D,1,none⟩) (World.block_lt_of_cell? _ _ d1_)).trans d1_
   replace d2_:=(hb.cell (p:=⟨D,2,none⟩) (World.block_lt_of_cell? _ _ d2_)).trans d2_
   replace CB:=jH (CB.out.Ac hb)
   replace CA:=jH (CA.out.Ac hb)
   replace CD:=jH (CD.out.Ac hb)
   replace K:=jH (K.out.next hb)
   have ZN:=jH hb
   clear hb
   have CN:=jH (show PAt N false ⟨#[]⟩ ⟨#[]⟩ (d5.alloc (.cells #[.bool false,.string ⟨#[]⟩,.string ⟨#[]⟩] 53)) from hN ▸ PAt.new d5 false ⟨#[]⟩ ⟨#[]⟩)
   clear hHeld
   refine hK.out _ _ ?_ (λhHeld=>?_)
   ·exact ⟨m0,m1,m2,t0,t1,t2,t3,a0_,a1_,a2_,d0_,d1_,d2_⟩
   clear hK K_
   refine wpAnyH_ready (rs:=[2]) (by kernel_rfl) (by simp) ?_
   refine AllReadyH.cons (o:={ dst:=some 29,op:=.call { callee:=.value (.func 31),args:=#[.tmp 28],argTypes:=#[53] },type:=_,pos := "law.go:85", after:=_,guard:=none }) rfl (λK_ hK=>?_) AllReadyH.nil
   (try go_simp)
   go_at_call 31
   refine (KPM.out _).mono ?_
   rintro e w6 ⟨rfl,hb⟩
   replace m0:=Kc hb m0
   replace m1:=Kc hb m1
   replace m2:=Kc hb m2
   replace t0:=Kc hb t0
   replace t1:=Kc hb t1
   replace t2:=Kc hb t2
   replace t3:=Kc hb t3
   replace a0_:=(hb.cell (p:=⟨A,0,none⟩) (World.block_lt_of_cell? _ _ a0_)).trans a0_
   replace a1_:=(hb.cell (p:=⟨A,1,none⟩) (World.block_lt_of_cell? _ _ a1_)).trans a1_
   replace a2_:=(hb.cell (p:=⟨A,2,none⟩) (World.block_lt_of_cell? _ _ a2_)).trans a2_
   replace d0_:=(hb.cell (p:=⟨D,0,none⟩) (World.block_lt_of_cell? _ _ d0_)).trans d0_
   replace d1_:=(hb.cell (p:=⟨D,1,none⟩) (World.block_lt_of_cell? _ _ d1_)).trans d1_
   replace d2_:=(hb.cell (p:=⟨D,2,none⟩) (World.block_lt_of_cell? _ _ d2_)).trans d2_
   replace CB:=jH (CB.out.Ac hb)
   replace CA:=jH (CA.out.Ac hb)
   replace CD:=jH (CD.out.Ac hb)
   replace CN:=jH (CN.out.Ac hb)
   replace ZN:=jH (Aa ZN.out hb)
   replace K:=jH (K.out.next hb)
   clear hb
   go_wp2_with fail
   clear hHeld
   refine hK.out _ _ ?_ (λhHeld=>?_)
   ·exact ⟨m0,m1,m2,t0,t1,t2,t3,a0_,a1_,a2_,d0_,d1_,d2_⟩
   clear hK K_
   refine wpAnyH_ready (rs:=[3]) (by kernel_rfl) (by simp) ?_
   refine AllReadyH.cons (o:={ dst:=some 30,op:=.call { callee:=.value (.func 35),args:=#[.tmp 27,.tmp 29],argTypes:=#[31,9] },type:=_,pos := "law.go:85", after:=_,guard:=none }) rfl (λK_ hK=>?_) AllReadyH.nil
   (try go_simp)
   go_at_call 35
   refine (KP.out _ _ K.out.table).mono ?_
   rintro e w7 ⟨rfl,hb⟩
   replace m0:=Kc hb m0
   replace m1:=Kc hb m1
   replace m2:=Kc hb m2
   replace t0:=Kc hb t0
   replace t1:=Kc hb t1
   replace t2:=Kc hb t2
   replace t3:=Kc hb t3
   replace a0_:=(hb.cell (p:=⟨A,0,none⟩) (World.block_lt_of_cell? _ _ a0_)).trans a0_
   replace a1_:=(hb.cell (p:=⟨A,1,none⟩) (World.block_lt_of_cell? _ _ a1_)).trans a1_
   replace a2_:=(hb.cell (p:=⟨A,2,none⟩) (World.block_lt_of_cell? _ _ a2_)).trans a2_
   replace d0_:=(hb.cell (p:=⟨D,0,none⟩) (World.block_lt_of_cell? _ _ d0_)).trans d0_
   replace d1_:=(hb.cell (p:=⟨D,1,none⟩) (World.block_lt_of_cell? _ _ d1_)).trans d1_
   replace d2_:=(hb.cell (p:=⟨D,2,none⟩) (World.block_lt_of_cell? _ _ d2_)).trans d2_
   replace CB:=jH (CB.out.Ac hb)
   replace CA:=jH (CA.out.Ac hb)
   replace CD:=jH (CD.out.Ac hb)
   replace CN:=jH (CN.out.Ac hb)
   replace ZN:=jH (Aa ZN.out hb)
   replace K:=jH (K.out.next hb)
   clear hb
   go_wp2_with fail
   clear hHeld
   refine hK.out _ _ ?_ (λhHeld=>?_)
   ·exact ⟨m0,m1,m2,t0,t1,t2,t3,a0_,a1_,a2_,d0_,d1_,d2_⟩
   clear hK K_
   refine Ai 4 26 (v:=?_) rfl rfl (by kernel_rfl) (by kernel_rfl) (by kernel_rfl) (λ_ _ _ h=>h) (Or.inl ⟨by rfl,?_⟩) (by assumption) ?_
   rotate_left
   ·intro w hSw
    (try dsimp only at hSw)
    go_simp
    first | done | with_reducible rfl
   simp only [Act.put,List.setIfInBounds_toArray,List.set_cons_zero,List.set_cons_succ]
   refine Ai 5 31 (v:=?_) rfl rfl (by kernel_rfl) (by kernel_rfl) (by kernel_rfl) (λ_ _ _ h=>h) (Or.inl ⟨by rfl,?_⟩) (by assumption) ?_
   rotate_left
   ·intro w hSw
    (try dsimp only at hSw)
    go_simp
    first | done | with_reducible rfl
   simp only [Act.put,List.setIfInBounds_toArray,List.set_cons_zero,List.set_cons_succ]
   refine Ai 6 32 (v:=?_) rfl rfl (by kernel_rfl) (by kernel_rfl) (by kernel_rfl) (λ_ _ _ h=>h) (Or.inl ⟨by rfl,?_⟩) (by assumption) ?_
   rotate_left
   ·intro w hSw
    (try dsimp only at hSw)
    go_simp
    first | done | with_reducible rfl
   simp only [Act.put,List.setIfInBounds_toArray,List.set_cons_zero,List.set_cons_succ]
   refine wpAnyH_ready (rs:=[8]) (by kernel_rfl) (by simp) ?_
   refine AllReadyH.cons (o:={ dst:=none,op:=.store 53 (.tmp 9) (.tmp 31),type:=_,pos := "law.go:85", after:=_,guard:=none }) rfl (λK_ hK=>?_) AllReadyH.nil
   obtain ⟨a0,a1,a2⟩:=CN.out.all
   obtain ⟨a3,a4,a5⟩:=CN.out.fr
   (try go_simp)
   go_wp2_with fail
   clear a0 a1 a2 a3 a4 a5
   replace m0:=(Ad (k:=2) (z:=.string Q) (Nat.ne_of_lt ltNB)).trans ((Ad (k:=1) (z:=.string P) (Nat.ne_of_lt ltNB)).trans ((Ad (k:=0) (z:=.bool k) (Nat.ne_of_lt ltNB)).trans (m0)))
   replace m1:=(Ad (k:=2) (z:=.string Q) (Nat.ne_of_lt ltNB)).trans ((Ad (k:=1) (z:=.string P) (Nat.ne_of_lt ltNB)).trans ((Ad (k:=0) (z:=.bool k) (Nat.ne_of_lt ltNB)).trans (m1)))
   replace m2:=(Ad (k:=2) (z:=.string Q) (Nat.ne_of_lt ltNB)).trans ((Ad (k:=1) (z:=.string P) (Nat.ne_of_lt ltNB)).trans ((Ad (k:=0) (z:=.bool k) (Nat.ne_of_lt ltNB)).trans (m2)))
   replace t0:=(Ad (k:=2) (z:=.string Q) (Nat.ne_of_lt ltNS)).trans ((Ad (k:=1) (z:=.string P) (Nat.ne_of_lt ltNS)).trans ((Ad (k:=0) (z:=.bool k) (Nat.ne_of_lt ltNS)).trans (t0)))
   replace t1:=(Ad (k:=2) (z:=.string Q) (Nat.ne_of_lt ltNS)).trans ((Ad (k:=1) (z:=.string P) (Nat.ne_of_lt ltNS)).trans ((Ad (k:=0) (z:=.bool k) (Nat.ne_of_lt ltNS)).trans (t1)))
   replace t2:=(Ad (k:=2) (z:=.string Q) (Nat.ne_of_lt ltNS)).trans ((Ad (k:=1) (z:=.string P) (Nat.ne_of_lt ltNS)).trans ((Ad (k:=0) (z:=.bool k) (Nat.ne_of_lt ltNS)).trans (t2)))
   replace t3:=(Ad (k:=2) (z:=.string Q) (Nat.ne_of_lt ltNS)).trans ((Ad (k:=1) (z:=.string P) (Nat.ne_of_lt ltNS)).trans ((Ad (k:=0) (z:=.bool k) (Nat.ne_of_lt ltNS)).trans (t3)))
   replace a0_:=(Ad (k:=2) (z:=.string Q) (Nat.ne_of_lt ltNA)).trans ((Ad (k:=1) (z:=.string P) (Nat.ne_of_lt ltNA)).trans ((Ad (k:=0) (z:=.bool k) (Nat.ne_of_lt ltNA)).trans (a0_)))
   replace a1_:=(Ad (k:=2) (z:=.string Q) (Nat.ne_of_lt ltNA)).trans ((Ad (k:=1) (z:=.string P) (Nat.ne_of_lt ltNA)).trans ((Ad (k:=0) (z:=.bool k) (Nat.ne_of_lt ltNA)).trans (a1_)))
   replace a2_:=(Ad (k:=2) (z:=.string Q) (Nat.ne_of_lt ltNA)).trans ((Ad (k:=1) (z:=.string P) (Nat.ne_of_lt ltNA)).trans ((Ad (k:=0) (z:=.bool k) (Nat.ne_of_lt ltNA)).trans (a2_)))
   replace d0_:=(Ad (k:=2) (z:=.string Q) (Nat.ne_of_lt ltND)).trans ((Ad (k:=1) (z:=.string P) (Nat.ne_of_lt ltND)).trans ((Ad (k:=0) (z:=.bool k) (Nat.ne_of_lt ltND)).trans (d0_)))
   replace d1_:=(Ad (k:=2) (z:=.string Q) (Nat.ne_of_lt ltND)).trans ((Ad (k:=1) (z:=.string P) (Nat.ne_of_lt ltND)).trans ((Ad (k:=0) (z:=.bool k) (Nat.ne_of_lt ltND)).trans (d1_)))
   replace d2_:=(Ad (k:=2) (z:=.string Q) (Nat.ne_of_lt ltND)).trans ((Ad (k:=1) (z:=.string P) (Nat.ne_of_lt ltND)).trans ((Ad (k:=0) (z:=.bool k) (Nat.ne_of_lt ltND)).trans (d2_)))
   replace CB:=jH (((CB.out.other (Nat.ne_of_lt ltNB) 0 (.bool k)).other (Nat.ne_of_lt ltNB) 1 (.string P)).other (Nat.ne_of_lt ltNB) 2 (.string Q))
   replace CA:=jH (((CA.out.other (Nat.ne_of_lt ltNA) 0 (.bool k)).other (Nat.ne_of_lt ltNA) 1 (.string P)).other (Nat.ne_of_lt ltNA) 2 (.string Q))
   replace CD:=jH (((CD.out.other (Nat.ne_of_lt ltND) 0 (.bool k)).other (Nat.ne_of_lt ltND) 1 (.string P)).other (Nat.ne_of_lt ltND) 2 (.string Q))
   replace CN:=jH (CN.out.set k P Q)
   replace ZN:=jH (((ZN.out.setCell (p:=⟨N,0,none⟩) (show _<=N by omega) (.bool k)).setCell (p:=⟨N,1,none⟩) (show _<=N by omega) (.string P)).setCell (p:=⟨N,2,none⟩) (show _<=N by omega) (.string Q))
   replace K:=jH (YN.out.next ZN.out)
   clear ZN
   clear hHeld
   refine hK.out _ _ ?_ (λhHeld=>?_)
   ·exact ⟨m0,m1,m2,t0,t1,t2,t3,a0_,a1_,a2_,d0_,d1_,d2_⟩
   clear hK K_
   refine Ai 9 10 (v:=?_) rfl rfl (by kernel_rfl) (by kernel_rfl) (by kernel_rfl) (λ_ _ _ h=>h) (Or.inl ⟨by rfl,?_⟩) (by assumption) ?_
   rotate_left
   ·intro w hSw
    (try dsimp only at hSw)
    go_simp
    first | done | with_reducible rfl
   simp only [Act.put,List.setIfInBounds_toArray,List.set_cons_zero,List.set_cons_succ]
   refine wpAnyH_done (by kernel_rfl) ?_ _
   go_wp2_with fail
   go_meet
   exact ⟨N,rfl,rfl,jH ⟨K.out,CB.out,CA.out,CD.out,CN.out⟩⟩
 case rest =>
  obtain ⟨N,rfl,rfl,HX⟩:=hcut
  clear m0 m1 m2 t0 t1 t2 t3 a0_ a1_ a2_ d0_ d1_ d2_ K CB CA CD
  have K:=jH HX.out.1
  have CB:=jH HX.out.2.1
  have CA:=jH HX.out.2.2.1
  have CD:=jH HX.out.2.2.2.1
  have CN:=jH HX.out.2.2.2.2
  clear HX
  obtain ⟨-,t0,t1,t2,t3⟩:=K.out.held
  obtain ⟨m0,m1,m2⟩:=CB.out.all
  obtain ⟨a0_,a1_,a2_⟩:=CA.out.all
  obtain ⟨d0_,d1_,d2_⟩:=CD.out.all
  obtain ⟨n0,n1,n2⟩:=CN.out.all
  go_upto_region 9 with (fail)
  go_cut [41] (λs41 wx=>s41=.bool false/\Hid (Kept w S b0 b1 b2 b3 wx/\PAt B n x y wx/\PAt A true ⟨#[]⟩ ⟨#[]⟩ wx/\PAt D true ⟨#[]⟩ ⟨#[]⟩ wx))
  case first =>
   by_cases hF:F=0
   ·subst hF
    obtain rfl:=HK.out rfl
    go_wp2_with fail
    go_meet
    exact ⟨by first | rfl | simp,jH ⟨K.out,CB.out,CA.out,CD.out⟩⟩
   ·have f1:(F == 0)=false:=by simpa using hF
    clear hF
    go_wp2_with fail
    go_meet
    exact ⟨by first | rfl | simp,jH ⟨K.out,CB.out,CA.out,CD.out⟩⟩
  case rest =>
   obtain ⟨rfl,HX⟩:=hcut
   clear t0 t1 t2 t3 m0 m1 m2 a0_ a1_ a2_ d0_ d1_ d2_ n0 n1 n2 K CB CA CD CN
   have K:=jH HX.out.1
   have CB:=jH HX.out.2.1
   have CA:=jH HX.out.2.2.1
   have CD:=jH HX.out.2.2.2
   clear HX
   obtain ⟨-,t0,t1,t2,t3⟩:=K.out.held
   obtain ⟨m0,m1,m2⟩:=CB.out.all
   obtain ⟨a0_,a1_,a2_⟩:=CA.out.all
   obtain ⟨d0_,d1_,d2_⟩:=CD.out.all
   have hpn:=HN.out
   go_wp2
   replace t0:(World.drew wc).cell? ⟨S,0,none⟩=some (.slice (some ⟨b0,0,none⟩) 74 74):=t0
   replace t1:(World.drew wc).cell? ⟨S,1,none⟩=some (.slice (some ⟨b1,0,none⟩) 10 10):=t1
   replace t2:(World.drew wc).cell? ⟨S,2,none⟩=some (.slice (some ⟨b2,0,none⟩) 11 11):=t2
   replace t3:(World.drew wc).cell? ⟨S,3,none⟩=some (.slice (some ⟨b3,0,none⟩) 42 42):=t3
   replace m0:(World.drew wc).cell? ⟨B,0,none⟩=some (.bool n):=m0
   replace m1:(World.drew wc).cell? ⟨B,1,none⟩=some (.string x):=m1
   replace m2:(World.drew wc).cell? ⟨B,2,none⟩=some (.string y):=m2
   replace a0_:(World.drew wc).cell? ⟨A,0,none⟩=some (.bool true):=a0_
   replace a1_:(World.drew wc).cell? ⟨A,1,none⟩=some (.string ⟨#[]⟩):=a1_
   replace a2_:(World.drew wc).cell? ⟨A,2,none⟩=some (.string ⟨#[]⟩):=a2_
   replace d0_:(World.drew wc).cell? ⟨D,0,none⟩=some (.bool true):=d0_
   replace d1_:(World.drew wc).cell? ⟨D,1,none⟩=some (.string ⟨#[]⟩):=d1_
   replace d2_:(World.drew wc).cell? ⟨D,2,none⟩=some (.string ⟨#[]⟩):=d2_
   replace K:=jH K.out.drew
   replace CB:=jH (CB.out.Ac (Below.refl _ _).drew)
   replace CA:=jH (CA.out.Ac (Below.refl _ _).drew)
   replace CD:=jH (CD.out.Ac (Below.refl _ _).drew)
   refine wp_region_held_drew (S:=(λw':World=>w'.cell? ⟨S,0,none⟩=some (.slice (some ⟨b0,0,none⟩) 74 74)/\w'.cell? ⟨S,1,none⟩=some (.slice (some ⟨b1,0,none⟩) 10 10)/\w'.cell? ⟨S,2,none⟩=some (.slice (some ⟨b2,0,none⟩) 11 11)/\w'.cell? ⟨S,3,none⟩=some (.slice (some ⟨b3,0,none⟩) 42 42)/\w'.cell? ⟨B,0,none⟩=some (.bool n)/\w'.cell? ⟨B,1,none⟩=some (.string x)/\w'.cell? ⟨B,2,none⟩=some (.string y)/\w'.cell? ⟨A,0,none⟩=some (.bool true)/\w'.cell? ⟨A,1,none⟩=some (.string ⟨#[]⟩)/\w'.cell? ⟨A,2,none⟩=some (.string ⟨#[]⟩)/\w'.cell? ⟨D,0,none⟩=some (.bool true)/\w'.cell? ⟨D,1,none⟩=some (.string ⟨#[]⟩)/\w'.cell? ⟨D,2,none⟩=some (.string ⟨#[]⟩))) (by kernel_rfl) ?_ (λhHeld=>?_)
   ·exact ⟨t0,t1,t2,t3,m0,m1,m2,a0_,a1_,a2_,d0_,d1_,d2_⟩
   generalize hwd:(World.drew wc)=d5 at t0 t1 t2 t3 m0 m1 m2 a0_ a1_ a2_ d0_ d1_ d2_ CB CA CD K hHeld ⊢
   clear hwd
   refine Ai 0 42 (v:=?_) rfl rfl (by kernel_rfl) (by kernel_rfl) (by kernel_rfl) (λ_ _ _ h=>h) (Or.inl ⟨by rfl,?_⟩) (by assumption) ?_
   rotate_left
   ·intro w hSw
    (try dsimp only at hSw)
    go_simp
    first | done | with_reducible rfl | exact HQ.out _
   simp only [Act.put,List.setIfInBounds_toArray,List.set_cons_zero,List.set_cons_succ]
   refine Ai 1 43 (v:=?_) rfl rfl (by kernel_rfl) (by kernel_rfl) (by kernel_rfl) (λ_ _ _ h=>h) (Or.inl ⟨by rfl,?_⟩) (by assumption) ?_
   rotate_left
   ·intro w hSw
    (try dsimp only at hSw)
    go_simp
    first | done | with_reducible rfl | exact HQ.out _
   simp only [Act.put,List.setIfInBounds_toArray,List.set_cons_zero,List.set_cons_succ]
   refine Ai 2 44 (v:=?_) rfl rfl (by kernel_rfl) (by kernel_rfl) (by kernel_rfl) (λ_ _ _ h=>h) (Or.inl ⟨by rfl,?_⟩) (by assumption) ?_
   rotate_left
   ·intro w hSw
    (try dsimp only at hSw)
    go_simp
    first | done | with_reducible rfl | exact HQ.out _
   simp only [Act.put,List.setIfInBounds_toArray,List.set_cons_zero,List.set_cons_succ]
   refine Ai 3 45 (v:=?_) rfl rfl (by kernel_rfl) (by kernel_rfl) (by kernel_rfl) (λ_ _ _ h=>h) (Or.inl ⟨by rfl,?_⟩) (by assumption) ?_
   rotate_left
   ·intro w hSw
    (try dsimp only at hSw)
    go_simp
    first | done | with_reducible rfl | exact HQ.out _
   simp only [Act.put,List.setIfInBounds_toArray,List.set_cons_zero,List.set_cons_succ]
   refine Ai 4 46 (v:=?_) rfl rfl (by kernel_rfl) (by kernel_rfl) (by kernel_rfl) (λ_ _ _ h=>h) (Or.inl ⟨by rfl,?_⟩) (by assumption) ?_
   rotate_left
   ·intro w hSw
    (try dsimp only at hSw)
    go_simp
    first | done | with_reducible rfl | exact HQ.out _
   simp only [Act.put,List.setIfInBounds_toArray,List.set_cons_zero,List.set_cons_succ]
   refine Ai 6 48 (v:=?_) rfl rfl (by kernel_rfl) (by kernel_rfl) (by kernel_rfl) (λ_ _ _ h=>h) (Or.inl ⟨by rfl,?_⟩) (by assumption) ?_
   rotate_left
   ·intro w hSw
    (try dsimp only at hSw)
    go_simp
    first | done | with_reducible rfl | exact HQ.out _
   simp only [Act.put,List.setIfInBounds_toArray,List.set_cons_zero,List.set_cons_succ]
   refine Ai 7 49 (v:=?_) rfl rfl (by kernel_rfl) (by kernel_rfl) (by kernel_rfl) (λ_ _ _ h=>h) (Or.inl ⟨by rfl,?_⟩) (by assumption) ?_
   rotate_left
   ·intro w hSw
    (try dsimp only at hSw)
    go_simp
    first | done | with_reducible rfl | exact HQ.out _
   simp only [Act.put,List.setIfInBounds_toArray,List.set_cons_zero,List.set_cons_succ]
   refine Ai 8 50 (v:=?_) rfl rfl (by kernel_rfl) (by kernel_rfl) (by kernel_rfl) (λ_ _ _ h=>h) (Or.inl ⟨by rfl,?_⟩) (by assumption) ?_
   rotate_left
   ·intro w hSw
    (try dsimp only at hSw)
    go_simp
    first | done | with_reducible rfl | exact HQ.out _
   simp only [Act.put,List.setIfInBounds_toArray,List.set_cons_zero,List.set_cons_succ]
   refine wpAnyH_ready (rs:=[5]) (by kernel_rfl) (by simp) ?_
   refine AllReadyH.cons (o:={ dst:=some 47,op:=.call { callee:=.value (.func 34),args:=#[.tmp 44,.tmp 45,.tmp 46],argTypes:=#[31,53,53] },type:=_,pos := "law.go:89", after:=_,guard:=some (1,true) }) rfl (λK_ hK=>?_) AllReadyH.nil
   (try go_simp)
   go_at_call 34
   refine (KS.out _ _ K.out.table).mono ?_
   rintro e w6 ⟨rfl,hb⟩
   replace t0:=Kc hb t0
   replace t1:=Kc hb t1
   replace t2:=Kc hb t2
   replace t3:=Kc hb t3
   replace m0:=Kc hb m0
   replace m1:=Kc hb m1
   replace m2:=Kc hb m2
   replace a0_:=(hb.cell (p:=⟨A,0,none⟩) (World.block_lt_of_cell? _ _ a0_)).trans a0_
   replace a1_:=(hb.cell (p:=⟨A,1,none⟩) (World.block_lt_of_cell? _ _ a1_)).trans a1_
   replace a2_:=(hb.cell (p:=⟨A,2,none⟩) (World.block_lt_of_cell? _ _ a2_)).trans a2_
   replace d0_:=(hb.cell (p:=⟨D,0,none⟩) (World.block_lt_of_cell? _ _ d0_)).trans d0_
   replace d1_:=(hb.cell (p:=⟨D,1,none⟩) (World.block_lt_of_cell? _ _ d1_)).trans d1_
   replace d2_:=(hb.cell (p:=⟨D,2,none⟩) (World.block_lt_of_cell? _ _ d2_)).trans d2_
   replace CB:=jH (CB.out.Ac hb)
   replace CA:=jH (CA.out.Ac hb)
   replace CD:=jH (CD.out.Ac hb)
   replace K:=jH (K.out.next hb)
   clear hb
   go_wp2_with fail
   clear hHeld
   refine hK.out _ _ ?_ (λhHeld=>?_)
   ·exact ⟨t0,t1,t2,t3,m0,m1,m2,a0_,a1_,a2_,d0_,d1_,d2_⟩
   clear hK K_
   refine Ai 9 51 (v:=?_) rfl rfl (by kernel_rfl) (by kernel_rfl) (by kernel_rfl) (λ_ _ _ h=>h) (Or.inl ⟨by rfl,?_⟩) (by assumption) ?_
   rotate_left
   ·intro w hSw
    (try dsimp only at hSw)
    go_simp
    first | done | with_reducible rfl | exact HQ.out _
   simp only [Act.put,List.setIfInBounds_toArray,List.set_cons_zero,List.set_cons_succ]
   refine Ai 10 52 (v:=?_) rfl rfl (by kernel_rfl) (by kernel_rfl) (by kernel_rfl) (λ_ _ _ h=>h) (Or.inl ⟨by rfl,?_⟩) (by assumption) ?_
   rotate_left
   ·intro w hSw
    (try dsimp only at hSw)
    go_simp
    first | done | with_reducible rfl | exact HQ.out _
   simp only [Act.put,List.setIfInBounds_toArray,List.set_cons_zero,List.set_cons_succ]
   refine Ai 11 53 (v:=?_) rfl rfl (by kernel_rfl) (by kernel_rfl) (by kernel_rfl) (λ_ _ _ h=>h) (Or.inl ⟨by rfl,?_⟩) (by assumption) ?_
   rotate_left
   ·intro w hSw
    (try dsimp only at hSw)
    go_simp
    first | done | with_reducible rfl | exact HQ.out _
   simp only [Act.put,List.setIfInBounds_toArray,List.set_cons_zero,List.set_cons_succ]
   refine Ai 12 54 (v:=?_) rfl rfl (by kernel_rfl) (by kernel_rfl) (by kernel_rfl) (λ_ _ _ h=>h) (Or.inl ⟨by rfl,?_⟩) (by assumption) ?_
   rotate_left
   ·intro w hSw
    (try dsimp only at hSw)
    go_simp
    first | done | with_reducible rfl | exact HQ.out _
   simp only [Act.put,List.setIfInBounds_toArray,List.set_cons_zero,List.set_cons_succ]
   refine Ai 13 55 (v:=?_) rfl rfl (by kernel_rfl) (by kernel_rfl) (by kernel_rfl) (λ_ _ _ h=>h) (Or.inl ⟨by rfl,?_⟩) (by assumption) ?_
   rotate_left
   ·intro w hSw
    (try dsimp only at hSw)
    go_simp
    first | done | with_reducible rfl | exact HQ.out _
   simp only [Act.put,List.setIfInBounds_toArray,List.set_cons_zero,List.set_cons_succ]
   refine Ai 14 56 (v:=?_) rfl rfl (by kernel_rfl) (by kernel_rfl) (by kernel_rfl) (λ_ _ _ h=>h) (Or.inl ⟨by rfl,?_⟩) (by assumption) ?_
   rotate_left
   ·intro w hSw
    (try dsimp only at hSw)
    go_simp
    first | done | with_reducible rfl | exact HQ.out _
   simp only [Act.put,List.setIfInBounds_toArray,List.set_cons_zero,List.set_cons_succ]
   refine Ai 15 57 (v:=?_) rfl rfl (by kernel_rfl) (by kernel_rfl) (by kernel_rfl) (λ_ _ _ h=>h) (Or.inl ⟨by rfl,?_⟩) (by assumption) ?_
   rotate_left
   ·intro w hSw
    (try dsimp only at hSw)
    go_simp
    first | done | with_reducible rfl | exact HQ.out _
   simp only [Act.put,List.setIfInBounds_toArray,List.set_cons_zero,List.set_cons_succ]
   refine Ai 16 58 (v:=?_) rfl rfl (by kernel_rfl) (by kernel_rfl) (by kernel_rfl) (λ_ _ _ h=>h) (Or.inl ⟨by rfl,?_⟩) (by assumption) ?_
   rotate_left
   ·intro w hSw
    (try dsimp only at hSw)
    go_simp
    first | done | with_reducible rfl | exact HQ.out _
   simp only [Act.put,List.setIfInBounds_toArray,List.set_cons_zero,List.set_cons_succ]
   refine Ai 17 59 (v:=?_) rfl rfl (by kernel_rfl) (by kernel_rfl) (by kernel_rfl) (λ_ _ _ h=>h) (Or.inl ⟨by rfl,?_⟩) (by assumption) ?_
   rotate_left
   ·intro w hSw
    (try dsimp only at hSw)
    go_simp
    first | done | with_reducible rfl | exact HQ.out _
   simp only [Act.put,List.setIfInBounds_toArray,List.set_cons_zero,List.set_cons_succ]
   refine Ai 18 60 (v:=?_) rfl rfl (by kernel_rfl) (by kernel_rfl) (by kernel_rfl) (λ_ _ _ h=>h) (Or.inl ⟨by rfl,?_⟩) (by assumption) ?_
   rotate_left
   ·intro w hSw
    (try dsimp only at hSw)
    go_simp
    first | done | with_reducible rfl | exact HQ.out _
   simp only [Act.put,List.setIfInBounds_toArray,List.set_cons_zero,List.set_cons_succ]
   refine Ai 19 61 (v:=?_) rfl rfl (by kernel_rfl) (by kernel_rfl) (by kernel_rfl) (λ_ _ _ h=>h) (Or.inl ⟨by rfl,?_⟩) (by assumption) ?_
   rotate_left
   ·intro w hSw
    (try dsimp only at hSw)
    go_simp
    first | done | with_reducible rfl | exact HQ.out _
   simp only [Act.put,List.setIfInBounds_toArray,List.set_cons_zero,List.set_cons_succ]
   refine Ai 20 62 (v:=?_) rfl rfl (by kernel_rfl) (by kernel_rfl) (by kernel_rfl) (λ_ _ _ h=>h) (Or.inl ⟨by rfl,?_⟩) (by assumption) ?_
   rotate_left
   ·intro w hSw
    (try dsimp only at hSw)
    go_simp
    first | done | with_reducible rfl | exact HQ.out _
   simp only [Act.put,List.setIfInBounds_toArray,List.set_cons_zero,List.set_cons_succ]
   refine Ai 21 63 (v:=?_) rfl rfl (by kernel_rfl) (by kernel_rfl) (by kernel_rfl) (λ_ _ _ h=>h) (Or.inl ⟨by rfl,?_⟩) (by assumption) ?_
   rotate_left
   ·intro w hSw
    (try dsimp only at hSw)
    go_simp
    first | done | with_reducible rfl | exact HQ.out _
   simp only [Act.put,List.setIfInBounds_toArray,List.set_cons_zero,List.set_cons_succ]
   refine Ai 22 64 (v:=?_) rfl rfl (by kernel_rfl) (by kernel_rfl) (by kernel_rfl) (λ_ _ _ h=>h) (Or.inl ⟨by rfl,?_⟩) (by assumption) ?_
   rotate_left
   ·intro w hSw
    (try dsimp only at hSw)
    go_simp
    first | done | with_reducible rfl | exact HQ.out _
   simp only [Act.put,List.setIfInBounds_toArray,List.set_cons_zero,List.set_cons_succ]
   refine Ai 24 66 (v:=?_) rfl rfl (by kernel_rfl) (by kernel_rfl) (by kernel_rfl) (λ_ _ _ h=>h) (Or.inl ⟨by rfl,?_⟩) (by assumption) ?_
   rotate_left
   ·intro w hSw
    (try dsimp only at hSw)
    go_simp
    first | done | with_reducible rfl | exact HQ.out _
   simp only [Act.put,List.setIfInBounds_toArray,List.set_cons_zero,List.set_cons_succ]
   refine wpAnyH_ready (rs:=[23]) (by kernel_rfl) (by simp) ?_
   refine AllReadyH.cons (o:={ dst:=some 65,op:=.call { callee:=.value (.func 33),args:=#[.tmp 63,.tmp 64],argTypes:=#[31,53] },type:=_,pos := "law.go:89", after:=_,guard:=some (20,true) }) rfl (λK_ hK=>?_) AllReadyH.nil
   (try go_simp)
   go_at_call 33
   refine (KC.out _ _ K.out.table).mono ?_
   rintro e w7 ⟨rfl,hb⟩
   replace t0:=Kc hb t0
   replace t1:=Kc hb t1
   replace t2:=Kc hb t2
   replace t3:=Kc hb t3
   replace m0:=Kc hb m0
   replace m1:=Kc hb m1
   replace m2:=Kc hb m2
   replace a0_:=(hb.cell (p:=⟨A,0,none⟩) (World.block_lt_of_cell? _ _ a0_)).trans a0_
   replace a1_:=(hb.cell (p:=⟨A,1,none⟩) (World.block_lt_of_cell? _ _ a1_)).trans a1_
   replace a2_:=(hb.cell (p:=⟨A,2,none⟩) (World.block_lt_of_cell? _ _ a2_)).trans a2_
   replace d0_:=(hb.cell (p:=⟨D,0,none⟩) (World.block_lt_of_cell? _ _ d0_)).trans d0_
   replace d1_:=(hb.cell (p:=⟨D,1,none⟩) (World.block_lt_of_cell? _ _ d1_)).trans d1_
   replace d2_:=(hb.cell (p:=⟨D,2,none⟩) (World.block_lt_of_cell? _ _ d2_)).trans d2_
   replace CB:=jH (CB.out.Ac hb)
   replace CA:=jH (CA.out.Ac hb)
   replace CD:=jH (CD.out.Ac hb)
   replace K:=jH (K.out.next hb)
   clear hb
   go_wp2_with fail
   clear hHeld
   refine hK.out _ _ ?_ (λhHeld=>?_)
   ·exact ⟨t0,t1,t2,t3,m0,m1,m2,a0_,a1_,a2_,d0_,d1_,d2_⟩
   clear hK K_
   refine Ai 25 67 (v:=?_) rfl rfl (by kernel_rfl) (by kernel_rfl) (by kernel_rfl) (λ_ _ _ h=>h) (Or.inl ⟨by rfl,?_⟩) (by assumption) ?_
   rotate_left
   ·intro w hSw
    (try dsimp only at hSw)
    go_simp
    first | done | with_reducible rfl | exact HQ.out _
   simp only [Act.put,List.setIfInBounds_toArray,List.set_cons_zero,List.set_cons_succ]
   refine Ai 26 68 (v:=?_) rfl rfl (by kernel_rfl) (by kernel_rfl) (by kernel_rfl) (λ_ _ _ h=>h) (Or.inl ⟨by rfl,?_⟩) (by assumption) ?_
   rotate_left
   ·intro w hSw
    (try dsimp only at hSw)
    go_simp
    first | done | with_reducible rfl | exact HQ.out _
   simp only [Act.put,List.setIfInBounds_toArray,List.set_cons_zero,List.set_cons_succ]
   refine Ai 27 69 (v:=?_) rfl rfl (by kernel_rfl) (by kernel_rfl) (by kernel_rfl) (λ_ _ _ h=>h) (Or.inl ⟨by rfl,?_⟩) (by assumption) ?_
   rotate_left
   ·intro w hSw
    (try dsimp only at hSw)
    go_simp
    first | done | with_reducible rfl | exact HQ.out _
   simp only [Act.put,List.setIfInBounds_toArray,List.set_cons_zero,List.set_cons_succ]
   refine Ai 28 70 (v:=?_) rfl rfl (by kernel_rfl) (by kernel_rfl) (by kernel_rfl) (λ_ _ _ h=>h) (Or.inl ⟨by rfl,?_⟩) (by assumption) ?_
   rotate_left
   ·intro w hSw
    (try dsimp only at hSw)
    go_simp
    first | done | with_reducible rfl | exact HQ.out _
   simp only [Act.put,List.setIfInBounds_toArray,List.set_cons_zero,List.set_cons_succ]
   refine Ai 31 73 (v:=?_) rfl rfl (by kernel_rfl) (by kernel_rfl) (by kernel_rfl) (λ_ _ _ h=>h) (Or.inl ⟨by rfl,?_⟩) (by assumption) ?_
   rotate_left
   ·intro w hSw
    (try dsimp only at hSw)
    go_simp
    first | done | with_reducible rfl | exact HQ.out _
   simp only [Act.put,List.setIfInBounds_toArray,List.set_cons_zero,List.set_cons_succ]
   refine Ai 32 74 (v:=?_) rfl rfl (by kernel_rfl) (by kernel_rfl) (by kernel_rfl) (λ_ _ _ h=>h) (Or.inl ⟨by rfl,?_⟩) (by assumption) ?_
   rotate_left
   ·intro w hSw
    (try dsimp only at hSw)
    go_simp
    first | done | with_reducible rfl | exact HQ.out _
   simp only [Act.put,List.setIfInBounds_toArray,List.set_cons_zero,List.set_cons_succ]
   refine wpAnyH_ready (rs:=[29]) (by kernel_rfl) (by simp) ?_
   refine AllReadyH.cons (o:={ dst:=some 71,op:=.call { callee:=.value (.func 31),args:=#[.tmp 70],argTypes:=#[53] },type:=_,pos := "law.go:89", after:=_,guard:=some (27,true) }) rfl (λK_ hK=>?_) AllReadyH.nil
   (try go_simp)
   go_at_call 31
   refine (KPM.out _).mono ?_
   rintro e w8 ⟨rfl,hb⟩
   replace t0:=Kc hb t0
   replace t1:=Kc hb t1
   replace t2:=Kc hb t2
   replace t3:=Kc hb t3
   replace m0:=Kc hb m0
   replace m1:=Kc hb m1
   replace m2:=Kc hb m2
   replace a0_:=(hb.cell (p:=⟨A,0,none⟩) (World.block_lt_of_cell? _ _ a0_)).trans a0_
   replace a1_:=(hb.cell (p:=⟨A,1,none⟩) (World.block_lt_of_cell? _ _ a1_)).trans a1_
   replace a2_:=(hb.cell (p:=⟨A,2,none⟩) (World.block_lt_of_cell? _ _ a2_)).trans a2_
   replace d0_:=(hb.cell (p:=⟨D,0,none⟩) (World.block_lt_of_cell? _ _ d0_)).trans d0_
   replace d1_:=(hb.cell (p:=⟨D,1,none⟩) (World.block_lt_of_cell? _ _ d1_)).trans d1_
   replace d2_:=(hb.cell (p:=⟨D,2,none⟩) (World.block_lt_of_cell? _ _ d2_)).trans d2_
   replace CB:=jH (CB.out.Ac hb)
   replace CA:=jH (CA.out.Ac hb)
   replace CD:=jH (CD.out.Ac hb)
   replace K:=jH (K.out.next hb)
   clear hb
   go_wp2_with fail
   clear hHeld
   refine hK.out _ _ ?_ (λhHeld=>?_)
   ·exact ⟨t0,t1,t2,t3,m0,m1,m2,a0_,a1_,a2_,d0_,d1_,d2_⟩
   clear hK K_
   refine Ai 30 72 (v:=?_) rfl rfl (by kernel_rfl) (by kernel_rfl) (by kernel_rfl) (λ_ _ _ h=>h) (Or.inl ⟨by rfl,?_⟩) (by assumption) ?_
   rotate_left
   ·intro w hSw
    (try dsimp only at hSw)
    go_simp
    first | done | with_reducible rfl | exact HQ.out _
   simp only [Act.put,List.setIfInBounds_toArray,List.set_cons_zero,List.set_cons_succ]
   refine Ai 33 75 (v:=?_) rfl rfl (by kernel_rfl) (by kernel_rfl) (by kernel_rfl) (λ_ _ _ h=>h) (Or.inl ⟨by rfl,?_⟩) (by assumption) ?_
   rotate_left
   ·intro w hSw
    (try dsimp only at hSw)
    go_simp
    first | done | with_reducible rfl | exact HQ.out _
   simp only [Act.put,List.setIfInBounds_toArray,List.set_cons_zero,List.set_cons_succ]
   refine Ai 34 76 (v:=?_) rfl rfl (by kernel_rfl) (by kernel_rfl) (by kernel_rfl) (λ_ _ _ h=>h) (Or.inl ⟨by rfl,?_⟩) (by assumption) ?_
   rotate_left
   ·intro w hSw
    (try dsimp only at hSw)
    go_simp
    first | done | with_reducible rfl | exact HQ.out _
   simp only [Act.put,List.setIfInBounds_toArray,List.set_cons_zero,List.set_cons_succ]
   refine Ai 35 2 (v:=?_) rfl rfl (by kernel_rfl) (by kernel_rfl) (by kernel_rfl) (λ_ _ _ h=>h) (Or.inl ⟨by rfl,?_⟩) (by assumption) ?_
   rotate_left
   ·intro w hSw
    (try dsimp only at hSw)
    go_simp
    first | done | with_reducible rfl | exact HQ.out _
   simp only [Act.put,List.setIfInBounds_toArray,List.set_cons_zero,List.set_cons_succ]
   refine wpAnyH_done (by kernel_rfl) ?_ _
   go_wp2
   go_ret
   exact ⟨rfl,K.out.below⟩
end Go.Proofs.YtpcgbgfpnhiihaaGreatDoor
