import Derived.Test.YtppmbilonaflfaaGreatDoorMbxSmall
import Derived.Test.YtppmbilonaflfaaGreatDoorMbxFits
namespace Go.Proofs.YtppmbilonaflfaaGreatDoor
open Go.RowKit Utf
set_option maxHeartbeats 16000000 in
set_option maxRecDepth 100000 in
theorem Afc (x y s:ByteArray) (w:World):Calls Tryz.prog 5 #[.agg #[.string x,.string y],.string s] w λe w'=>e=.returned (.bool true)/\Below w.heap.size w w':=by
 by_cases hf:x.size<=150/\y.size<=200
 case neg =>
  have BB:=Lib.hid (Below.refl w.heap.size w)
  go_enter Tryz.func5,Tryz.ntmps5
  obtain ⟨B,hB⟩:∃ N,w.heap.size=N:=⟨_,rfl⟩
  have hb:=Ab w (.cells #[.string x,.string y] 23)
  replace BB:=Lib.hid (Aa BB.out hb)
  clear hb
  have CB:=Lib.hid (show CAt B x y (w.alloc (.cells #[.string x,.string y] 23)) from hB ▸ CAt.new w x y)
  have m0:=CB.out.c0
  have m1:=CB.out.c1
  go_wp2_with fail
  refine (Ar _).mono ?_
  rintro e w1 ⟨rfl,hb⟩
  replace m0:=Kc hb m0
  replace m1:=Kc hb m1
  replace CB:=Lib.hid (CB.out.Ac hb)
  replace BB:=Lib.hid (Aa BB.out hb)
  clear hb
  go_wp2_with fail
  refine (Ade x y _ hf).mono ?_
  rintro e w2 ⟨rfl,hb⟩
  replace m0:=Kc hb m0
  replace m1:=Kc hb m1
  replace CB:=Lib.hid (CB.out.Ac hb)
  replace BB:=Lib.hid (Aa BB.out hb)
  clear hb
  go_wp2
  go_ret
  exact ⟨rfl,BB.out⟩
 obtain ⟨hx,hy⟩:=hf
 by_cases hs:s.size<=300
 case neg =>
  have hz:(300:Int)<(s.size:Int):=by omega
  have BB:=Lib.hid (Below.refl w.heap.size w)
  go_enter Tryz.func5,Tryz.ntmps5
  obtain ⟨B,hB⟩:∃ N,w.heap.size=N:=⟨_,rfl⟩
  have hb:=Ab w (.cells #[.string x,.string y] 23)
  replace BB:=Lib.hid (Aa BB.out hb)
  clear hb
  have CB:=Lib.hid (show CAt B x y (w.alloc (.cells #[.string x,.string y] 23)) from hB ▸ CAt.new w x y)
  have m0:=CB.out.c0
  have m1:=CB.out.c1
  go_wp2_with fail
  refine (Ar _).mono ?_
  rintro e w1 ⟨rfl,hb⟩
  replace m0:=Kc hb m0
  replace m1:=Kc hb m1
  replace CB:=Lib.hid (CB.out.Ac hb)
  replace BB:=Lib.hid (Aa BB.out hb)
  clear hb
  go_wp2_with fail
  refine (Di x y _ hx hy).mono ?_
  rintro e w2 ⟨rfl,hb⟩
  replace m0:=Kc hb m0
  replace m1:=Kc hb m1
  replace CB:=Lib.hid (CB.out.Ac hb)
  replace BB:=Lib.hid (Aa BB.out hb)
  clear hb
  go_wp2
  go_ret
  exact ⟨rfl,BB.out⟩
 have hz:¬ (300:Int)<(s.size:Int):=by omega
 have LX:=Lib.hid (D5 (s:=x) (by omega))
 have LY:=Lib.hid (D5 (s:=y) (by omega))
 have hxl:x.data.toList.length=x.size:=by simp
 have hyl:y.data.toList.length=y.size:=by simp
 have hsl:s.data.toList.length=s.size:=by simp
 obtain ⟨E,hE⟩:∃ E,Mbx.Bo x.data.toList y.data.toList=E:=⟨_,rfl⟩
 obtain ⟨pm,hpm⟩:∃ pm,Mbx.F6 x.data.toList y.data.toList=pm:=⟨_,rfl⟩
 have HPM:=Lib.hid hpm
 have HE:=Lib.hid hE
 have HX:Hid ((⟨x.data.toList.toArray⟩:ByteArray)=x):=Lib.hid rfl
 have HY:Hid ((⟨y.data.toList.toArray⟩:ByteArray)=y):=Lib.hid rfl
 have KB:Hid (E=0->∀ t W,Table W t->Calls Tryz.prog 21 #[t,.string ⟨pm.toArray⟩] W λe w'=>e=.returned (.tuple #[.agg #[.string x,.string y],.int .i64 0])/\Below W.heap.size W w'):=Lib.hid λh t W hT=>by
  subst h
  have h1:=Mbx.Tv hE (by omega)
  rw [hpm] at h1
  have h2:=Mbx.Ju hE
  have h3:pm.length<=400:=by
   rw [<- hpm]
   unfold Mbx.F6
   have:=Mbx.Ik x.data.toList
   rw [List.length_append,List.length_cons]
   omega
  have:=J0 t ⟨pm.toArray⟩ W hT (by show pm.toArray.size<=_;rw [List.size_toArray];exact h3) h1
  rwa [HX.out,HY.out] at this
 have KS:Hid (E=0->∀ t W,Table W t->Calls Tryz.prog 20 #[t,.agg #[.string x,.string y],.agg #[.string x,.string y]] W λe w'=>e=.returned (.bool true)/\Below W.heap.size W w'):=Lib.hid λh t W hT =>
  Qx t x y x y W hT LX.out LY.out LX.out LY.out (Mbx.Abe (by rw [hE];exact h) (by rw [hE];exact h) rfl rfl)
 obtain ⟨⟨F,p,q⟩,hp⟩:∃ r,Mbx.Eh s.data.toList=r:=⟨_,rfl⟩
 have HP:=Lib.hid hp
 have hpi:=Mbx.Auo hp
 obtain ⟨P,hP⟩:∃ P:ByteArray,P=⟨p.toArray⟩:=⟨_,rfl⟩
 obtain ⟨Q,hQ⟩:∃ Q:ByteArray,Q=⟨q.toArray⟩:=⟨_,rfl⟩
 obtain ⟨pp,hpp⟩:∃ pp,Mbx.F6 p q=pp:=⟨_,rfl⟩
 have KP:Hid (∀ t W,Table W t->Calls Tryz.prog 21 #[t,.string s] W λe w'=>e=.returned (.tuple #[.agg #[.string P,.string Q],.int .i64 F])/\Below W.heap.size W w'):=Lib.hid λt W hT=>by rw [hP,hQ];exact J0 t s W hT (by omega) hp
 have K0:F=0->p.length<=64/\q.length<=300/\Mbx.Bo p q=0:=λh=>by
  rcases hpi with ⟨h1,-⟩ | ⟨-,h1,h2⟩
  ·exact absurd h h1
  ·exact ⟨(Mbx.Ju h1).2.1,by omega,h1⟩
 have KPR:Hid (F=0->∀ W,Calls Tryz.prog 17 #[.agg #[.string P,.string Q]] W λe w'=>e=.returned (.string ⟨pp.toArray⟩)/\Below W.heap.size W w'):=Lib.hid λh W=>by
  obtain ⟨h1,h2,-⟩:=K0 h
  rw [hP,hQ]
  exact Gy _ _ W (by show p.toArray.size<=_;rw [List.size_toArray];omega) (by show q.toArray.size<=_;rw [List.size_toArray];omega) hpp
 have KPP:Hid (F=0->∀ t W,Table W t->Calls Tryz.prog 21 #[t,.string ⟨pp.toArray⟩] W λe w'=>e=.returned (.tuple #[.agg #[.string P,.string Q],.int .i64 0])/\Below W.heap.size W w'):=Lib.hid λh t W hT=>by
  obtain ⟨h1,h2,h3⟩:=K0 h
  have h4:=Mbx.Tv h3 (by omega)
  rw [hpp] at h4
  have h5:pp.length<=1000:=by
   rw [<- hpp]
   unfold Mbx.F6
   have:=Mbx.Ik p
   rw [List.length_append,List.length_cons]
   omega
  rw [hP,hQ]
  refine O8 t ⟨pp.toArray⟩ W hT (by show pp.toArray.size<=_;rw [List.size_toArray];omega) (λts x' y' n hl ht=>?_) h4
  have h6:=Mbx.T0 hl ht h4
  rw [h6]
  exact Ho (by omega)
 have KR:Hid (F=0->∀ t W,Table W t->Calls Tryz.prog 16 #[t,.agg #[.string P,.string Q]] W λe w'=>e=.returned (.int .i64 0)/\Below W.heap.size W w'):=Lib.hid λh t W hT=>by
  obtain ⟨h1,h2,h3⟩:=K0 h
  rw [hP,hQ]
  exact Cg t _ _ W hT (by show p.toArray.size<=_;rw [List.size_toArray];omega) (Ho (by omega)) h3
 have KZ:Hid (F ≠ 0->P=⟨#[]⟩/\Q=⟨#[]⟩):=Lib.hid λh=>by
  rcases hpi with ⟨-,h1,h2⟩ | ⟨h1,-⟩
  ·rw [hP,hQ,h1,h2];exact ⟨rfl,rfl⟩
  ·exact absurd h1 h
 clear hE hpm hp hpi hP hQ hpp K0 HX HY HP hxl hyl hsl
 by_cases hF:F=0
 ·subst hF
  replace KPR:=Lib.hid (KPR.out rfl)
  replace KPP:=Lib.hid (KPP.out rfl)
  replace KR:=Lib.hid (KR.out rfl)
  by_cases h0:E=0
  ·subst h0
   replace KB:=Lib.hid (KB.out rfl)
   replace KS:=Lib.hid (KS.out rfl)
   have BB:=Lib.hid (Below.refl w.heap.size w)
   go_enter Tryz.func5,Tryz.ntmps5
   obtain ⟨B,hB⟩:∃ N,w.heap.size=N:=⟨_,rfl⟩
   have hb:=Ab w (.cells #[.string x,.string y] 23)
   replace BB:=Lib.hid (Aa BB.out hb)
   clear hb
   have CB:=Lib.hid (show CAt B x y (w.alloc (.cells #[.string x,.string y] 23)) from hB ▸ CAt.new w x y)
   have m0:=CB.out.c0
   have m1:=CB.out.c1
   go_wp2_with fail
   refine (Ar _).mono ?_
   rintro e w1 ⟨rfl,hb⟩
   replace m0:=Kc hb m0
   replace m1:=Kc hb m1
   replace CB:=Lib.hid (CB.out.Ac hb)
   replace BB:=Lib.hid (Aa BB.out hb)
   clear hb
   go_wp2_with fail
   refine (Di x y _ hx hy).mono ?_
   rintro e w2 ⟨rfl,hb⟩
   replace m0:=Kc hb m0
   replace m1:=Kc hb m1
   replace CB:=Lib.hid (CB.out.Ac hb)
   replace BB:=Lib.hid (Aa BB.out hb)
   clear hb
   go_wp2_with fail
   refine (Dz _).mono ?_
   rintro e w3 ⟨tt,rfl,hT,hb⟩
   obtain ⟨b0,b1,b2,b3,rfl,-,-,-,-⟩:=id hT
   replace m0:=Kc hb m0
   replace m1:=Kc hb m1
   replace CB:=Lib.hid (CB.out.Ac hb)
   replace BB:=Lib.hid (Aa BB.out hb)
   have K:=Lib.hid (Cw (b0:=b0) (b1:=b1) (b2:=b2) (b3:=b3) BB.out hT 31)
   clear hT hb BB
   obtain ⟨S,hS⟩:∃ N,w3.heap.size=N:=⟨_,rfl⟩
   rw [hS] at K
   have hb:=Ab w3 (.cells #[.slice (some ⟨b0,0,none⟩) 74 74,.slice (some ⟨b1,0,none⟩) 10 10,.slice (some ⟨b2,0,none⟩) 11 11,.slice (some ⟨b3,0,none⟩) 42 42] 31)
   replace m0:=Kc hb m0
   replace m1:=Kc hb m1
   replace CB:=Lib.hid (CB.out.Ac hb)
   clear hb
   obtain ⟨-,t0,t1,t2,t3⟩:=K.out.held
   go_wp2_with fail
   refine (Cg (.agg #[.slice (some ⟨b0,0,none⟩) 74 74,.slice (some ⟨b1,0,none⟩) 10 10,.slice (some ⟨b2,0,none⟩) 11 11,.slice (some ⟨b3,0,none⟩) 42 42]) x y _ K.out.table LX.out.1 LY.out HE.out).mono ?_
   rintro e w4 ⟨rfl,hb⟩
   replace m0:=Kc hb m0
   replace m1:=Kc hb m1
   replace t0:=Kc hb t0
   replace t1:=Kc hb t1
   replace t2:=Kc hb t2
   replace t3:=Kc hb t3
   replace CB:=Lib.hid (CB.out.Ac hb)
   replace K:=Lib.hid (K.out.next hb)
   clear hb
   go_upto_region 7 with (fail)
   go_cut [8,9] (λs8 s9 wx=>∃ N,s8=.pointer (some ⟨N,0,none⟩)/\s9=.int .i64 0/\Hid (Kept w S b0 b1 b2 b3 wx/\CAt B x y wx/\CAt N x y wx))
   case first =>
    replace m0:(World.drew w4).cell? ⟨B,0,none⟩=some (.string x):=m0
    replace m1:(World.drew w4).cell? ⟨B,1,none⟩=some (.string y):=m1
    replace t0:(World.drew w4).cell? ⟨S,0,none⟩=some (.slice (some ⟨b0,0,none⟩) 74 74):=t0
    replace t1:(World.drew w4).cell? ⟨S,1,none⟩=some (.slice (some ⟨b1,0,none⟩) 10 10):=t1
    replace t2:(World.drew w4).cell? ⟨S,2,none⟩=some (.slice (some ⟨b2,0,none⟩) 11 11):=t2
    replace t3:(World.drew w4).cell? ⟨S,3,none⟩=some (.slice (some ⟨b3,0,none⟩) 42 42):=t3
    replace K:=Lib.hid K.out.drew
    replace CB:=Lib.hid (CB.out.Ac (Below.refl _ _).drew)
    refine wp_region_held_drew (S:=(λw':World=>w'.cell? ⟨B,0,none⟩=some (.string x)/\w'.cell? ⟨B,1,none⟩=some (.string y)/\w'.cell? ⟨S,0,none⟩=some (.slice (some ⟨b0,0,none⟩) 74 74)/\w'.cell? ⟨S,1,none⟩=some (.slice (some ⟨b1,0,none⟩) 10 10)/\w'.cell? ⟨S,2,none⟩=some (.slice (some ⟨b2,0,none⟩) 11 11)/\w'.cell? ⟨S,3,none⟩=some (.slice (some ⟨b3,0,none⟩) 42 42))) (by kernel_rfl) ?_ (λhHeld=>?_)
    ·exact ⟨m0,m1,t0,t1,t2,t3⟩
    generalize hwd:(World.drew w4)=d5 at m0 m1 t0 t1 t2 t3 CB K hHeld ⊢
    clear hwd
    refine Ad 0 31 (v:=?_) rfl rfl (by kernel_rfl) (by kernel_rfl) (by kernel_rfl) (λ_ _ _ h=>h) (Or.inl ⟨by rfl,?_⟩) (by assumption) ?_
    rotate_left
    ·intro w hSw
     (try dsimp only at hSw)
     go_simp
     first | done | with_reducible rfl
    simp only [Act.put,Sa,Sb,Sc]
    refine Ad 1 32 (v:=?_) rfl rfl (by kernel_rfl) (by kernel_rfl) (by kernel_rfl) (λ_ _ _ h=>h) (Or.inl ⟨by rfl,?_⟩) (by assumption) ?_
    rotate_left
    ·intro w hSw
     (try dsimp only at hSw)
     go_simp
     first | done | with_reducible rfl
    simp only [Act.put,Sa,Sb,Sc]
    refine wpAnyH_ready (rs:=[2,7]) (by kernel_rfl) (by simp) ?_
    refine AllReadyH.cons (o:={ dst:=some 33,op:=.call { callee:=.value (.func 17),args:=#[.tmp 32],argTypes:=#[23] },type:=_,pos := "law.go:75", after:=_,guard:=none }) rfl (λK_ hK=>?_) (AllReadyH.cons (o:={ dst:=some 8,op:=.alloc 23,type:=_,pos := "law.go:75", after:=_,guard:=none }) rfl (λK_ hK=>?_) AllReadyH.nil)
    ·skip
     (try go_simp)
     go_at_call 17
     refine (Gy x y _ (by omega) (by omega) HPM.out).mono ?_
     rintro e w6 ⟨rfl,hb⟩
     replace m0:=Kc hb m0
     replace m1:=Kc hb m1
     replace t0:=Kc hb t0
     replace t1:=Kc hb t1
     replace t2:=Kc hb t2
     replace t3:=Kc hb t3
     replace CB:=Lib.hid (CB.out.Ac hb)
     replace K:=Lib.hid (K.out.next hb)
     clear hb
     go_wp2_with fail
     clear hHeld
     refine hK.out _ _ ?_ (λhHeld=>?_)
     ·exact ⟨m0,m1,t0,t1,t2,t3⟩
     clear hK K_
     refine wpAnyH_ready (rs:=[3,7]) (by kernel_rfl) (by simp) ?_
     refine AllReadyH.cons (o:={ dst:=some 34,op:=.call { callee:=.value (.func 21),args:=#[.tmp 31,.tmp 33],argTypes:=#[31,9] },type:=_,pos := "law.go:75", after:=_,guard:=none }) rfl (λK_ hK=>?_) (AllReadyH.cons (o:={ dst:=some 8,op:=.alloc 23,type:=_,pos := "law.go:75", after:=_,guard:=none }) rfl (λK_ hK=>?_) AllReadyH.nil)
     ·skip
      (try go_simp)
      go_at_call 21
      refine (KB.out _ _ K.out.table).mono ?_
      rintro e w7 ⟨rfl,hb⟩
      replace m0:=Kc hb m0
      replace m1:=Kc hb m1
      replace t0:=Kc hb t0
      replace t1:=Kc hb t1
      replace t2:=Kc hb t2
      replace t3:=Kc hb t3
      replace CB:=Lib.hid (CB.out.Ac hb)
      replace K:=Lib.hid (K.out.next hb)
      clear hb
      go_wp2_with fail
      clear hHeld
      refine hK.out _ _ ?_ (λhHeld=>?_)
      ·exact ⟨m0,m1,t0,t1,t2,t3⟩
      clear hK K_
      refine Ad 4 30 (v:=?_) rfl rfl (by kernel_rfl) (by kernel_rfl) (by kernel_rfl) (λ_ _ _ h=>h) (Or.inl ⟨by rfl,?_⟩) (by assumption) ?_
      rotate_left
      ·intro w hSw
       (try dsimp only at hSw)
       go_simp
       first | done | with_reducible rfl
      simp only [Act.put,Sa,Sb,Sc]
      refine Ad 5 35 (v:=?_) rfl rfl (by kernel_rfl) (by kernel_rfl) (by kernel_rfl) (λ_ _ _ h=>h) (Or.inl ⟨by rfl,?_⟩) (by assumption) ?_
      rotate_left
      ·intro w hSw
       (try dsimp only at hSw)
       go_simp
       first | done | with_reducible rfl
      simp only [Act.put,Sa,Sb,Sc]
      refine Ad 6 36 (v:=?_) rfl rfl (by kernel_rfl) (by kernel_rfl) (by kernel_rfl) (λ_ _ _ h=>h) (Or.inl ⟨by rfl,?_⟩) (by assumption) ?_
      rotate_left
      ·intro w hSw
       (try dsimp only at hSw)
       go_simp
       first | done | with_reducible rfl
      simp only [Act.put,Sa,Sb,Sc]
      refine wpAnyH_ready (rs:=[7]) (by kernel_rfl) (by simp) ?_
      refine AllReadyH.cons (o:={ dst:=some 8,op:=.alloc 23,type:=_,pos := "law.go:75", after:=_,guard:=none }) rfl (λK_ hK=>?_) AllReadyH.nil
      (try go_simp)
      go_wp2_with fail
      obtain ⟨N,hN⟩:∃ N,w7.heap.size=N:=⟨_,rfl⟩
      have ltNB:B<N:=by have h_:=World.block_lt_of_cell? _ _ m0;simp only [hN] at h_;exact h_
      have ltNS:S<N:=by have h_:=World.block_lt_of_cell? _ _ t0;simp only [hN] at h_;exact h_
      have YN:=K
      have hb:=Ab w7 (.cells #[.string ⟨#[]⟩,.string ⟨#[]⟩] 23)
      replace m0:=Kc hb m0
      replace m1:=Kc hb m1
      replace t0:=Kc hb t0
      replace t1:=Kc hb t1
      replace t2:=Kc hb t2
      replace t3:=Kc hb t3
      replace CB:=Lib.hid (CB.out.Ac hb)
      replace K:=Lib.hid (K.out.next hb)
      have ZN:=Lib.hid hb
      clear hb
      have CN:=Lib.hid (show CAt N ⟨#[]⟩ ⟨#[]⟩ (w7.alloc (.cells #[.string ⟨#[]⟩,.string ⟨#[]⟩] 23)) from hN ▸ CAt.new w7 ⟨#[]⟩ ⟨#[]⟩)
      clear hHeld
      refine hK.out _ _ ?_ (λhHeld=>?_)
      ·exact ⟨m0,m1,t0,t1,t2,t3⟩
      clear hK K_
      refine wpAnyH_ready (rs:=[8]) (by kernel_rfl) (by simp) ?_
      refine AllReadyH.cons (o:={ dst:=none,op:=.store 23 (.tmp 8) (.tmp 35),type:=_,pos := "law.go:75", after:=_,guard:=none }) rfl (λK_ hK=>?_) AllReadyH.nil
      have a0:=CN.out.c0
      have a1:=CN.out.c1
      have a2:=CN.out.fr 0
      have a3:=CN.out.fr 1
      (try go_simp)
      go_wp2_with fail
      clear a0 a1 a2 a3
      have hb:=Ab w7 (.cells #[.string x,.string y] 23)
      have hb0:=Ab w7 (.cells #[.string ⟨#[]⟩,.string ⟨#[]⟩] 23)
      replace m0:=(hb.cell (p:=⟨B,0,none⟩) (show B<w7.heap.size by rw [hN];exact ltNB)).trans (((hb0.cell (p:=⟨B,0,none⟩) (show B<w7.heap.size by rw [hN];exact ltNB)).symm).trans m0)
      replace m1:=(hb.cell (p:=⟨B,1,none⟩) (show B<w7.heap.size by rw [hN];exact ltNB)).trans (((hb0.cell (p:=⟨B,1,none⟩) (show B<w7.heap.size by rw [hN];exact ltNB)).symm).trans m1)
      replace t0:=(hb.cell (p:=⟨S,0,none⟩) (show S<w7.heap.size by rw [hN];exact ltNS)).trans (((hb0.cell (p:=⟨S,0,none⟩) (show S<w7.heap.size by rw [hN];exact ltNS)).symm).trans t0)
      replace t1:=(hb.cell (p:=⟨S,1,none⟩) (show S<w7.heap.size by rw [hN];exact ltNS)).trans (((hb0.cell (p:=⟨S,1,none⟩) (show S<w7.heap.size by rw [hN];exact ltNS)).symm).trans t1)
      replace t2:=(hb.cell (p:=⟨S,2,none⟩) (show S<w7.heap.size by rw [hN];exact ltNS)).trans (((hb0.cell (p:=⟨S,2,none⟩) (show S<w7.heap.size by rw [hN];exact ltNS)).symm).trans t2)
      replace t3:=(hb.cell (p:=⟨S,3,none⟩) (show S<w7.heap.size by rw [hN];exact ltNS)).trans (((hb0.cell (p:=⟨S,3,none⟩) (show S<w7.heap.size by rw [hN];exact ltNS)).symm).trans t3)
      replace CB:=Lib.hid (show CAt _ _ _ _ from ⟨(hb.block B (by rw [hN];exact ltNB)).trans ((hb0.block B (by rw [hN];exact ltNB)).symm.trans CB.out.blk)⟩)
      replace CN:=Lib.hid (show CAt N x y (w7.alloc (.cells #[.string x,.string y] 23)) from hN ▸ CAt.new w7 x y)
      replace K:=Lib.hid (YN.out.next hb)
      clear hb hb0 ZN
      clear hHeld
      refine hK.out _ _ ?_ (λhHeld=>?_)
      ·exact ⟨m0,m1,t0,t1,t2,t3⟩
      clear hK K_
      refine Ad 9 9 (v:=?_) rfl rfl (by kernel_rfl) (by kernel_rfl) (by kernel_rfl) (λ_ _ _ h=>h) (Or.inl ⟨by rfl,?_⟩) (by assumption) ?_
      rotate_left
      ·intro w hSw
       (try dsimp only at hSw)
       go_simp
       first | done | with_reducible rfl
      simp only [Act.put,Sa,Sb,Sc]
      refine wpAnyH_done (by kernel_rfl) ?_ _
      go_wp2_with fail
      go_meet
      exact ⟨N,rfl,rfl,Lib.hid ⟨K.out,CB.out,CN.out⟩⟩
     ·skip
      (try go_simp)
      go_wp2_with fail
      obtain ⟨N,hN⟩:∃ N,w6.heap.size=N:=⟨_,rfl⟩
      have ltNB:B<N:=by have h_:=World.block_lt_of_cell? _ _ m0;simp only [hN] at h_;exact h_
      have ltNS:S<N:=by have h_:=World.block_lt_of_cell? _ _ t0;simp only [hN] at h_;exact h_
      have YN:=K
      have hb:=Ab w6 (.cells #[.string ⟨#[]⟩,.string ⟨#[]⟩] 23)
      replace m0:=Kc hb m0
      replace m1:=Kc hb m1
      replace t0:=Kc hb t0
      replace t1:=Kc hb t1
      replace t2:=Kc hb t2
      replace t3:=Kc hb t3
      replace CB:=Lib.hid (CB.out.Ac hb)
      replace K:=Lib.hid (K.out.next hb)
      have ZN:=Lib.hid hb
      clear hb
      have CN:=Lib.hid (show CAt N ⟨#[]⟩ ⟨#[]⟩ (w6.alloc (.cells #[.string ⟨#[]⟩,.string ⟨#[]⟩] 23)) from hN ▸ CAt.new w6 ⟨#[]⟩ ⟨#[]⟩)
      clear hHeld
      refine hK.out _ _ ?_ (λhHeld=>?_)
      ·exact ⟨m0,m1,t0,t1,t2,t3⟩
      clear hK K_
      refine wpAnyH_ready (rs:=[3]) (by kernel_rfl) (by simp) ?_
      refine AllReadyH.cons (o:={ dst:=some 34,op:=.call { callee:=.value (.func 21),args:=#[.tmp 31,.tmp 33],argTypes:=#[31,9] },type:=_,pos := "law.go:75", after:=_,guard:=none }) rfl (λK_ hK=>?_) AllReadyH.nil
      (try go_simp)
      go_at_call 21
      refine (KB.out _ _ K.out.table).mono ?_
      rintro e w7 ⟨rfl,hb⟩
      replace m0:=Kc hb m0
      replace m1:=Kc hb m1
      replace t0:=Kc hb t0
      replace t1:=Kc hb t1
      replace t2:=Kc hb t2
      replace t3:=Kc hb t3
      replace CB:=Lib.hid (CB.out.Ac hb)
      replace CN:=Lib.hid (CN.out.Ac hb)
      replace ZN:=Lib.hid (Aa ZN.out hb)
      replace K:=Lib.hid (K.out.next hb)
      clear hb
      go_wp2_with fail
      clear hHeld
      refine hK.out _ _ ?_ (λhHeld=>?_)
      ·exact ⟨m0,m1,t0,t1,t2,t3⟩
      clear hK K_
      refine Ad 4 30 (v:=?_) rfl rfl (by kernel_rfl) (by kernel_rfl) (by kernel_rfl) (λ_ _ _ h=>h) (Or.inl ⟨by rfl,?_⟩) (by assumption) ?_
      rotate_left
      ·intro w hSw
       (try dsimp only at hSw)
       go_simp
       first | done | with_reducible rfl
      simp only [Act.put,Sa,Sb,Sc]
      refine Ad 5 35 (v:=?_) rfl rfl (by kernel_rfl) (by kernel_rfl) (by kernel_rfl) (λ_ _ _ h=>h) (Or.inl ⟨by rfl,?_⟩) (by assumption) ?_
      rotate_left
      ·intro w hSw
       (try dsimp only at hSw)
       go_simp
       first | done | with_reducible rfl
      simp only [Act.put,Sa,Sb,Sc]
      refine Ad 6 36 (v:=?_) rfl rfl (by kernel_rfl) (by kernel_rfl) (by kernel_rfl) (λ_ _ _ h=>h) (Or.inl ⟨by rfl,?_⟩) (by assumption) ?_
      rotate_left
      ·intro w hSw
       (try dsimp only at hSw)
       go_simp
       first | done | with_reducible rfl
      simp only [Act.put,Sa,Sb,Sc]
      refine wpAnyH_ready (rs:=[8]) (by kernel_rfl) (by simp) ?_
      refine AllReadyH.cons (o:={ dst:=none,op:=.store 23 (.tmp 8) (.tmp 35),type:=_,pos := "law.go:75", after:=_,guard:=none }) rfl (λK_ hK=>?_) AllReadyH.nil
      have a0:=CN.out.c0
      have a1:=CN.out.c1
      have a2:=CN.out.fr 0
      have a3:=CN.out.fr 1
      (try go_simp)
      go_wp2_with fail
      clear a0 a1 a2 a3
      replace m0:=(Ae (k:=1) (z:=.string y) (Nat.ne_of_lt ltNB)).trans ((Ae (k:=0) (z:=.string x) (Nat.ne_of_lt ltNB)).trans m0)
      replace m1:=(Ae (k:=1) (z:=.string y) (Nat.ne_of_lt ltNB)).trans ((Ae (k:=0) (z:=.string x) (Nat.ne_of_lt ltNB)).trans m1)
      replace t0:=(Ae (k:=1) (z:=.string y) (Nat.ne_of_lt ltNS)).trans ((Ae (k:=0) (z:=.string x) (Nat.ne_of_lt ltNS)).trans t0)
      replace t1:=(Ae (k:=1) (z:=.string y) (Nat.ne_of_lt ltNS)).trans ((Ae (k:=0) (z:=.string x) (Nat.ne_of_lt ltNS)).trans t1)
      replace t2:=(Ae (k:=1) (z:=.string y) (Nat.ne_of_lt ltNS)).trans ((Ae (k:=0) (z:=.string x) (Nat.ne_of_lt ltNS)).trans t2)
      replace t3:=(Ae (k:=1) (z:=.string y) (Nat.ne_of_lt ltNS)).trans ((Ae (k:=0) (z:=.string x) (Nat.ne_of_lt ltNS)).trans t3)
      replace CB:=Lib.hid ((CB.out.other (Nat.ne_of_lt ltNB) 0 (.string x)).other (Nat.ne_of_lt ltNB) 1 (.string y))
      replace CN:=Lib.hid ((CN.out.My x).P8 y)
      replace ZN:=Lib.hid ((ZN.out.setCell (p:=⟨N,0,none⟩) (show _<=N by omega) (.string x)).setCell (p:=⟨N,1,none⟩) (show _<=N by omega) (.string y))
      replace K:=Lib.hid (YN.out.next ZN.out)
      clear ZN
      clear hHeld
      refine hK.out _ _ ?_ (λhHeld=>?_)
      ·exact ⟨m0,m1,t0,t1,t2,t3⟩
      clear hK K_
      refine Ad 9 9 (v:=?_) rfl rfl (by kernel_rfl) (by kernel_rfl) (by kernel_rfl) (λ_ _ _ h=>h) (Or.inl ⟨by rfl,?_⟩) (by assumption) ?_
      rotate_left
      ·intro w hSw
       (try dsimp only at hSw)
       go_simp
       first | done | with_reducible rfl
      simp only [Act.put,Sa,Sb,Sc]
      refine wpAnyH_done (by kernel_rfl) ?_ _
      go_wp2_with fail
      go_meet
      exact ⟨N,rfl,rfl,Lib.hid ⟨K.out,CB.out,CN.out⟩⟩
    ·skip
     (try go_simp)
     go_wp2_with fail
     obtain ⟨N,hN⟩:∃ N,d5.heap.size=N:=⟨_,rfl⟩
     have ltNB:B<N:=by have h_:=World.block_lt_of_cell? _ _ m0;simp only [hN] at h_;exact h_
     have ltNS:S<N:=by have h_:=World.block_lt_of_cell? _ _ t0;simp only [hN] at h_;exact h_
     have YN:=K
     have hb:=Ab d5 (.cells #[.string ⟨#[]⟩,.string ⟨#[]⟩] 23)
     replace m0:=Kc hb m0
     replace m1:=Kc hb m1
     replace t0:=Kc hb t0
     replace t1:=Kc hb t1
     replace t2:=Kc hb t2
     replace t3:=Kc hb t3
     replace CB:=Lib.hid (CB.out.Ac hb)
     replace K:=Lib.hid (K.out.next hb)
     have ZN:=Lib.hid hb
     clear hb
     have CN:=Lib.hid (show CAt N ⟨#[]⟩ ⟨#[]⟩ (d5.alloc (.cells #[.string ⟨#[]⟩,.string ⟨#[]⟩] 23)) from hN ▸ CAt.new d5 ⟨#[]⟩ ⟨#[]⟩)
     clear hHeld
     refine hK.out _ _ ?_ (λhHeld=>?_)
     ·exact ⟨m0,m1,t0,t1,t2,t3⟩
     clear hK K_
     refine wpAnyH_ready (rs:=[2]) (by kernel_rfl) (by simp) ?_
     refine AllReadyH.cons (o:={ dst:=some 33,op:=.call { callee:=.value (.func 17),args:=#[.tmp 32],argTypes:=#[23] },type:=_,pos := "law.go:75", after:=_,guard:=none }) rfl (λK_ hK=>?_) AllReadyH.nil
     (try go_simp)
     go_at_call 17
     refine (Gy x y _ (by omega) (by omega) HPM.out).mono ?_
     rintro e w6 ⟨rfl,hb⟩
     replace m0:=Kc hb m0
     replace m1:=Kc hb m1
     replace t0:=Kc hb t0
     replace t1:=Kc hb t1
     replace t2:=Kc hb t2
     replace t3:=Kc hb t3
     replace CB:=Lib.hid (CB.out.Ac hb)
     replace CN:=Lib.hid (CN.out.Ac hb)
     replace ZN:=Lib.hid (Aa ZN.out hb)
     replace K:=Lib.hid (K.out.next hb)
     clear hb
     go_wp2_with fail
     clear hHeld
     refine hK.out _ _ ?_ (λhHeld=>?_)
     ·exact ⟨m0,m1,t0,t1,t2,t3⟩
     clear hK K_
     refine wpAnyH_ready (rs:=[3]) (by kernel_rfl) (by simp) ?_
     refine AllReadyH.cons (o:={ dst:=some 34,op:=.call { callee:=.value (.func 21),args:=#[.tmp 31,.tmp 33],argTypes:=#[31,9] },type:=_,pos := "law.go:75", after:=_,guard:=none }) rfl (λK_ hK=>?_) AllReadyH.nil
     (try go_simp)
     go_at_call 21
     refine (KB.out _ _ K.out.table).mono ?_
     rintro e w7 ⟨rfl,hb⟩
     replace m0:=Kc hb m0
     replace m1:=Kc hb m1
     replace t0:=Kc hb t0
     replace t1:=Kc hb t1
     replace t2:=Kc hb t2
     replace t3:=Kc hb t3
     replace CB:=Lib.hid (CB.out.Ac hb)
     replace CN:=Lib.hid (CN.out.Ac hb)
     replace ZN:=Lib.hid (Aa ZN.out hb)
     replace K:=Lib.hid (K.out.next hb)
     clear hb
     go_wp2_with fail
     clear hHeld
     refine hK.out _ _ ?_ (λhHeld=>?_)
     ·exact ⟨m0,m1,t0,t1,t2,t3⟩
     clear hK K_
     refine Ad 4 30 (v:=?_) rfl rfl (by kernel_rfl) (by kernel_rfl) (by kernel_rfl) (λ_ _ _ h=>h) (Or.inl ⟨by rfl,?_⟩) (by assumption) ?_
     rotate_left
     ·intro w hSw
      (try dsimp only at hSw)
      go_simp
      first | done | with_reducible rfl
     simp only [Act.put,Sa,Sb,Sc]
     refine Ad 5 35 (v:=?_) rfl rfl (by kernel_rfl) (by kernel_rfl) (by kernel_rfl) (λ_ _ _ h=>h) (Or.inl ⟨by rfl,?_⟩) (by assumption) ?_
     rotate_left
     ·intro w hSw
      (try dsimp only at hSw)
      go_simp
      first | done | with_reducible rfl
     simp only [Act.put,Sa,Sb,Sc]
     refine Ad 6 36 (v:=?_) rfl rfl (by kernel_rfl) (by kernel_rfl) (by kernel_rfl) (λ_ _ _ h=>h) (Or.inl ⟨by rfl,?_⟩) (by assumption) ?_
     rotate_left
     ·intro w hSw
      (try dsimp only at hSw)
      go_simp
      first | done | with_reducible rfl
     simp only [Act.put,Sa,Sb,Sc]
     refine wpAnyH_ready (rs:=[8]) (by kernel_rfl) (by simp) ?_
     refine AllReadyH.cons (o:={ dst:=none,op:=.store 23 (.tmp 8) (.tmp 35),type:=_,pos := "law.go:75", after:=_,guard:=none }) rfl (λK_ hK=>?_) AllReadyH.nil
     have a0:=CN.out.c0
     have a1:=CN.out.c1
     have a2:=CN.out.fr 0
     have a3:=CN.out.fr 1
     (try go_simp)
     go_wp2_with fail
     clear a0 a1 a2 a3
     replace m0:=(Ae (k:=1) (z:=.string y) (Nat.ne_of_lt ltNB)).trans ((Ae (k:=0) (z:=.string x) (Nat.ne_of_lt ltNB)).trans m0)
     replace m1:=(Ae (k:=1) (z:=.string y) (Nat.ne_of_lt ltNB)).trans ((Ae (k:=0) (z:=.string x) (Nat.ne_of_lt ltNB)).trans m1)
     replace t0:=(Ae (k:=1) (z:=.string y) (Nat.ne_of_lt ltNS)).trans ((Ae (k:=0) (z:=.string x) (Nat.ne_of_lt ltNS)).trans t0)
     replace t1:=(Ae (k:=1) (z:=.string y) (Nat.ne_of_lt ltNS)).trans ((Ae (k:=0) (z:=.string x) (Nat.ne_of_lt ltNS)).trans t1)
     replace t2:=(Ae (k:=1) (z:=.string y) (Nat.ne_of_lt ltNS)).trans ((Ae (k:=0) (z:=.string x) (Nat.ne_of_lt ltNS)).trans t2)
     replace t3:=(Ae (k:=1) (z:=.string y) (Nat.ne_of_lt ltNS)).trans ((Ae (k:=0) (z:=.string x) (Nat.ne_of_lt ltNS)).trans t3)
     replace CB:=Lib.hid ((CB.out.other (Nat.ne_of_lt ltNB) 0 (.string x)).other (Nat.ne_of_lt ltNB) 1 (.string y))
     replace CN:=Lib.hid ((CN.out.My x).P8 y)
     replace ZN:=Lib.hid ((ZN.out.setCell (p:=⟨N,0,none⟩) (show _<=N by omega) (.string x)).setCell (p:=⟨N,1,none⟩) (show _<=N by omega) (.string y))
     replace K:=Lib.hid (YN.out.next ZN.out)
     clear ZN
     clear hHeld
     refine hK.out _ _ ?_ (λhHeld=>?_)
     ·exact ⟨m0,m1,t0,t1,t2,t3⟩
     clear hK K_
     refine Ad 9 9 (v:=?_) rfl rfl (by kernel_rfl) (by kernel_rfl) (by kernel_rfl) (λ_ _ _ h=>h) (Or.inl ⟨by rfl,?_⟩) (by assumption) ?_
     rotate_left
     ·intro w hSw
      (try dsimp only at hSw)
      go_simp
      first | done | with_reducible rfl
     simp only [Act.put,Sa,Sb,Sc]
     refine wpAnyH_done (by kernel_rfl) ?_ _
     go_wp2_with fail
     go_meet
     exact ⟨N,rfl,rfl,Lib.hid ⟨K.out,CB.out,CN.out⟩⟩
   case rest =>
    obtain ⟨N,rfl,rfl,HX⟩:=hcut
    clear m0 m1 t0 t1 t2 t3 K CB
    have K:=Lib.hid HX.out.1
    have CB:=Lib.hid HX.out.2.1
    have CN:=Lib.hid HX.out.2.2
    clear HX
    obtain ⟨-,t0,t1,t2,t3⟩:=K.out.held
    have m0:=CB.out.c0
    have m1:=CB.out.c1
    have n0:=CN.out.c0
    have n1:=CN.out.c1
    go_wp2_with fail
    refine (KS.out _ _ K.out.table).mono ?_
    rintro e w5 ⟨rfl,hb⟩
    replace t0:=Kc hb t0
    replace t1:=Kc hb t1
    replace t2:=Kc hb t2
    replace t3:=Kc hb t3
    replace m0:=Kc hb m0
    replace m1:=Kc hb m1
    replace n0:=Kc hb n0
    replace n1:=Kc hb n1
    replace CB:=Lib.hid (CB.out.Ac hb)
    replace CN:=Lib.hid (CN.out.Ac hb)
    replace K:=Lib.hid (K.out.next hb)
    clear hb
    go_wp2_with fail
    refine (KP.out _ _ K.out.table).mono ?_
    rintro e w6 ⟨rfl,hb⟩
    replace t0:=Kc hb t0
    replace t1:=Kc hb t1
    replace t2:=Kc hb t2
    replace t3:=Kc hb t3
    replace m0:=Kc hb m0
    replace m1:=Kc hb m1
    replace n0:=Kc hb n0
    replace n1:=Kc hb n1
    replace CB:=Lib.hid (CB.out.Ac hb)
    replace CN:=Lib.hid (CN.out.Ac hb)
    replace K:=Lib.hid (K.out.next hb)
    clear hb
    obtain ⟨X,hX⟩:∃ N,w6.heap.size=N:=⟨_,rfl⟩
    have ltXS:S<X:=by have h_:=World.block_lt_of_cell? _ _ t0;simp only [hX] at h_;exact h_
    have ltXB:B<X:=by have h_:=World.block_lt_of_cell? _ _ m0;simp only [hX] at h_;exact h_
    have ltXN:N<X:=by have h_:=World.block_lt_of_cell? _ _ n0;simp only [hX] at h_;exact h_
    have hb:=Ab w6 (.cells #[.string P,.string Q] 23)
    replace t0:=Kc hb t0
    replace t1:=Kc hb t1
    replace t2:=Kc hb t2
    replace t3:=Kc hb t3
    replace m0:=Kc hb m0
    replace m1:=Kc hb m1
    replace n0:=Kc hb n0
    replace n1:=Kc hb n1
    replace CB:=Lib.hid (CB.out.Ac hb)
    replace CN:=Lib.hid (CN.out.Ac hb)
    replace K:=Lib.hid (K.out.next hb)
    clear hb
    have CX:=Lib.hid (show CAt X P Q (w6.alloc (.cells #[.string P,.string Q] 23)) from hX ▸ CAt.new w6 P Q)
    have x0:=CX.out.c0
    have x1:=CX.out.c1
    go_wp2
    replace t0:(World.drew (w6.alloc (.cells #[.string P,.string Q] 23))).cell? ⟨S,0,none⟩=some (.slice (some ⟨b0,0,none⟩) 74 74):=t0
    replace t1:(World.drew (w6.alloc (.cells #[.string P,.string Q] 23))).cell? ⟨S,1,none⟩=some (.slice (some ⟨b1,0,none⟩) 10 10):=t1
    replace t2:(World.drew (w6.alloc (.cells #[.string P,.string Q] 23))).cell? ⟨S,2,none⟩=some (.slice (some ⟨b2,0,none⟩) 11 11):=t2
    replace t3:(World.drew (w6.alloc (.cells #[.string P,.string Q] 23))).cell? ⟨S,3,none⟩=some (.slice (some ⟨b3,0,none⟩) 42 42):=t3
    replace m0:(World.drew (w6.alloc (.cells #[.string P,.string Q] 23))).cell? ⟨B,0,none⟩=some (.string x):=m0
    replace m1:(World.drew (w6.alloc (.cells #[.string P,.string Q] 23))).cell? ⟨B,1,none⟩=some (.string y):=m1
    replace n0:(World.drew (w6.alloc (.cells #[.string P,.string Q] 23))).cell? ⟨N,0,none⟩=some (.string x):=n0
    replace n1:(World.drew (w6.alloc (.cells #[.string P,.string Q] 23))).cell? ⟨N,1,none⟩=some (.string y):=n1
    replace x0:(World.drew (w6.alloc (.cells #[.string P,.string Q] 23))).cell? ⟨X,0,none⟩=some (.string P):=x0
    replace x1:(World.drew (w6.alloc (.cells #[.string P,.string Q] 23))).cell? ⟨X,1,none⟩=some (.string Q):=x1
    replace K:=Lib.hid K.out.drew
    replace CB:=Lib.hid (CB.out.Ac (Below.refl _ _).drew)
    replace CN:=Lib.hid (CN.out.Ac (Below.refl _ _).drew)
    replace CX:=Lib.hid (CX.out.Ac (Below.refl _ _).drew)
    refine wp_region_held_drew (S:=(λw':World=>w'.cell? ⟨S,0,none⟩=some (.slice (some ⟨b0,0,none⟩) 74 74)/\w'.cell? ⟨S,1,none⟩=some (.slice (some ⟨b1,0,none⟩) 10 10)/\w'.cell? ⟨S,2,none⟩=some (.slice (some ⟨b2,0,none⟩) 11 11)/\w'.cell? ⟨S,3,none⟩=some (.slice (some ⟨b3,0,none⟩) 42 42)/\w'.cell? ⟨B,0,none⟩=some (.string x)/\w'.cell? ⟨B,1,none⟩=some (.string y)/\w'.cell? ⟨N,0,none⟩=some (.string x)/\w'.cell? ⟨N,1,none⟩=some (.string y)/\w'.cell? ⟨X,0,none⟩=some (.string P)/\w'.cell? ⟨X,1,none⟩=some (.string Q))) (by kernel_rfl) ?_ (λhHeld=>?_)
    ·exact ⟨t0,t1,t2,t3,m0,m1,n0,n1,x0,x1⟩
    generalize hwd:(World.drew (w6.alloc (.cells #[.string P,.string Q] 23)))=d7 at t0 t1 t2 t3 m0 m1 n0 n1 x0 x1 CB CN CX K hHeld ⊢
    clear hwd
    refine Ad 0 66 (v:=?_) rfl rfl (by kernel_rfl) (by kernel_rfl) (by kernel_rfl) (λ_ _ _ h=>h) (Or.inl ⟨by rfl,?_⟩) (by assumption) ?_
    rotate_left
    ·intro w hSw
     (try dsimp only at hSw)
     go_simp
     first | done | with_reducible rfl
    simp only [Act.put,Sa,Sb,Sc]
    refine Ad 1 67 (v:=?_) rfl rfl (by kernel_rfl) (by kernel_rfl) (by kernel_rfl) (λ_ _ _ h=>h) (Or.inl ⟨by rfl,?_⟩) (by assumption) ?_
    rotate_left
    ·intro w hSw
     (try dsimp only at hSw)
     go_simp
     first | done | with_reducible rfl
    simp only [Act.put,Sa,Sb,Sc]
    refine wpAnyH_ready (rs:=[2,7]) (by kernel_rfl) (by simp) ?_
    refine AllReadyH.cons (o:={ dst:=some 68,op:=.call { callee:=.value (.func 17),args:=#[.tmp 67],argTypes:=#[23] },type:=_,pos := "law.go:84", after:=_,guard:=none }) rfl (λK_ hK=>?_) (AllReadyH.cons (o:={ dst:=some 12,op:=.alloc 23,type:=_,pos := "law.go:84", after:=_,guard:=none }) rfl (λK_ hK=>?_) AllReadyH.nil)
    ·skip
     (try go_simp)
     go_at_call 17
     refine (KPR.out _).mono ?_
     rintro e w8 ⟨rfl,hb⟩
     replace t0:=Kc hb t0
     replace t1:=Kc hb t1
     replace t2:=Kc hb t2
     replace t3:=Kc hb t3
     replace m0:=Kc hb m0
     replace m1:=Kc hb m1
     replace n0:=Kc hb n0
     replace n1:=Kc hb n1
     replace x0:=Kc hb x0
     replace x1:=Kc hb x1
     replace CB:=Lib.hid (CB.out.Ac hb)
     replace CN:=Lib.hid (CN.out.Ac hb)
     replace CX:=Lib.hid (CX.out.Ac hb)
     replace K:=Lib.hid (K.out.next hb)
     clear hb
     go_wp2_with fail
     clear hHeld
     refine hK.out _ _ ?_ (λhHeld=>?_)
     ·exact ⟨t0,t1,t2,t3,m0,m1,n0,n1,x0,x1⟩
     clear hK K_
     refine wpAnyH_ready (rs:=[3,7]) (by kernel_rfl) (by simp) ?_
     refine AllReadyH.cons (o:={ dst:=some 69,op:=.call { callee:=.value (.func 21),args:=#[.tmp 66,.tmp 68],argTypes:=#[31,9] },type:=_,pos := "law.go:84", after:=_,guard:=none }) rfl (λK_ hK=>?_) (AllReadyH.cons (o:={ dst:=some 12,op:=.alloc 23,type:=_,pos := "law.go:84", after:=_,guard:=none }) rfl (λK_ hK=>?_) AllReadyH.nil)
     ·skip
      (try go_simp)
      go_at_call 21
      refine (KPP.out _ _ K.out.table).mono ?_
      rintro e w9 ⟨rfl,hb⟩
      replace t0:=Kc hb t0
      replace t1:=Kc hb t1
      replace t2:=Kc hb t2
      replace t3:=Kc hb t3
      replace m0:=Kc hb m0
      replace m1:=Kc hb m1
      replace n0:=Kc hb n0
      replace n1:=Kc hb n1
      replace x0:=Kc hb x0
      replace x1:=Kc hb x1
      replace CB:=Lib.hid (CB.out.Ac hb)
      replace CN:=Lib.hid (CN.out.Ac hb)
      replace CX:=Lib.hid (CX.out.Ac hb)
      replace K:=Lib.hid (K.out.next hb)
      clear hb
      go_wp2_with fail
      clear hHeld
      refine hK.out _ _ ?_ (λhHeld=>?_)
      ·exact ⟨t0,t1,t2,t3,m0,m1,n0,n1,x0,x1⟩
      clear hK K_
      refine Ad 4 65 (v:=?_) rfl rfl (by kernel_rfl) (by kernel_rfl) (by kernel_rfl) (λ_ _ _ h=>h) (Or.inl ⟨by rfl,?_⟩) (by assumption) ?_
      rotate_left
      ·intro w hSw
       (try dsimp only at hSw)
       go_simp
       first | done | with_reducible rfl
      simp only [Act.put,Sa,Sb,Sc]
      refine Ad 5 70 (v:=?_) rfl rfl (by kernel_rfl) (by kernel_rfl) (by kernel_rfl) (λ_ _ _ h=>h) (Or.inl ⟨by rfl,?_⟩) (by assumption) ?_
      rotate_left
      ·intro w hSw
       (try dsimp only at hSw)
       go_simp
       first | done | with_reducible rfl
      simp only [Act.put,Sa,Sb,Sc]
      refine Ad 6 71 (v:=?_) rfl rfl (by kernel_rfl) (by kernel_rfl) (by kernel_rfl) (λ_ _ _ h=>h) (Or.inl ⟨by rfl,?_⟩) (by assumption) ?_
      rotate_left
      ·intro w hSw
       (try dsimp only at hSw)
       go_simp
       first | done | with_reducible rfl
      simp only [Act.put,Sa,Sb,Sc]
      refine wpAnyH_ready (rs:=[7]) (by kernel_rfl) (by simp) ?_
      refine AllReadyH.cons (o:={ dst:=some 12,op:=.alloc 23,type:=_,pos := "law.go:84", after:=_,guard:=none }) rfl (λK_ hK=>?_) AllReadyH.nil
      (try go_simp)
      go_wp2_with fail
      obtain ⟨Y,hY⟩:∃ N,w9.heap.size=N:=⟨_,rfl⟩
      have ltYS:S<Y:=by have h_:=World.block_lt_of_cell? _ _ t0;simp only [hY] at h_;exact h_
      have ltYB:B<Y:=by have h_:=World.block_lt_of_cell? _ _ m0;simp only [hY] at h_;exact h_
      have ltYN:N<Y:=by have h_:=World.block_lt_of_cell? _ _ n0;simp only [hY] at h_;exact h_
      have ltYX:X<Y:=by have h_:=World.block_lt_of_cell? _ _ x0;simp only [hY] at h_;exact h_
      have YY:=K
      have hb:=Ab w9 (.cells #[.string ⟨#[]⟩,.string ⟨#[]⟩] 23)
      replace t0:=Kc hb t0
      replace t1:=Kc hb t1
      replace t2:=Kc hb t2
      replace t3:=Kc hb t3
      replace m0:=Kc hb m0
      replace m1:=Kc hb m1
      replace n0:=Kc hb n0
      replace n1:=Kc hb n1
      replace x0:=Kc hb x0
      replace x1:=Kc hb x1
      replace CB:=Lib.hid (CB.out.Ac hb)
      replace CN:=Lib.hid (CN.out.Ac hb)
      replace CX:=Lib.hid (CX.out.Ac hb)
      replace K:=Lib.hid (K.out.next hb)
      have ZY:=Lib.hid hb
      clear hb
      have CY:=Lib.hid (show CAt Y ⟨#[]⟩ ⟨#[]⟩ (w9.alloc (.cells #[.string ⟨#[]⟩,.string ⟨#[]⟩] 23)) from hY ▸ CAt.new w9 ⟨#[]⟩ ⟨#[]⟩)
      clear hHeld
      refine hK.out _ _ ?_ (λhHeld=>?_)
      ·exact ⟨t0,t1,t2,t3,m0,m1,n0,n1,x0,x1⟩
      clear hK K_
      refine wpAnyH_ready (rs:=[8]) (by kernel_rfl) (by simp) ?_
      refine AllReadyH.cons (o:={ dst:=none,op:=.store 23 (.tmp 12) (.tmp 70),type:=_,pos := "law.go:84", after:=_,guard:=none }) rfl (λK_ hK=>?_) AllReadyH.nil
      have a0:=CY.out.c0
      have a1:=CY.out.c1
      have a2:=CY.out.fr 0
      have a3:=CY.out.fr 1
      (try go_simp)
      go_wp2_with fail
      clear a0 a1 a2 a3
      have hb:=Ab w9 (.cells #[.string P,.string Q] 23)
      have hb0:=Ab w9 (.cells #[.string ⟨#[]⟩,.string ⟨#[]⟩] 23)
      replace t0:=(hb.cell (p:=⟨S,0,none⟩) (show S<w9.heap.size by rw [hY];exact ltYS)).trans (((hb0.cell (p:=⟨S,0,none⟩) (show S<w9.heap.size by rw [hY];exact ltYS)).symm).trans t0)
      replace t1:=(hb.cell (p:=⟨S,1,none⟩) (show S<w9.heap.size by rw [hY];exact ltYS)).trans (((hb0.cell (p:=⟨S,1,none⟩) (show S<w9.heap.size by rw [hY];exact ltYS)).symm).trans t1)
      replace t2:=(hb.cell (p:=⟨S,2,none⟩) (show S<w9.heap.size by rw [hY];exact ltYS)).trans (((hb0.cell (p:=⟨S,2,none⟩) (show S<w9.heap.size by rw [hY];exact ltYS)).symm).trans t2)
      replace t3:=(hb.cell (p:=⟨S,3,none⟩) (show S<w9.heap.size by rw [hY];exact ltYS)).trans (((hb0.cell (p:=⟨S,3,none⟩) (show S<w9.heap.size by rw [hY];exact ltYS)).symm).trans t3)
      replace m0:=(hb.cell (p:=⟨B,0,none⟩) (show B<w9.heap.size by rw [hY];exact ltYB)).trans (((hb0.cell (p:=⟨B,0,none⟩) (show B<w9.heap.size by rw [hY];exact ltYB)).symm).trans m0)
      replace m1:=(hb.cell (p:=⟨B,1,none⟩) (show B<w9.heap.size by rw [hY];exact ltYB)).trans (((hb0.cell (p:=⟨B,1,none⟩) (show B<w9.heap.size by rw [hY];exact ltYB)).symm).trans m1)
      replace n0:=(hb.cell (p:=⟨N,0,none⟩) (show N<w9.heap.size by rw [hY];exact ltYN)).trans (((hb0.cell (p:=⟨N,0,none⟩) (show N<w9.heap.size by rw [hY];exact ltYN)).symm).trans n0)
      replace n1:=(hb.cell (p:=⟨N,1,none⟩) (show N<w9.heap.size by rw [hY];exact ltYN)).trans (((hb0.cell (p:=⟨N,1,none⟩) (show N<w9.heap.size by rw [hY];exact ltYN)).symm).trans n1)
      replace x0:=(hb.cell (p:=⟨X,0,none⟩) (show X<w9.heap.size by rw [hY];exact ltYX)).trans (((hb0.cell (p:=⟨X,0,none⟩) (show X<w9.heap.size by rw [hY];exact ltYX)).symm).trans x0)
      replace x1:=(hb.cell (p:=⟨X,1,none⟩) (show X<w9.heap.size by rw [hY];exact ltYX)).trans (((hb0.cell (p:=⟨X,1,none⟩) (show X<w9.heap.size by rw [hY];exact ltYX)).symm).trans x1)
      replace CB:=Lib.hid (show CAt _ _ _ _ from ⟨(hb.block B (by rw [hY];exact ltYB)).trans ((hb0.block B (by rw [hY];exact ltYB)).symm.trans CB.out.blk)⟩)
      replace CN:=Lib.hid (show CAt _ _ _ _ from ⟨(hb.block N (by rw [hY];exact ltYN)).trans ((hb0.block N (by rw [hY];exact ltYN)).symm.trans CN.out.blk)⟩)
      replace CX:=Lib.hid (show CAt _ _ _ _ from ⟨(hb.block X (by rw [hY];exact ltYX)).trans ((hb0.block X (by rw [hY];exact ltYX)).symm.trans CX.out.blk)⟩)
      replace CY:=Lib.hid (show CAt Y P Q (w9.alloc (.cells #[.string P,.string Q] 23)) from hY ▸ CAt.new w9 P Q)
      replace K:=Lib.hid (YY.out.next hb)
      clear hb hb0 ZY
      clear hHeld
      refine hK.out _ _ ?_ (λhHeld=>?_)
      ·exact ⟨t0,t1,t2,t3,m0,m1,n0,n1,x0,x1⟩
      clear hK K_
      refine Ad 9 13 (v:=?_) rfl rfl (by kernel_rfl) (by kernel_rfl) (by kernel_rfl) (λ_ _ _ h=>h) (Or.inl ⟨by rfl,?_⟩) (by assumption) ?_
      rotate_left
      ·intro w hSw
       (try dsimp only at hSw)
       go_simp
       first | done | with_reducible rfl
      simp only [Act.put,Sa,Sb,Sc]
      refine wpAnyH_done (by kernel_rfl) ?_ _
      have y0:=CY.out.c0
      have y1:=CY.out.c1
      go_wp2_with fail
      refine (KR.out _ _ K.out.table).mono ?_
      rintro e w10 ⟨rfl,hb⟩
      replace t0:=Kc hb t0
      replace t1:=Kc hb t1
      replace t2:=Kc hb t2
      replace t3:=Kc hb t3
      replace m0:=Kc hb m0
      replace m1:=Kc hb m1
      replace n0:=Kc hb n0
      replace n1:=Kc hb n1
      replace x0:=Kc hb x0
      replace x1:=Kc hb x1
      replace y0:=Kc hb y0
      replace y1:=Kc hb y1
      replace CB:=Lib.hid (CB.out.Ac hb)
      replace CN:=Lib.hid (CN.out.Ac hb)
      replace CX:=Lib.hid (CX.out.Ac hb)
      replace CY:=Lib.hid (CY.out.Ac hb)
      replace K:=Lib.hid (K.out.next hb)
      clear hb
      go_wp2
      go_ret
      exact ⟨rfl,K.out.below⟩
     ·skip
      (try go_simp)
      go_wp2_with fail
      obtain ⟨Y,hY⟩:∃ N,w8.heap.size=N:=⟨_,rfl⟩
      have ltYS:S<Y:=by have h_:=World.block_lt_of_cell? _ _ t0;simp only [hY] at h_;exact h_
      have ltYB:B<Y:=by have h_:=World.block_lt_of_cell? _ _ m0;simp only [hY] at h_;exact h_
      have ltYN:N<Y:=by have h_:=World.block_lt_of_cell? _ _ n0;simp only [hY] at h_;exact h_
      have ltYX:X<Y:=by have h_:=World.block_lt_of_cell? _ _ x0;simp only [hY] at h_;exact h_
      have YY:=K
      have hb:=Ab w8 (.cells #[.string ⟨#[]⟩,.string ⟨#[]⟩] 23)
      replace t0:=Kc hb t0
      replace t1:=Kc hb t1
      replace t2:=Kc hb t2
      replace t3:=Kc hb t3
      replace m0:=Kc hb m0
      replace m1:=Kc hb m1
      replace n0:=Kc hb n0
      replace n1:=Kc hb n1
      replace x0:=Kc hb x0
      replace x1:=Kc hb x1
      replace CB:=Lib.hid (CB.out.Ac hb)
      replace CN:=Lib.hid (CN.out.Ac hb)
      replace CX:=Lib.hid (CX.out.Ac hb)
      replace K:=Lib.hid (K.out.next hb)
      have ZY:=Lib.hid hb
      clear hb
      have CY:=Lib.hid (show CAt Y ⟨#[]⟩ ⟨#[]⟩ (w8.alloc (.cells #[.string ⟨#[]⟩,.string ⟨#[]⟩] 23)) from hY ▸ CAt.new w8 ⟨#[]⟩ ⟨#[]⟩)
      clear hHeld
      refine hK.out _ _ ?_ (λhHeld=>?_)
      ·exact ⟨t0,t1,t2,t3,m0,m1,n0,n1,x0,x1⟩
      clear hK K_
      refine wpAnyH_ready (rs:=[3]) (by kernel_rfl) (by simp) ?_
      refine AllReadyH.cons (o:={ dst:=some 69,op:=.call { callee:=.value (.func 21),args:=#[.tmp 66,.tmp 68],argTypes:=#[31,9] },type:=_,pos := "law.go:84", after:=_,guard:=none }) rfl (λK_ hK=>?_) AllReadyH.nil
      (try go_simp)
      go_at_call 21
      refine (KPP.out _ _ K.out.table).mono ?_
      rintro e w9 ⟨rfl,hb⟩
      replace t0:=Kc hb t0
      replace t1:=Kc hb t1
      replace t2:=Kc hb t2
      replace t3:=Kc hb t3
      replace m0:=Kc hb m0
      replace m1:=Kc hb m1
      replace n0:=Kc hb n0
      replace n1:=Kc hb n1
      replace x0:=Kc hb x0
      replace x1:=Kc hb x1
      replace CB:=Lib.hid (CB.out.Ac hb)
      replace CN:=Lib.hid (CN.out.Ac hb)
      replace CX:=Lib.hid (CX.out.Ac hb)
      replace CY:=Lib.hid (CY.out.Ac hb)
      replace ZY:=Lib.hid (Aa ZY.out hb)
      replace K:=Lib.hid (K.out.next hb)
      clear hb
      go_wp2_with fail
      clear hHeld
      refine hK.out _ _ ?_ (λhHeld=>?_)
      ·exact ⟨t0,t1,t2,t3,m0,m1,n0,n1,x0,x1⟩
      clear hK K_
      refine Ad 4 65 (v:=?_) rfl rfl (by kernel_rfl) (by kernel_rfl) (by kernel_rfl) (λ_ _ _ h=>h) (Or.inl ⟨by rfl,?_⟩) (by assumption) ?_
      rotate_left
      ·intro w hSw
       (try dsimp only at hSw)
       go_simp
       first | done | with_reducible rfl
      simp only [Act.put,Sa,Sb,Sc]
      refine Ad 5 70 (v:=?_) rfl rfl (by kernel_rfl) (by kernel_rfl) (by kernel_rfl) (λ_ _ _ h=>h) (Or.inl ⟨by rfl,?_⟩) (by assumption) ?_
      rotate_left
      ·intro w hSw
       (try dsimp only at hSw)
       go_simp
       first | done | with_reducible rfl
      simp only [Act.put,Sa,Sb,Sc]
      refine Ad 6 71 (v:=?_) rfl rfl (by kernel_rfl) (by kernel_rfl) (by kernel_rfl) (λ_ _ _ h=>h) (Or.inl ⟨by rfl,?_⟩) (by assumption) ?_
      rotate_left
      ·intro w hSw
       (try dsimp only at hSw)
       go_simp
       first | done | with_reducible rfl
      simp only [Act.put,Sa,Sb,Sc]
      refine wpAnyH_ready (rs:=[8]) (by kernel_rfl) (by simp) ?_
      refine AllReadyH.cons (o:={ dst:=none,op:=.store 23 (.tmp 12) (.tmp 70),type:=_,pos := "law.go:84", after:=_,guard:=none }) rfl (λK_ hK=>?_) AllReadyH.nil
      have a0:=CY.out.c0
      have a1:=CY.out.c1
      have a2:=CY.out.fr 0
      have a3:=CY.out.fr 1
      (try go_simp)
      go_wp2_with fail
      clear a0 a1 a2 a3
      replace t0:=(Ae (k:=1) (z:=.string Q) (Nat.ne_of_lt ltYS)).trans ((Ae (k:=0) (z:=.string P) (Nat.ne_of_lt ltYS)).trans t0)
      replace t1:=(Ae (k:=1) (z:=.string Q) (Nat.ne_of_lt ltYS)).trans ((Ae (k:=0) (z:=.string P) (Nat.ne_of_lt ltYS)).trans t1)
      replace t2:=(Ae (k:=1) (z:=.string Q) (Nat.ne_of_lt ltYS)).trans ((Ae (k:=0) (z:=.string P) (Nat.ne_of_lt ltYS)).trans t2)
      replace t3:=(Ae (k:=1) (z:=.string Q) (Nat.ne_of_lt ltYS)).trans ((Ae (k:=0) (z:=.string P) (Nat.ne_of_lt ltYS)).trans t3)
      replace m0:=(Ae (k:=1) (z:=.string Q) (Nat.ne_of_lt ltYB)).trans ((Ae (k:=0) (z:=.string P) (Nat.ne_of_lt ltYB)).trans m0)
      replace m1:=(Ae (k:=1) (z:=.string Q) (Nat.ne_of_lt ltYB)).trans ((Ae (k:=0) (z:=.string P) (Nat.ne_of_lt ltYB)).trans m1)
      replace n0:=(Ae (k:=1) (z:=.string Q) (Nat.ne_of_lt ltYN)).trans ((Ae (k:=0) (z:=.string P) (Nat.ne_of_lt ltYN)).trans n0)
      replace n1:=(Ae (k:=1) (z:=.string Q) (Nat.ne_of_lt ltYN)).trans ((Ae (k:=0) (z:=.string P) (Nat.ne_of_lt ltYN)).trans n1)
      replace x0:=(Ae (k:=1) (z:=.string Q) (Nat.ne_of_lt ltYX)).trans ((Ae (k:=0) (z:=.string P) (Nat.ne_of_lt ltYX)).trans x0)
      replace x1:=(Ae (k:=1) (z:=.string Q) (Nat.ne_of_lt ltYX)).trans ((Ae (k:=0) (z:=.string P) (Nat.ne_of_lt ltYX)).trans x1)
      replace CB:=Lib.hid ((CB.out.other (Nat.ne_of_lt ltYB) 0 (.string P)).other (Nat.ne_of_lt ltYB) 1 (.string Q))
      replace CN:=Lib.hid ((CN.out.other (Nat.ne_of_lt ltYN) 0 (.string P)).other (Nat.ne_of_lt ltYN) 1 (.string Q))
      replace CX:=Lib.hid ((CX.out.other (Nat.ne_of_lt ltYX) 0 (.string P)).other (Nat.ne_of_lt ltYX) 1 (.string Q))
      replace CY:=Lib.hid ((CY.out.My P).P8 Q)
      replace ZY:=Lib.hid ((ZY.out.setCell (p:=⟨Y,0,none⟩) (show _<=Y by omega) (.string P)).setCell (p:=⟨Y,1,none⟩) (show _<=Y by omega) (.string Q))
      replace K:=Lib.hid (YY.out.next ZY.out)
      clear ZY
      clear hHeld
      refine hK.out _ _ ?_ (λhHeld=>?_)
      ·exact ⟨t0,t1,t2,t3,m0,m1,n0,n1,x0,x1⟩
      clear hK K_
      refine Ad 9 13 (v:=?_) rfl rfl (by kernel_rfl) (by kernel_rfl) (by kernel_rfl) (λ_ _ _ h=>h) (Or.inl ⟨by rfl,?_⟩) (by assumption) ?_
      rotate_left
      ·intro w hSw
       (try dsimp only at hSw)
       go_simp
       first | done | with_reducible rfl
      simp only [Act.put,Sa,Sb,Sc]
      refine wpAnyH_done (by kernel_rfl) ?_ _
      have y0:=CY.out.c0
      have y1:=CY.out.c1
      go_wp2_with fail
      refine (KR.out _ _ K.out.table).mono ?_
      rintro e w10 ⟨rfl,hb⟩
      replace t0:=Kc hb t0
      replace t1:=Kc hb t1
      replace t2:=Kc hb t2
      replace t3:=Kc hb t3
      replace m0:=Kc hb m0
      replace m1:=Kc hb m1
      replace n0:=Kc hb n0
      replace n1:=Kc hb n1
      replace x0:=Kc hb x0
      replace x1:=Kc hb x1
      replace y0:=Kc hb y0
      replace y1:=Kc hb y1
      replace CB:=Lib.hid (CB.out.Ac hb)
      replace CN:=Lib.hid (CN.out.Ac hb)
      replace CX:=Lib.hid (CX.out.Ac hb)
      replace CY:=Lib.hid (CY.out.Ac hb)
      replace K:=Lib.hid (K.out.next hb)
      clear hb
      go_wp2
      go_ret
      exact ⟨rfl,K.out.below⟩
    ·skip
     (try go_simp)
     go_wp2_with fail
     obtain ⟨Y,hY⟩:∃ N,d7.heap.size=N:=⟨_,rfl⟩
     have ltYS:S<Y:=by have h_:=World.block_lt_of_cell? _ _ t0;simp only [hY] at h_;exact h_
     have ltYB:B<Y:=by have h_:=World.block_lt_of_cell? _ _ m0;simp only [hY] at h_;exact h_
     have ltYN:N<Y:=by have h_:=World.block_lt_of_cell? _ _ n0;simp only [hY] at h_;exact h_
     have ltYX:X<Y:=by have h_:=World.block_lt_of_cell? _ _ x0;simp only [hY] at h_;exact h_
     have YY:=K
     have hb:=Ab d7 (.cells #[.string ⟨#[]⟩,.string ⟨#[]⟩] 23)
     replace t0:=Kc hb t0
     replace t1:=Kc hb t1
     replace t2:=Kc hb t2
     replace t3:=Kc hb t3
     replace m0:=Kc hb m0
     replace m1:=Kc hb m1
     replace n0:=Kc hb n0
     replace n1:=Kc hb n1
     replace x0:=Kc hb x0
     replace x1:=Kc hb x1
     replace CB:=Lib.hid (CB.out.Ac hb)
     replace CN:=Lib.hid (CN.out.Ac hb)
     replace CX:=Lib.hid (CX.out.Ac hb)
     replace K:=Lib.hid (K.out.next hb)
     have ZY:=Lib.hid hb
     clear hb
     have CY:=Lib.hid (show CAt Y ⟨#[]⟩ ⟨#[]⟩ (d7.alloc (.cells #[.string ⟨#[]⟩,.string ⟨#[]⟩] 23)) from hY ▸ CAt.new d7 ⟨#[]⟩ ⟨#[]⟩)
     clear hHeld
     refine hK.out _ _ ?_ (λhHeld=>?_)
     ·exact ⟨t0,t1,t2,t3,m0,m1,n0,n1,x0,x1⟩
     clear hK K_
     refine wpAnyH_ready (rs:=[2]) (by kernel_rfl) (by simp) ?_
     refine AllReadyH.cons (o:={ dst:=some 68,op:=.call { callee:=.value (.func 17),args:=#[.tmp 67],argTypes:=#[23] },type:=_,pos := "law.go:84", after:=_,guard:=none }) rfl (λK_ hK=>?_) AllReadyH.nil
     (try go_simp)
     go_at_call 17
     refine (KPR.out _).mono ?_
     rintro e w8 ⟨rfl,hb⟩
     replace t0:=Kc hb t0
     replace t1:=Kc hb t1
     replace t2:=Kc hb t2
     replace t3:=Kc hb t3
     replace m0:=Kc hb m0
     replace m1:=Kc hb m1
     replace n0:=Kc hb n0
     replace n1:=Kc hb n1
     replace x0:=Kc hb x0
     replace x1:=Kc hb x1
     replace CB:=Lib.hid (CB.out.Ac hb)
     replace CN:=Lib.hid (CN.out.Ac hb)
     replace CX:=Lib.hid (CX.out.Ac hb)
     replace CY:=Lib.hid (CY.out.Ac hb)
     replace ZY:=Lib.hid (Aa ZY.out hb)
     replace K:=Lib.hid (K.out.next hb)
     clear hb
     go_wp2_with fail
     clear hHeld
     refine hK.out _ _ ?_ (λhHeld=>?_)
     ·exact ⟨t0,t1,t2,t3,m0,m1,n0,n1,x0,x1⟩
     clear hK K_
     refine wpAnyH_ready (rs:=[3]) (by kernel_rfl) (by simp) ?_
     refine AllReadyH.cons (o:={ dst:=some 69,op:=.call { callee:=.value (.func 21),args:=#[.tmp 66,.tmp 68],argTypes:=#[31,9] },type:=_,pos := "law.go:84", after:=_,guard:=none }) rfl (λK_ hK=>?_) AllReadyH.nil
     (try go_simp)
     go_at_call 21
     refine (KPP.out _ _ K.out.table).mono ?_
     rintro e w9 ⟨rfl,hb⟩
     replace t0:=Kc hb t0
     replace t1:=Kc hb t1
     replace t2:=Kc hb t2
     replace t3:=Kc hb t3
     replace m0:=Kc hb m0
     replace m1:=Kc hb m1
     replace n0:=Kc hb n0
     replace n1:=Kc hb n1
     replace x0:=Kc hb x0
     replace x1:=Kc hb x1
     replace CB:=Lib.hid (CB.out.Ac hb)
     replace CN:=Lib.hid (CN.out.Ac hb)
     replace CX:=Lib.hid (CX.out.Ac hb)
     replace CY:=Lib.hid (CY.out.Ac hb)
     replace ZY:=Lib.hid (Aa ZY.out hb)
     replace K:=Lib.hid (K.out.next hb)
     clear hb
     go_wp2_with fail
     clear hHeld
     refine hK.out _ _ ?_ (λhHeld=>?_)
     ·exact ⟨t0,t1,t2,t3,m0,m1,n0,n1,x0,x1⟩
     clear hK K_
     refine Ad 4 65 (v:=?_) rfl rfl (by kernel_rfl) (by kernel_rfl) (by kernel_rfl) (λ_ _ _ h=>h) (Or.inl ⟨by rfl,?_⟩) (by assumption) ?_
     rotate_left
     ·intro w hSw
      (try dsimp only at hSw)
      go_simp
      first | done | with_reducible rfl
     simp only [Act.put,Sa,Sb,Sc]
     refine Ad 5 70 (v:=?_) rfl rfl (by kernel_rfl) (by kernel_rfl) (by kernel_rfl) (λ_ _ _ h=>h) (Or.inl ⟨by rfl,?_⟩) (by assumption) ?_
     rotate_left
     ·intro w hSw
      (try dsimp only at hSw)
      go_simp
      first | done | with_reducible rfl
     simp only [Act.put,Sa,Sb,Sc]
     refine Ad 6 71 (v:=?_) rfl rfl (by kernel_rfl) (by kernel_rfl) (by kernel_rfl) (λ_ _ _ h=>h) (Or.inl ⟨by rfl,?_⟩) (by assumption) ?_
     rotate_left
     ·intro w hSw
      (try dsimp only at hSw)
      go_simp
      first | done | with_reducible rfl
     simp only [Act.put,Sa,Sb,Sc]
     refine wpAnyH_ready (rs:=[8]) (by kernel_rfl) (by simp) ?_
     refine AllReadyH.cons (o:={ dst:=none,op:=.store 23 (.tmp 12) (.tmp 70),type:=_,pos := "law.go:84", after:=_,guard:=none }) rfl (λK_ hK=>?_) AllReadyH.nil
     have a0:=CY.out.c0
     have a1:=CY.out.c1
     have a2:=CY.out.fr 0
     have a3:=CY.out.fr 1
     (try go_simp)
     go_wp2_with fail
     clear a0 a1 a2 a3
     replace t0:=(Ae (k:=1) (z:=.string Q) (Nat.ne_of_lt ltYS)).trans ((Ae (k:=0) (z:=.string P) (Nat.ne_of_lt ltYS)).trans t0)
     replace t1:=(Ae (k:=1) (z:=.string Q) (Nat.ne_of_lt ltYS)).trans ((Ae (k:=0) (z:=.string P) (Nat.ne_of_lt ltYS)).trans t1)
     replace t2:=(Ae (k:=1) (z:=.string Q) (Nat.ne_of_lt ltYS)).trans ((Ae (k:=0) (z:=.string P) (Nat.ne_of_lt ltYS)).trans t2)
     replace t3:=(Ae (k:=1) (z:=.string Q) (Nat.ne_of_lt ltYS)).trans ((Ae (k:=0) (z:=.string P) (Nat.ne_of_lt ltYS)).trans t3)
     replace m0:=(Ae (k:=1) (z:=.string Q) (Nat.ne_of_lt ltYB)).trans ((Ae (k:=0) (z:=.string P) (Nat.ne_of_lt ltYB)).trans m0)
     replace m1:=(Ae (k:=1) (z:=.string Q) (Nat.ne_of_lt ltYB)).trans ((Ae (k:=0) (z:=.string P) (Nat.ne_of_lt ltYB)).trans m1)
     replace n0:=(Ae (k:=1) (z:=.string Q) (Nat.ne_of_lt ltYN)).trans ((Ae (k:=0) (z:=.string P) (Nat.ne_of_lt ltYN)).trans n0)
     replace n1:=(Ae (k:=1) (z:=.string Q) (Nat.ne_of_lt ltYN)).trans ((Ae (k:=0) (z:=.string P) (Nat.ne_of_lt ltYN)).trans n1)
     replace x0:=(Ae (k:=1) (z:=.string Q) (Nat.ne_of_lt ltYX)).trans ((Ae (k:=0) (z:=.string P) (Nat.ne_of_lt ltYX)).trans x0)
     replace x1:=(Ae (k:=1) (z:=.string Q) (Nat.ne_of_lt ltYX)).trans ((Ae (k:=0) (z:=.string P) (Nat.ne_of_lt ltYX)).trans x1)
     replace CB:=Lib.hid ((CB.out.other (Nat.ne_of_lt ltYB) 0 (.string P)).other (Nat.ne_of_lt ltYB) 1 (.string Q))
     replace CN:=Lib.hid ((CN.out.other (Nat.ne_of_lt ltYN) 0 (.string P)).other (Nat.ne_of_lt ltYN) 1 (.string Q))
     replace CX:=Lib.hid ((CX.out.other (Nat.ne_of_lt ltYX) 0 (.string P)).other (Nat.ne_of_lt ltYX) 1 (.string Q))
     replace CY:=Lib.hid ((CY.out.My P).P8 Q)
     replace ZY:=Lib.hid ((ZY.out.setCell (p:=⟨Y,0,none⟩) (show _<=Y by omega) (.string P)).setCell (p:=⟨Y,1,none⟩) (show _<=Y by omega) (.string Q))
     replace K:=Lib.hid (YY.out.next ZY.out)
     clear ZY
     clear hHeld
     refine hK.out _ _ ?_ (λhHeld=>?_)
     ·exact ⟨t0,t1,t2,t3,m0,m1,n0,n1,x0,x1⟩
     clear hK K_
     refine Ad 9 13 (v:=?_) rfl rfl (by kernel_rfl) (by kernel_rfl) (by kernel_rfl) (λ_ _ _ h=>h) (Or.inl ⟨by rfl,?_⟩) (by assumption) ?_
     rotate_left
     ·intro w hSw
      (try dsimp only at hSw)
      go_simp
      first | done | with_reducible rfl
     simp only [Act.put,Sa,Sb,Sc]
     refine wpAnyH_done (by kernel_rfl) ?_ _
     have y0:=CY.out.c0
     have y1:=CY.out.c1
     go_wp2_with fail
     refine (KR.out _ _ K.out.table).mono ?_
     rintro e w10 ⟨rfl,hb⟩
     replace t0:=Kc hb t0
     replace t1:=Kc hb t1
     replace t2:=Kc hb t2
     replace t3:=Kc hb t3
     replace m0:=Kc hb m0
     replace m1:=Kc hb m1
     replace n0:=Kc hb n0
     replace n1:=Kc hb n1
     replace x0:=Kc hb x0
     replace x1:=Kc hb x1
     replace y0:=Kc hb y0
     replace y1:=Kc hb y1
     replace CB:=Lib.hid (CB.out.Ac hb)
     replace CN:=Lib.hid (CN.out.Ac hb)
     replace CX:=Lib.hid (CX.out.Ac hb)
     replace CY:=Lib.hid (CY.out.Ac hb)
     replace K:=Lib.hid (K.out.next hb)
     clear hb
     go_wp2
     go_ret
     exact ⟨rfl,K.out.below⟩
  ·have e0:(E == 0)=false:=by simpa using h0
   clear h0
   have BB:=Lib.hid (Below.refl w.heap.size w)
   go_enter Tryz.func5,Tryz.ntmps5
   obtain ⟨B,hB⟩:∃ N,w.heap.size=N:=⟨_,rfl⟩
   have hb:=Ab w (.cells #[.string x,.string y] 23)
   replace BB:=Lib.hid (Aa BB.out hb)
   clear hb
   have CB:=Lib.hid (show CAt B x y (w.alloc (.cells #[.string x,.string y] 23)) from hB ▸ CAt.new w x y)
   have m0:=CB.out.c0
   have m1:=CB.out.c1
   go_wp2_with fail
   refine (Ar _).mono ?_
   rintro e w1 ⟨rfl,hb⟩
   replace m0:=Kc hb m0
   replace m1:=Kc hb m1
   replace CB:=Lib.hid (CB.out.Ac hb)
   replace BB:=Lib.hid (Aa BB.out hb)
   clear hb
   go_wp2_with fail
   refine (Di x y _ hx hy).mono ?_
   rintro e w2 ⟨rfl,hb⟩
   replace m0:=Kc hb m0
   replace m1:=Kc hb m1
   replace CB:=Lib.hid (CB.out.Ac hb)
   replace BB:=Lib.hid (Aa BB.out hb)
   clear hb
   go_wp2_with fail
   refine (Dz _).mono ?_
   rintro e w3 ⟨tt,rfl,hT,hb⟩
   obtain ⟨b0,b1,b2,b3,rfl,-,-,-,-⟩:=id hT
   replace m0:=Kc hb m0
   replace m1:=Kc hb m1
   replace CB:=Lib.hid (CB.out.Ac hb)
   replace BB:=Lib.hid (Aa BB.out hb)
   have K:=Lib.hid (Cw (b0:=b0) (b1:=b1) (b2:=b2) (b3:=b3) BB.out hT 31)
   clear hT hb BB
   obtain ⟨S,hS⟩:∃ N,w3.heap.size=N:=⟨_,rfl⟩
   rw [hS] at K
   have hb:=Ab w3 (.cells #[.slice (some ⟨b0,0,none⟩) 74 74,.slice (some ⟨b1,0,none⟩) 10 10,.slice (some ⟨b2,0,none⟩) 11 11,.slice (some ⟨b3,0,none⟩) 42 42] 31)
   replace m0:=Kc hb m0
   replace m1:=Kc hb m1
   replace CB:=Lib.hid (CB.out.Ac hb)
   clear hb
   obtain ⟨-,t0,t1,t2,t3⟩:=K.out.held
   go_wp2_with fail
   refine (Cg (.agg #[.slice (some ⟨b0,0,none⟩) 74 74,.slice (some ⟨b1,0,none⟩) 10 10,.slice (some ⟨b2,0,none⟩) 11 11,.slice (some ⟨b3,0,none⟩) 42 42]) x y _ K.out.table LX.out.1 LY.out HE.out).mono ?_
   rintro e w4 ⟨rfl,hb⟩
   replace m0:=Kc hb m0
   replace m1:=Kc hb m1
   replace t0:=Kc hb t0
   replace t1:=Kc hb t1
   replace t2:=Kc hb t2
   replace t3:=Kc hb t3
   replace CB:=Lib.hid (CB.out.Ac hb)
   replace K:=Lib.hid (K.out.next hb)
   clear hb
   go_wp2_with fail
   refine (KP.out _ _ K.out.table).mono ?_
   rintro e w5 ⟨rfl,hb⟩
   replace m0:=Kc hb m0
   replace m1:=Kc hb m1
   replace t0:=Kc hb t0
   replace t1:=Kc hb t1
   replace t2:=Kc hb t2
   replace t3:=Kc hb t3
   replace CB:=Lib.hid (CB.out.Ac hb)
   replace K:=Lib.hid (K.out.next hb)
   clear hb
   obtain ⟨X,hX⟩:∃ N,w5.heap.size=N:=⟨_,rfl⟩
   have ltXB:B<X:=by have h_:=World.block_lt_of_cell? _ _ m0;simp only [hX] at h_;exact h_
   have ltXS:S<X:=by have h_:=World.block_lt_of_cell? _ _ t0;simp only [hX] at h_;exact h_
   have hb:=Ab w5 (.cells #[.string P,.string Q] 23)
   replace m0:=Kc hb m0
   replace m1:=Kc hb m1
   replace t0:=Kc hb t0
   replace t1:=Kc hb t1
   replace t2:=Kc hb t2
   replace t3:=Kc hb t3
   replace CB:=Lib.hid (CB.out.Ac hb)
   replace K:=Lib.hid (K.out.next hb)
   clear hb
   have CX:=Lib.hid (show CAt X P Q (w5.alloc (.cells #[.string P,.string Q] 23)) from hX ▸ CAt.new w5 P Q)
   have x0:=CX.out.c0
   have x1:=CX.out.c1
   go_wp2
   replace m0:(World.drew (w5.alloc (.cells #[.string P,.string Q] 23))).cell? ⟨B,0,none⟩=some (.string x):=m0
   replace m1:(World.drew (w5.alloc (.cells #[.string P,.string Q] 23))).cell? ⟨B,1,none⟩=some (.string y):=m1
   replace t0:(World.drew (w5.alloc (.cells #[.string P,.string Q] 23))).cell? ⟨S,0,none⟩=some (.slice (some ⟨b0,0,none⟩) 74 74):=t0
   replace t1:(World.drew (w5.alloc (.cells #[.string P,.string Q] 23))).cell? ⟨S,1,none⟩=some (.slice (some ⟨b1,0,none⟩) 10 10):=t1
   replace t2:(World.drew (w5.alloc (.cells #[.string P,.string Q] 23))).cell? ⟨S,2,none⟩=some (.slice (some ⟨b2,0,none⟩) 11 11):=t2
   replace t3:(World.drew (w5.alloc (.cells #[.string P,.string Q] 23))).cell? ⟨S,3,none⟩=some (.slice (some ⟨b3,0,none⟩) 42 42):=t3
   replace x0:(World.drew (w5.alloc (.cells #[.string P,.string Q] 23))).cell? ⟨X,0,none⟩=some (.string P):=x0
   replace x1:(World.drew (w5.alloc (.cells #[.string P,.string Q] 23))).cell? ⟨X,1,none⟩=some (.string Q):=x1
   replace K:=Lib.hid K.out.drew
   replace CB:=Lib.hid (CB.out.Ac (Below.refl _ _).drew)
   replace CX:=Lib.hid (CX.out.Ac (Below.refl _ _).drew)
   refine wp_region_held_drew (S:=(λw':World=>w'.cell? ⟨B,0,none⟩=some (.string x)/\w'.cell? ⟨B,1,none⟩=some (.string y)/\w'.cell? ⟨S,0,none⟩=some (.slice (some ⟨b0,0,none⟩) 74 74)/\w'.cell? ⟨S,1,none⟩=some (.slice (some ⟨b1,0,none⟩) 10 10)/\w'.cell? ⟨S,2,none⟩=some (.slice (some ⟨b2,0,none⟩) 11 11)/\w'.cell? ⟨S,3,none⟩=some (.slice (some ⟨b3,0,none⟩) 42 42)/\w'.cell? ⟨X,0,none⟩=some (.string P)/\w'.cell? ⟨X,1,none⟩=some (.string Q))) (by kernel_rfl) ?_ (λhHeld=>?_)
   ·exact ⟨m0,m1,t0,t1,t2,t3,x0,x1⟩
   generalize hwd:(World.drew (w5.alloc (.cells #[.string P,.string Q] 23)))=d6 at m0 m1 t0 t1 t2 t3 x0 x1 CB CX K hHeld ⊢
   clear hwd
   refine Ad 0 66 (v:=?_) rfl rfl (by kernel_rfl) (by kernel_rfl) (by kernel_rfl) (λ_ _ _ h=>h) (Or.inl ⟨by rfl,?_⟩) (by assumption) ?_
   rotate_left
   ·intro w hSw
    (try dsimp only at hSw)
    go_simp
    first | done | with_reducible rfl
   simp only [Act.put,Sa,Sb,Sc]
   refine Ad 1 67 (v:=?_) rfl rfl (by kernel_rfl) (by kernel_rfl) (by kernel_rfl) (λ_ _ _ h=>h) (Or.inl ⟨by rfl,?_⟩) (by assumption) ?_
   rotate_left
   ·intro w hSw
    (try dsimp only at hSw)
    go_simp
    first | done | with_reducible rfl
   simp only [Act.put,Sa,Sb,Sc]
   refine wpAnyH_ready (rs:=[2,7]) (by kernel_rfl) (by simp) ?_
   refine AllReadyH.cons (o:={ dst:=some 68,op:=.call { callee:=.value (.func 17),args:=#[.tmp 67],argTypes:=#[23] },type:=_,pos := "law.go:84", after:=_,guard:=none }) rfl (λK_ hK=>?_) (AllReadyH.cons (o:={ dst:=some 12,op:=.alloc 23,type:=_,pos := "law.go:84", after:=_,guard:=none }) rfl (λK_ hK=>?_) AllReadyH.nil)
   ·skip
    (try go_simp)
    go_at_call 17
    refine (KPR.out _).mono ?_
    rintro e w7 ⟨rfl,hb⟩
    replace m0:=Kc hb m0
    replace m1:=Kc hb m1
    replace t0:=Kc hb t0
    replace t1:=Kc hb t1
    replace t2:=Kc hb t2
    replace t3:=Kc hb t3
    replace x0:=Kc hb x0
    replace x1:=Kc hb x1
    replace CB:=Lib.hid (CB.out.Ac hb)
    replace CX:=Lib.hid (CX.out.Ac hb)
    replace K:=Lib.hid (K.out.next hb)
    clear hb
    go_wp2_with fail
    clear hHeld
    refine hK.out _ _ ?_ (λhHeld=>?_)
    ·exact ⟨m0,m1,t0,t1,t2,t3,x0,x1⟩
    clear hK K_
    refine wpAnyH_ready (rs:=[3,7]) (by kernel_rfl) (by simp) ?_
    refine AllReadyH.cons (o:={ dst:=some 69,op:=.call { callee:=.value (.func 21),args:=#[.tmp 66,.tmp 68],argTypes:=#[31,9] },type:=_,pos := "law.go:84", after:=_,guard:=none }) rfl (λK_ hK=>?_) (AllReadyH.cons (o:={ dst:=some 12,op:=.alloc 23,type:=_,pos := "law.go:84", after:=_,guard:=none }) rfl (λK_ hK=>?_) AllReadyH.nil)
    ·skip
     (try go_simp)
     go_at_call 21
     refine (KPP.out _ _ K.out.table).mono ?_
     rintro e w8 ⟨rfl,hb⟩
     replace m0:=Kc hb m0
     replace m1:=Kc hb m1
     replace t0:=Kc hb t0
     replace t1:=Kc hb t1
     replace t2:=Kc hb t2
     replace t3:=Kc hb t3
     replace x0:=Kc hb x0
     replace x1:=Kc hb x1
     replace CB:=Lib.hid (CB.out.Ac hb)
     replace CX:=Lib.hid (CX.out.Ac hb)
     replace K:=Lib.hid (K.out.next hb)
     clear hb
     go_wp2_with fail
     clear hHeld
     refine hK.out _ _ ?_ (λhHeld=>?_)
     ·exact ⟨m0,m1,t0,t1,t2,t3,x0,x1⟩
     clear hK K_
     refine Ad 4 65 (v:=?_) rfl rfl (by kernel_rfl) (by kernel_rfl) (by kernel_rfl) (λ_ _ _ h=>h) (Or.inl ⟨by rfl,?_⟩) (by assumption) ?_
     rotate_left
     ·intro w hSw
      (try dsimp only at hSw)
      go_simp
      first | done | with_reducible rfl
     simp only [Act.put,Sa,Sb,Sc]
     refine Ad 5 70 (v:=?_) rfl rfl (by kernel_rfl) (by kernel_rfl) (by kernel_rfl) (λ_ _ _ h=>h) (Or.inl ⟨by rfl,?_⟩) (by assumption) ?_
     rotate_left
     ·intro w hSw
      (try dsimp only at hSw)
      go_simp
      first | done | with_reducible rfl
     simp only [Act.put,Sa,Sb,Sc]
     refine Ad 6 71 (v:=?_) rfl rfl (by kernel_rfl) (by kernel_rfl) (by kernel_rfl) (λ_ _ _ h=>h) (Or.inl ⟨by rfl,?_⟩) (by assumption) ?_
     rotate_left
     ·intro w hSw
      (try dsimp only at hSw)
      go_simp
      first | done | with_reducible rfl
     simp only [Act.put,Sa,Sb,Sc]
     refine wpAnyH_ready (rs:=[7]) (by kernel_rfl) (by simp) ?_
     refine AllReadyH.cons (o:={ dst:=some 12,op:=.alloc 23,type:=_,pos := "law.go:84", after:=_,guard:=none }) rfl (λK_ hK=>?_) AllReadyH.nil
     (try go_simp)
     go_wp2_with fail
     obtain ⟨Y,hY⟩:∃ N,w8.heap.size=N:=⟨_,rfl⟩
     have ltYB:B<Y:=by have h_:=World.block_lt_of_cell? _ _ m0;simp only [hY] at h_;exact h_
     have ltYS:S<Y:=by have h_:=World.block_lt_of_cell? _ _ t0;simp only [hY] at h_;exact h_
     have ltYX:X<Y:=by have h_:=World.block_lt_of_cell? _ _ x0;simp only [hY] at h_;exact h_
     have YY:=K
     have hb:=Ab w8 (.cells #[.string ⟨#[]⟩,.string ⟨#[]⟩] 23)
     replace m0:=Kc hb m0
     replace m1:=Kc hb m1
     replace t0:=Kc hb t0
     replace t1:=Kc hb t1
     replace t2:=Kc hb t2
     replace t3:=Kc hb t3
     replace x0:=Kc hb x0
     replace x1:=Kc hb x1
     replace CB:=Lib.hid (CB.out.Ac hb)
     replace CX:=Lib.hid (CX.out.Ac hb)
     replace K:=Lib.hid (K.out.next hb)
     have ZY:=Lib.hid hb
     clear hb
     have CY:=Lib.hid (show CAt Y ⟨#[]⟩ ⟨#[]⟩ (w8.alloc (.cells #[.string ⟨#[]⟩,.string ⟨#[]⟩] 23)) from hY ▸ CAt.new w8 ⟨#[]⟩ ⟨#[]⟩)
     clear hHeld
     refine hK.out _ _ ?_ (λhHeld=>?_)
     ·exact ⟨m0,m1,t0,t1,t2,t3,x0,x1⟩
     clear hK K_
     refine wpAnyH_ready (rs:=[8]) (by kernel_rfl) (by simp) ?_
     refine AllReadyH.cons (o:={ dst:=none,op:=.store 23 (.tmp 12) (.tmp 70),type:=_,pos := "law.go:84", after:=_,guard:=none }) rfl (λK_ hK=>?_) AllReadyH.nil
     have a0:=CY.out.c0
     have a1:=CY.out.c1
     have a2:=CY.out.fr 0
     have a3:=CY.out.fr 1
     (try go_simp)
     go_wp2_with fail
     clear a0 a1 a2 a3
     have hb:=Ab w8 (.cells #[.string P,.string Q] 23)
     have hb0:=Ab w8 (.cells #[.string ⟨#[]⟩,.string ⟨#[]⟩] 23)
     replace m0:=(hb.cell (p:=⟨B,0,none⟩) (show B<w8.heap.size by rw [hY];exact ltYB)).trans (((hb0.cell (p:=⟨B,0,none⟩) (show B<w8.heap.size by rw [hY];exact ltYB)).symm).trans m0)
     replace m1:=(hb.cell (p:=⟨B,1,none⟩) (show B<w8.heap.size by rw [hY];exact ltYB)).trans (((hb0.cell (p:=⟨B,1,none⟩) (show B<w8.heap.size by rw [hY];exact ltYB)).symm).trans m1)
     replace t0:=(hb.cell (p:=⟨S,0,none⟩) (show S<w8.heap.size by rw [hY];exact ltYS)).trans (((hb0.cell (p:=⟨S,0,none⟩) (show S<w8.heap.size by rw [hY];exact ltYS)).symm).trans t0)
     replace t1:=(hb.cell (p:=⟨S,1,none⟩) (show S<w8.heap.size by rw [hY];exact ltYS)).trans (((hb0.cell (p:=⟨S,1,none⟩) (show S<w8.heap.size by rw [hY];exact ltYS)).symm).trans t1)
     replace t2:=(hb.cell (p:=⟨S,2,none⟩) (show S<w8.heap.size by rw [hY];exact ltYS)).trans (((hb0.cell (p:=⟨S,2,none⟩) (show S<w8.heap.size by rw [hY];exact ltYS)).symm).trans t2)
     replace t3:=(hb.cell (p:=⟨S,3,none⟩) (show S<w8.heap.size by rw [hY];exact ltYS)).trans (((hb0.cell (p:=⟨S,3,none⟩) (show S<w8.heap.size by rw [hY];exact ltYS)).symm).trans t3)
     replace x0:=(hb.cell (p:=⟨X,0,none⟩) (show X<w8.heap.size by rw [hY];exact ltYX)).trans (((hb0.cell (p:=⟨X,0,none⟩) (show X<w8.heap.size by rw [hY];exact ltYX)).symm).trans x0)
     replace x1:=(hb.cell (p:=⟨X,1,none⟩) (show X<w8.heap.size by rw [hY];exact ltYX)).trans (((hb0.cell (p:=⟨X,1,none⟩) (show X<w8.heap.size by rw [hY];exact ltYX)).symm).trans x1)
     replace CB:=Lib.hid (show CAt _ _ _ _ from ⟨(hb.block B (by rw [hY];exact ltYB)).trans ((hb0.block B (by rw [hY];exact ltYB)).symm.trans CB.out.blk)⟩)
     replace CX:=Lib.hid (show CAt _ _ _ _ from ⟨(hb.block X (by rw [hY];exact ltYX)).trans ((hb0.block X (by rw [hY];exact ltYX)).symm.trans CX.out.blk)⟩)
     replace CY:=Lib.hid (show CAt Y P Q (w8.alloc (.cells #[.string P,.string Q] 23)) from hY ▸ CAt.new w8 P Q)
     replace K:=Lib.hid (YY.out.next hb)
     clear hb hb0 ZY
     clear hHeld
     refine hK.out _ _ ?_ (λhHeld=>?_)
     ·exact ⟨m0,m1,t0,t1,t2,t3,x0,x1⟩
     clear hK K_
     refine Ad 9 13 (v:=?_) rfl rfl (by kernel_rfl) (by kernel_rfl) (by kernel_rfl) (λ_ _ _ h=>h) (Or.inl ⟨by rfl,?_⟩) (by assumption) ?_
     rotate_left
     ·intro w hSw
      (try dsimp only at hSw)
      go_simp
      first | done | with_reducible rfl
     simp only [Act.put,Sa,Sb,Sc]
     refine wpAnyH_done (by kernel_rfl) ?_ _
     have y0:=CY.out.c0
     have y1:=CY.out.c1
     go_wp2_with fail
     refine (KR.out _ _ K.out.table).mono ?_
     rintro e w9 ⟨rfl,hb⟩
     replace m0:=Kc hb m0
     replace m1:=Kc hb m1
     replace t0:=Kc hb t0
     replace t1:=Kc hb t1
     replace t2:=Kc hb t2
     replace t3:=Kc hb t3
     replace x0:=Kc hb x0
     replace x1:=Kc hb x1
     replace y0:=Kc hb y0
     replace y1:=Kc hb y1
     replace CB:=Lib.hid (CB.out.Ac hb)
     replace CX:=Lib.hid (CX.out.Ac hb)
     replace CY:=Lib.hid (CY.out.Ac hb)
     replace K:=Lib.hid (K.out.next hb)
     clear hb
     go_wp2
     go_ret
     exact ⟨rfl,K.out.below⟩
    ·skip
     (try go_simp)
     go_wp2_with fail
     obtain ⟨Y,hY⟩:∃ N,w7.heap.size=N:=⟨_,rfl⟩
     have ltYB:B<Y:=by have h_:=World.block_lt_of_cell? _ _ m0;simp only [hY] at h_;exact h_
     have ltYS:S<Y:=by have h_:=World.block_lt_of_cell? _ _ t0;simp only [hY] at h_;exact h_
     have ltYX:X<Y:=by have h_:=World.block_lt_of_cell? _ _ x0;simp only [hY] at h_;exact h_
     have YY:=K
     have hb:=Ab w7 (.cells #[.string ⟨#[]⟩,.string ⟨#[]⟩] 23)
     replace m0:=Kc hb m0
     replace m1:=Kc hb m1
     replace t0:=Kc hb t0
     replace t1:=Kc hb t1
     replace t2:=Kc hb t2
     replace t3:=Kc hb t3
     replace x0:=Kc hb x0
     replace x1:=Kc hb x1
     replace CB:=Lib.hid (CB.out.Ac hb)
     replace CX:=Lib.hid (CX.out.Ac hb)
     replace K:=Lib.hid (K.out.next hb)
     have ZY:=Lib.hid hb
     clear hb
     have CY:=Lib.hid (show CAt Y ⟨#[]⟩ ⟨#[]⟩ (w7.alloc (.cells #[.string ⟨#[]⟩,.string ⟨#[]⟩] 23)) from hY ▸ CAt.new w7 ⟨#[]⟩ ⟨#[]⟩)
     clear hHeld
     refine hK.out _ _ ?_ (λhHeld=>?_)
     ·exact ⟨m0,m1,t0,t1,t2,t3,x0,x1⟩
     clear hK K_
     refine wpAnyH_ready (rs:=[3]) (by kernel_rfl) (by simp) ?_
     refine AllReadyH.cons (o:={ dst:=some 69,op:=.call { callee:=.value (.func 21),args:=#[.tmp 66,.tmp 68],argTypes:=#[31,9] },type:=_,pos := "law.go:84", after:=_,guard:=none }) rfl (λK_ hK=>?_) AllReadyH.nil
     (try go_simp)
     go_at_call 21
     refine (KPP.out _ _ K.out.table).mono ?_
     rintro e w8 ⟨rfl,hb⟩
     replace m0:=Kc hb m0
     replace m1:=Kc hb m1
     replace t0:=Kc hb t0
     replace t1:=Kc hb t1
     replace t2:=Kc hb t2
     replace t3:=Kc hb t3
     replace x0:=Kc hb x0
     replace x1:=Kc hb x1
     replace CB:=Lib.hid (CB.out.Ac hb)
     replace CX:=Lib.hid (CX.out.Ac hb)
     replace CY:=Lib.hid (CY.out.Ac hb)
     replace ZY:=Lib.hid (Aa ZY.out hb)
     replace K:=Lib.hid (K.out.next hb)
     clear hb
     go_wp2_with fail
     clear hHeld
     refine hK.out _ _ ?_ (λhHeld=>?_)
     ·exact ⟨m0,m1,t0,t1,t2,t3,x0,x1⟩
     clear hK K_
     refine Ad 4 65 (v:=?_) rfl rfl (by kernel_rfl) (by kernel_rfl) (by kernel_rfl) (λ_ _ _ h=>h) (Or.inl ⟨by rfl,?_⟩) (by assumption) ?_
     rotate_left
     ·intro w hSw
      (try dsimp only at hSw)
      go_simp
      first | done | with_reducible rfl
     simp only [Act.put,Sa,Sb,Sc]
     refine Ad 5 70 (v:=?_) rfl rfl (by kernel_rfl) (by kernel_rfl) (by kernel_rfl) (λ_ _ _ h=>h) (Or.inl ⟨by rfl,?_⟩) (by assumption) ?_
     rotate_left
     ·intro w hSw
      (try dsimp only at hSw)
      go_simp
      first | done | with_reducible rfl
     simp only [Act.put,Sa,Sb,Sc]
     refine Ad 6 71 (v:=?_) rfl rfl (by kernel_rfl) (by kernel_rfl) (by kernel_rfl) (λ_ _ _ h=>h) (Or.inl ⟨by rfl,?_⟩) (by assumption) ?_
     rotate_left
     ·intro w hSw
      (try dsimp only at hSw)
      go_simp
      first | done | with_reducible rfl
     simp only [Act.put,Sa,Sb,Sc]
     refine wpAnyH_ready (rs:=[8]) (by kernel_rfl) (by simp) ?_
     refine AllReadyH.cons (o:={ dst:=none,op:=.store 23 (.tmp 12) (.tmp 70),type:=_,pos := "law.go:84", after:=_,guard:=none }) rfl (λK_ hK=>?_) AllReadyH.nil
     have a0:=CY.out.c0
     have a1:=CY.out.c1
     have a2:=CY.out.fr 0
     have a3:=CY.out.fr 1
     (try go_simp)
     go_wp2_with fail
     clear a0 a1 a2 a3
     replace m0:=(Ae (k:=1) (z:=.string Q) (Nat.ne_of_lt ltYB)).trans ((Ae (k:=0) (z:=.string P) (Nat.ne_of_lt ltYB)).trans m0)
     replace m1:=(Ae (k:=1) (z:=.string Q) (Nat.ne_of_lt ltYB)).trans ((Ae (k:=0) (z:=.string P) (Nat.ne_of_lt ltYB)).trans m1)
     replace t0:=(Ae (k:=1) (z:=.string Q) (Nat.ne_of_lt ltYS)).trans ((Ae (k:=0) (z:=.string P) (Nat.ne_of_lt ltYS)).trans t0)
     replace t1:=(Ae (k:=1) (z:=.string Q) (Nat.ne_of_lt ltYS)).trans ((Ae (k:=0) (z:=.string P) (Nat.ne_of_lt ltYS)).trans t1)
     replace t2:=(Ae (k:=1) (z:=.string Q) (Nat.ne_of_lt ltYS)).trans ((Ae (k:=0) (z:=.string P) (Nat.ne_of_lt ltYS)).trans t2)
     replace t3:=(Ae (k:=1) (z:=.string Q) (Nat.ne_of_lt ltYS)).trans ((Ae (k:=0) (z:=.string P) (Nat.ne_of_lt ltYS)).trans t3)
     replace x0:=(Ae (k:=1) (z:=.string Q) (Nat.ne_of_lt ltYX)).trans ((Ae (k:=0) (z:=.string P) (Nat.ne_of_lt ltYX)).trans x0)
     replace x1:=(Ae (k:=1) (z:=.string Q) (Nat.ne_of_lt ltYX)).trans ((Ae (k:=0) (z:=.string P) (Nat.ne_of_lt ltYX)).trans x1)
     replace CB:=Lib.hid ((CB.out.other (Nat.ne_of_lt ltYB) 0 (.string P)).other (Nat.ne_of_lt ltYB) 1 (.string Q))
     replace CX:=Lib.hid ((CX.out.other (Nat.ne_of_lt ltYX) 0 (.string P)).other (Nat.ne_of_lt ltYX) 1 (.string Q))
     replace CY:=Lib.hid ((CY.out.My P).P8 Q)
     replace ZY:=Lib.hid ((ZY.out.setCell (p:=⟨Y,0,none⟩) (show _<=Y by omega) (.string P)).setCell (p:=⟨Y,1,none⟩) (show _<=Y by omega) (.string Q))
     replace K:=Lib.hid (YY.out.next ZY.out)
     clear ZY
     clear hHeld
     refine hK.out _ _ ?_ (λhHeld=>?_)
     ·exact ⟨m0,m1,t0,t1,t2,t3,x0,x1⟩
     clear hK K_
     refine Ad 9 13 (v:=?_) rfl rfl (by kernel_rfl) (by kernel_rfl) (by kernel_rfl) (λ_ _ _ h=>h) (Or.inl ⟨by rfl,?_⟩) (by assumption) ?_
     rotate_left
     ·intro w hSw
      (try dsimp only at hSw)
      go_simp
      first | done | with_reducible rfl
     simp only [Act.put,Sa,Sb,Sc]
     refine wpAnyH_done (by kernel_rfl) ?_ _
     have y0:=CY.out.c0
     have y1:=CY.out.c1
     go_wp2_with fail
     refine (KR.out _ _ K.out.table).mono ?_
     rintro e w9 ⟨rfl,hb⟩
     replace m0:=Kc hb m0
     replace m1:=Kc hb m1
     replace t0:=Kc hb t0
     replace t1:=Kc hb t1
     replace t2:=Kc hb t2
     replace t3:=Kc hb t3
     replace x0:=Kc hb x0
     replace x1:=Kc hb x1
     replace y0:=Kc hb y0
     replace y1:=Kc hb y1
     replace CB:=Lib.hid (CB.out.Ac hb)
     replace CX:=Lib.hid (CX.out.Ac hb)
     replace CY:=Lib.hid (CY.out.Ac hb)
     replace K:=Lib.hid (K.out.next hb)
     clear hb
     go_wp2
     go_ret
     exact ⟨rfl,K.out.below⟩
   ·skip
    (try go_simp)
    go_wp2_with fail
    obtain ⟨Y,hY⟩:∃ N,d6.heap.size=N:=⟨_,rfl⟩
    have ltYB:B<Y:=by have h_:=World.block_lt_of_cell? _ _ m0;simp only [hY] at h_;exact h_
    have ltYS:S<Y:=by have h_:=World.block_lt_of_cell? _ _ t0;simp only [hY] at h_;exact h_
    have ltYX:X<Y:=by have h_:=World.block_lt_of_cell? _ _ x0;simp only [hY] at h_;exact h_
    have YY:=K
    have hb:=Ab d6 (.cells #[.string ⟨#[]⟩,.string ⟨#[]⟩] 23)
    replace m0:=Kc hb m0
    replace m1:=Kc hb m1
    replace t0:=Kc hb t0
    replace t1:=Kc hb t1
    replace t2:=Kc hb t2
    replace t3:=Kc hb t3
    replace x0:=Kc hb x0
    replace x1:=Kc hb x1
    replace CB:=Lib.hid (CB.out.Ac hb)
    replace CX:=Lib.hid (CX.out.Ac hb)
    replace K:=Lib.hid (K.out.next hb)
    have ZY:=Lib.hid hb
    clear hb
    have CY:=Lib.hid (show CAt Y ⟨#[]⟩ ⟨#[]⟩ (d6.alloc (.cells #[.string ⟨#[]⟩,.string ⟨#[]⟩] 23)) from hY ▸ CAt.new d6 ⟨#[]⟩ ⟨#[]⟩)
    clear hHeld
    refine hK.out _ _ ?_ (λhHeld=>?_)
    ·exact ⟨m0,m1,t0,t1,t2,t3,x0,x1⟩
    clear hK K_
    refine wpAnyH_ready (rs:=[2]) (by kernel_rfl) (by simp) ?_
    refine AllReadyH.cons (o:={ dst:=some 68,op:=.call { callee:=.value (.func 17),args:=#[.tmp 67],argTypes:=#[23] },type:=_,pos := "law.go:84", after:=_,guard:=none }) rfl (λK_ hK=>?_) AllReadyH.nil
    (try go_simp)
    go_at_call 17
    refine (KPR.out _).mono ?_
    rintro e w7 ⟨rfl,hb⟩
    replace m0:=Kc hb m0
    replace m1:=Kc hb m1
    replace t0:=Kc hb t0
    replace t1:=Kc hb t1
    replace t2:=Kc hb t2
    replace t3:=Kc hb t3
    replace x0:=Kc hb x0
    replace x1:=Kc hb x1
    replace CB:=Lib.hid (CB.out.Ac hb)
    replace CX:=Lib.hid (CX.out.Ac hb)
    replace CY:=Lib.hid (CY.out.Ac hb)
    replace ZY:=Lib.hid (Aa ZY.out hb)
    replace K:=Lib.hid (K.out.next hb)
    clear hb
    go_wp2_with fail
    clear hHeld
    refine hK.out _ _ ?_ (λhHeld=>?_)
    ·exact ⟨m0,m1,t0,t1,t2,t3,x0,x1⟩
    clear hK K_
    refine wpAnyH_ready (rs:=[3]) (by kernel_rfl) (by simp) ?_
    refine AllReadyH.cons (o:={ dst:=some 69,op:=.call { callee:=.value (.func 21),args:=#[.tmp 66,.tmp 68],argTypes:=#[31,9] },type:=_,pos := "law.go:84", after:=_,guard:=none }) rfl (λK_ hK=>?_) AllReadyH.nil
    (try go_simp)
    go_at_call 21
    refine (KPP.out _ _ K.out.table).mono ?_
    rintro e w8 ⟨rfl,hb⟩
    replace m0:=Kc hb m0
    replace m1:=Kc hb m1
    replace t0:=Kc hb t0
    replace t1:=Kc hb t1
    replace t2:=Kc hb t2
    replace t3:=Kc hb t3
    replace x0:=Kc hb x0
    replace x1:=Kc hb x1
    replace CB:=Lib.hid (CB.out.Ac hb)
    replace CX:=Lib.hid (CX.out.Ac hb)
    replace CY:=Lib.hid (CY.out.Ac hb)
    replace ZY:=Lib.hid (Aa ZY.out hb)
    replace K:=Lib.hid (K.out.next hb)
    clear hb
    go_wp2_with fail
    clear hHeld
    refine hK.out _ _ ?_ (λhHeld=>?_)
    ·exact ⟨m0,m1,t0,t1,t2,t3,x0,x1⟩
    clear hK K_
    refine Ad 4 65 (v:=?_) rfl rfl (by kernel_rfl) (by kernel_rfl) (by kernel_rfl) (λ_ _ _ h=>h) (Or.inl ⟨by rfl,?_⟩) (by assumption) ?_
    rotate_left
    ·intro w hSw
     (try dsimp only at hSw)
     go_simp
     first | done | with_reducible rfl
    simp only [Act.put,Sa,Sb,Sc]
    refine Ad 5 70 (v:=?_) rfl rfl (by kernel_rfl) (by kernel_rfl) (by kernel_rfl) (λ_ _ _ h=>h) (Or.inl ⟨by rfl,?_⟩) (by assumption) ?_
    rotate_left
    ·intro w hSw
     (try dsimp only at hSw)
     go_simp
     first | done | with_reducible rfl
    simp only [Act.put,Sa,Sb,Sc]
    refine Ad 6 71 (v:=?_) rfl rfl (by kernel_rfl) (by kernel_rfl) (by kernel_rfl) (λ_ _ _ h=>h) (Or.inl ⟨by rfl,?_⟩) (by assumption) ?_
    rotate_left
    ·intro w hSw
     (try dsimp only at hSw)
     go_simp
     first | done | with_reducible rfl
    simp only [Act.put,Sa,Sb,Sc]
    refine wpAnyH_ready (rs:=[8]) (by kernel_rfl) (by simp) ?_
    refine AllReadyH.cons (o:={ dst:=none,op:=.store 23 (.tmp 12) (.tmp 70),type:=_,pos := "law.go:84", after:=_,guard:=none }) rfl (λK_ hK=>?_) AllReadyH.nil
    have a0:=CY.out.c0
    have a1:=CY.out.c1
    have a2:=CY.out.fr 0
    have a3:=CY.out.fr 1
    (try go_simp)
    go_wp2_with fail
    clear a0 a1 a2 a3
    replace m0:=(Ae (k:=1) (z:=.string Q) (Nat.ne_of_lt ltYB)).trans ((Ae (k:=0) (z:=.string P) (Nat.ne_of_lt ltYB)).trans m0)
    replace m1:=(Ae (k:=1) (z:=.string Q) (Nat.ne_of_lt ltYB)).trans ((Ae (k:=0) (z:=.string P) (Nat.ne_of_lt ltYB)).trans m1)
    replace t0:=(Ae (k:=1) (z:=.string Q) (Nat.ne_of_lt ltYS)).trans ((Ae (k:=0) (z:=.string P) (Nat.ne_of_lt ltYS)).trans t0)
    replace t1:=(Ae (k:=1) (z:=.string Q) (Nat.ne_of_lt ltYS)).trans ((Ae (k:=0) (z:=.string P) (Nat.ne_of_lt ltYS)).trans t1)
    replace t2:=(Ae (k:=1) (z:=.string Q) (Nat.ne_of_lt ltYS)).trans ((Ae (k:=0) (z:=.string P) (Nat.ne_of_lt ltYS)).trans t2)
    replace t3:=(Ae (k:=1) (z:=.string Q) (Nat.ne_of_lt ltYS)).trans ((Ae (k:=0) (z:=.string P) (Nat.ne_of_lt ltYS)).trans t3)
    replace x0:=(Ae (k:=1) (z:=.string Q) (Nat.ne_of_lt ltYX)).trans ((Ae (k:=0) (z:=.string P) (Nat.ne_of_lt ltYX)).trans x0)
    replace x1:=(Ae (k:=1) (z:=.string Q) (Nat.ne_of_lt ltYX)).trans ((Ae (k:=0) (z:=.string P) (Nat.ne_of_lt ltYX)).trans x1)
    replace CB:=Lib.hid ((CB.out.other (Nat.ne_of_lt ltYB) 0 (.string P)).other (Nat.ne_of_lt ltYB) 1 (.string Q))
    replace CX:=Lib.hid ((CX.out.other (Nat.ne_of_lt ltYX) 0 (.string P)).other (Nat.ne_of_lt ltYX) 1 (.string Q))
    replace CY:=Lib.hid ((CY.out.My P).P8 Q)
    replace ZY:=Lib.hid ((ZY.out.setCell (p:=⟨Y,0,none⟩) (show _<=Y by omega) (.string P)).setCell (p:=⟨Y,1,none⟩) (show _<=Y by omega) (.string Q))
    replace K:=Lib.hid (YY.out.next ZY.out)
    clear ZY
    clear hHeld
    refine hK.out _ _ ?_ (λhHeld=>?_)
    ·exact ⟨m0,m1,t0,t1,t2,t3,x0,x1⟩
    clear hK K_
    refine Ad 9 13 (v:=?_) rfl rfl (by kernel_rfl) (by kernel_rfl) (by kernel_rfl) (λ_ _ _ h=>h) (Or.inl ⟨by rfl,?_⟩) (by assumption) ?_
    rotate_left
    ·intro w hSw
     (try dsimp only at hSw)
     go_simp
     first | done | with_reducible rfl
    simp only [Act.put,Sa,Sb,Sc]
    refine wpAnyH_done (by kernel_rfl) ?_ _
    have y0:=CY.out.c0
    have y1:=CY.out.c1
    go_wp2_with fail
    refine (KR.out _ _ K.out.table).mono ?_
    rintro e w9 ⟨rfl,hb⟩
    replace m0:=Kc hb m0
    replace m1:=Kc hb m1
    replace t0:=Kc hb t0
    replace t1:=Kc hb t1
    replace t2:=Kc hb t2
    replace t3:=Kc hb t3
    replace x0:=Kc hb x0
    replace x1:=Kc hb x1
    replace y0:=Kc hb y0
    replace y1:=Kc hb y1
    replace CB:=Lib.hid (CB.out.Ac hb)
    replace CX:=Lib.hid (CX.out.Ac hb)
    replace CY:=Lib.hid (CY.out.Ac hb)
    replace K:=Lib.hid (K.out.next hb)
    clear hb
    go_wp2
    go_ret
    exact ⟨rfl,K.out.below⟩
 ·have f1:(F != 0)=true:=by simpa using hF
  have KZ:=KZ.out hF
  clear hF KPR KPP KR
  by_cases h0:E=0
  ·subst h0
   replace KB:=Lib.hid (KB.out rfl)
   replace KS:=Lib.hid (KS.out rfl)
   have BB:=Lib.hid (Below.refl w.heap.size w)
   go_enter Tryz.func5,Tryz.ntmps5
   obtain ⟨B,hB⟩:∃ N,w.heap.size=N:=⟨_,rfl⟩
   have hb:=Ab w (.cells #[.string x,.string y] 23)
   replace BB:=Lib.hid (Aa BB.out hb)
   clear hb
   have CB:=Lib.hid (show CAt B x y (w.alloc (.cells #[.string x,.string y] 23)) from hB ▸ CAt.new w x y)
   have m0:=CB.out.c0
   have m1:=CB.out.c1
   go_wp2_with fail
   refine (Ar _).mono ?_
   rintro e w1 ⟨rfl,hb⟩
   replace m0:=Kc hb m0
   replace m1:=Kc hb m1
   replace CB:=Lib.hid (CB.out.Ac hb)
   replace BB:=Lib.hid (Aa BB.out hb)
   clear hb
   go_wp2_with fail
   refine (Di x y _ hx hy).mono ?_
   rintro e w2 ⟨rfl,hb⟩
   replace m0:=Kc hb m0
   replace m1:=Kc hb m1
   replace CB:=Lib.hid (CB.out.Ac hb)
   replace BB:=Lib.hid (Aa BB.out hb)
   clear hb
   go_wp2_with fail
   refine (Dz _).mono ?_
   rintro e w3 ⟨tt,rfl,hT,hb⟩
   obtain ⟨b0,b1,b2,b3,rfl,-,-,-,-⟩:=id hT
   replace m0:=Kc hb m0
   replace m1:=Kc hb m1
   replace CB:=Lib.hid (CB.out.Ac hb)
   replace BB:=Lib.hid (Aa BB.out hb)
   have K:=Lib.hid (Cw (b0:=b0) (b1:=b1) (b2:=b2) (b3:=b3) BB.out hT 31)
   clear hT hb BB
   obtain ⟨S,hS⟩:∃ N,w3.heap.size=N:=⟨_,rfl⟩
   rw [hS] at K
   have hb:=Ab w3 (.cells #[.slice (some ⟨b0,0,none⟩) 74 74,.slice (some ⟨b1,0,none⟩) 10 10,.slice (some ⟨b2,0,none⟩) 11 11,.slice (some ⟨b3,0,none⟩) 42 42] 31)
   replace m0:=Kc hb m0
   replace m1:=Kc hb m1
   replace CB:=Lib.hid (CB.out.Ac hb)
   clear hb
   obtain ⟨-,t0,t1,t2,t3⟩:=K.out.held
   go_wp2_with fail
   refine (Cg (.agg #[.slice (some ⟨b0,0,none⟩) 74 74,.slice (some ⟨b1,0,none⟩) 10 10,.slice (some ⟨b2,0,none⟩) 11 11,.slice (some ⟨b3,0,none⟩) 42 42]) x y _ K.out.table LX.out.1 LY.out HE.out).mono ?_
   rintro e w4 ⟨rfl,hb⟩
   replace m0:=Kc hb m0
   replace m1:=Kc hb m1
   replace t0:=Kc hb t0
   replace t1:=Kc hb t1
   replace t2:=Kc hb t2
   replace t3:=Kc hb t3
   replace CB:=Lib.hid (CB.out.Ac hb)
   replace K:=Lib.hid (K.out.next hb)
   clear hb
   go_upto_region 7 with (fail)
   go_cut [8,9] (λs8 s9 wx=>∃ N,s8=.pointer (some ⟨N,0,none⟩)/\s9=.int .i64 0/\Hid (Kept w S b0 b1 b2 b3 wx/\CAt B x y wx/\CAt N x y wx))
   case first =>
    replace m0:(World.drew w4).cell? ⟨B,0,none⟩=some (.string x):=m0
    replace m1:(World.drew w4).cell? ⟨B,1,none⟩=some (.string y):=m1
    replace t0:(World.drew w4).cell? ⟨S,0,none⟩=some (.slice (some ⟨b0,0,none⟩) 74 74):=t0
    replace t1:(World.drew w4).cell? ⟨S,1,none⟩=some (.slice (some ⟨b1,0,none⟩) 10 10):=t1
    replace t2:(World.drew w4).cell? ⟨S,2,none⟩=some (.slice (some ⟨b2,0,none⟩) 11 11):=t2
    replace t3:(World.drew w4).cell? ⟨S,3,none⟩=some (.slice (some ⟨b3,0,none⟩) 42 42):=t3
    replace K:=Lib.hid K.out.drew
    replace CB:=Lib.hid (CB.out.Ac (Below.refl _ _).drew)
    refine wp_region_held_drew (S:=(λw':World=>w'.cell? ⟨B,0,none⟩=some (.string x)/\w'.cell? ⟨B,1,none⟩=some (.string y)/\w'.cell? ⟨S,0,none⟩=some (.slice (some ⟨b0,0,none⟩) 74 74)/\w'.cell? ⟨S,1,none⟩=some (.slice (some ⟨b1,0,none⟩) 10 10)/\w'.cell? ⟨S,2,none⟩=some (.slice (some ⟨b2,0,none⟩) 11 11)/\w'.cell? ⟨S,3,none⟩=some (.slice (some ⟨b3,0,none⟩) 42 42))) (by kernel_rfl) ?_ (λhHeld=>?_)
    ·exact ⟨m0,m1,t0,t1,t2,t3⟩
    generalize hwd:(World.drew w4)=d5 at m0 m1 t0 t1 t2 t3 CB K hHeld ⊢
    clear hwd
    refine Ad 0 31 (v:=?_) rfl rfl (by kernel_rfl) (by kernel_rfl) (by kernel_rfl) (λ_ _ _ h=>h) (Or.inl ⟨by rfl,?_⟩) (by assumption) ?_
    rotate_left
    ·intro w hSw
     (try dsimp only at hSw)
     go_simp
     first | done | with_reducible rfl
    simp only [Act.put,Sa,Sb,Sc]
    refine Ad 1 32 (v:=?_) rfl rfl (by kernel_rfl) (by kernel_rfl) (by kernel_rfl) (λ_ _ _ h=>h) (Or.inl ⟨by rfl,?_⟩) (by assumption) ?_
    rotate_left
    ·intro w hSw
     (try dsimp only at hSw)
     go_simp
     first | done | with_reducible rfl
    simp only [Act.put,Sa,Sb,Sc]
    refine wpAnyH_ready (rs:=[2,7]) (by kernel_rfl) (by simp) ?_
    refine AllReadyH.cons (o:={ dst:=some 33,op:=.call { callee:=.value (.func 17),args:=#[.tmp 32],argTypes:=#[23] },type:=_,pos := "law.go:75", after:=_,guard:=none }) rfl (λK_ hK=>?_) (AllReadyH.cons (o:={ dst:=some 8,op:=.alloc 23,type:=_,pos := "law.go:75", after:=_,guard:=none }) rfl (λK_ hK=>?_) AllReadyH.nil)
    ·skip
     (try go_simp)
     go_at_call 17
     refine (Gy x y _ (by omega) (by omega) HPM.out).mono ?_
     rintro e w6 ⟨rfl,hb⟩
     replace m0:=Kc hb m0
     replace m1:=Kc hb m1
     replace t0:=Kc hb t0
     replace t1:=Kc hb t1
     replace t2:=Kc hb t2
     replace t3:=Kc hb t3
     replace CB:=Lib.hid (CB.out.Ac hb)
     replace K:=Lib.hid (K.out.next hb)
     clear hb
     go_wp2_with fail
     clear hHeld
     refine hK.out _ _ ?_ (λhHeld=>?_)
     ·exact ⟨m0,m1,t0,t1,t2,t3⟩
     clear hK K_
     refine wpAnyH_ready (rs:=[3,7]) (by kernel_rfl) (by simp) ?_
     refine AllReadyH.cons (o:={ dst:=some 34,op:=.call { callee:=.value (.func 21),args:=#[.tmp 31,.tmp 33],argTypes:=#[31,9] },type:=_,pos := "law.go:75", after:=_,guard:=none }) rfl (λK_ hK=>?_) (AllReadyH.cons (o:={ dst:=some 8,op:=.alloc 23,type:=_,pos := "law.go:75", after:=_,guard:=none }) rfl (λK_ hK=>?_) AllReadyH.nil)
     ·skip
      (try go_simp)
      go_at_call 21
      refine (KB.out _ _ K.out.table).mono ?_
      rintro e w7 ⟨rfl,hb⟩
      replace m0:=Kc hb m0
      replace m1:=Kc hb m1
      replace t0:=Kc hb t0
      replace t1:=Kc hb t1
      replace t2:=Kc hb t2
      replace t3:=Kc hb t3
      replace CB:=Lib.hid (CB.out.Ac hb)
      replace K:=Lib.hid (K.out.next hb)
      clear hb
      go_wp2_with fail
      clear hHeld
      refine hK.out _ _ ?_ (λhHeld=>?_)
      ·exact ⟨m0,m1,t0,t1,t2,t3⟩
      clear hK K_
      refine Ad 4 30 (v:=?_) rfl rfl (by kernel_rfl) (by kernel_rfl) (by kernel_rfl) (λ_ _ _ h=>h) (Or.inl ⟨by rfl,?_⟩) (by assumption) ?_
      rotate_left
      ·intro w hSw
       (try dsimp only at hSw)
       go_simp
       first | done | with_reducible rfl
      simp only [Act.put,Sa,Sb,Sc]
      refine Ad 5 35 (v:=?_) rfl rfl (by kernel_rfl) (by kernel_rfl) (by kernel_rfl) (λ_ _ _ h=>h) (Or.inl ⟨by rfl,?_⟩) (by assumption) ?_
      rotate_left
      ·intro w hSw
       (try dsimp only at hSw)
       go_simp
       first | done | with_reducible rfl
      simp only [Act.put,Sa,Sb,Sc]
      refine Ad 6 36 (v:=?_) rfl rfl (by kernel_rfl) (by kernel_rfl) (by kernel_rfl) (λ_ _ _ h=>h) (Or.inl ⟨by rfl,?_⟩) (by assumption) ?_
      rotate_left
      ·intro w hSw
       (try dsimp only at hSw)
       go_simp
       first | done | with_reducible rfl
      simp only [Act.put,Sa,Sb,Sc]
      refine wpAnyH_ready (rs:=[7]) (by kernel_rfl) (by simp) ?_
      refine AllReadyH.cons (o:={ dst:=some 8,op:=.alloc 23,type:=_,pos := "law.go:75", after:=_,guard:=none }) rfl (λK_ hK=>?_) AllReadyH.nil
      (try go_simp)
      go_wp2_with fail
      obtain ⟨N,hN⟩:∃ N,w7.heap.size=N:=⟨_,rfl⟩
      have ltNB:B<N:=by have h_:=World.block_lt_of_cell? _ _ m0;simp only [hN] at h_;exact h_
      have ltNS:S<N:=by have h_:=World.block_lt_of_cell? _ _ t0;simp only [hN] at h_;exact h_
      have YN:=K
      have hb:=Ab w7 (.cells #[.string ⟨#[]⟩,.string ⟨#[]⟩] 23)
      replace m0:=Kc hb m0
      replace m1:=Kc hb m1
      replace t0:=Kc hb t0
      replace t1:=Kc hb t1
      replace t2:=Kc hb t2
      replace t3:=Kc hb t3
      replace CB:=Lib.hid (CB.out.Ac hb)
      replace K:=Lib.hid (K.out.next hb)
      have ZN:=Lib.hid hb
      clear hb
      have CN:=Lib.hid (show CAt N ⟨#[]⟩ ⟨#[]⟩ (w7.alloc (.cells #[.string ⟨#[]⟩,.string ⟨#[]⟩] 23)) from hN ▸ CAt.new w7 ⟨#[]⟩ ⟨#[]⟩)
      clear hHeld
      refine hK.out _ _ ?_ (λhHeld=>?_)
      ·exact ⟨m0,m1,t0,t1,t2,t3⟩
      clear hK K_
      refine wpAnyH_ready (rs:=[8]) (by kernel_rfl) (by simp) ?_
      refine AllReadyH.cons (o:={ dst:=none,op:=.store 23 (.tmp 8) (.tmp 35),type:=_,pos := "law.go:75", after:=_,guard:=none }) rfl (λK_ hK=>?_) AllReadyH.nil
      have a0:=CN.out.c0
      have a1:=CN.out.c1
      have a2:=CN.out.fr 0
      have a3:=CN.out.fr 1
      (try go_simp)
      go_wp2_with fail
      clear a0 a1 a2 a3
      have hb:=Ab w7 (.cells #[.string x,.string y] 23)
      have hb0:=Ab w7 (.cells #[.string ⟨#[]⟩,.string ⟨#[]⟩] 23)
      replace m0:=(hb.cell (p:=⟨B,0,none⟩) (show B<w7.heap.size by rw [hN];exact ltNB)).trans (((hb0.cell (p:=⟨B,0,none⟩) (show B<w7.heap.size by rw [hN];exact ltNB)).symm).trans m0)
      replace m1:=(hb.cell (p:=⟨B,1,none⟩) (show B<w7.heap.size by rw [hN];exact ltNB)).trans (((hb0.cell (p:=⟨B,1,none⟩) (show B<w7.heap.size by rw [hN];exact ltNB)).symm).trans m1)
      replace t0:=(hb.cell (p:=⟨S,0,none⟩) (show S<w7.heap.size by rw [hN];exact ltNS)).trans (((hb0.cell (p:=⟨S,0,none⟩) (show S<w7.heap.size by rw [hN];exact ltNS)).symm).trans t0)
      replace t1:=(hb.cell (p:=⟨S,1,none⟩) (show S<w7.heap.size by rw [hN];exact ltNS)).trans (((hb0.cell (p:=⟨S,1,none⟩) (show S<w7.heap.size by rw [hN];exact ltNS)).symm).trans t1)
      replace t2:=(hb.cell (p:=⟨S,2,none⟩) (show S<w7.heap.size by rw [hN];exact ltNS)).trans (((hb0.cell (p:=⟨S,2,none⟩) (show S<w7.heap.size by rw [hN];exact ltNS)).symm).trans t2)
      replace t3:=(hb.cell (p:=⟨S,3,none⟩) (show S<w7.heap.size by rw [hN];exact ltNS)).trans (((hb0.cell (p:=⟨S,3,none⟩) (show S<w7.heap.size by rw [hN];exact ltNS)).symm).trans t3)
      replace CB:=Lib.hid (show CAt _ _ _ _ from ⟨(hb.block B (by rw [hN];exact ltNB)).trans ((hb0.block B (by rw [hN];exact ltNB)).symm.trans CB.out.blk)⟩)
      replace CN:=Lib.hid (show CAt N x y (w7.alloc (.cells #[.string x,.string y] 23)) from hN ▸ CAt.new w7 x y)
      replace K:=Lib.hid (YN.out.next hb)
      clear hb hb0 ZN
      clear hHeld
      refine hK.out _ _ ?_ (λhHeld=>?_)
      ·exact ⟨m0,m1,t0,t1,t2,t3⟩
      clear hK K_
      refine Ad 9 9 (v:=?_) rfl rfl (by kernel_rfl) (by kernel_rfl) (by kernel_rfl) (λ_ _ _ h=>h) (Or.inl ⟨by rfl,?_⟩) (by assumption) ?_
      rotate_left
      ·intro w hSw
       (try dsimp only at hSw)
       go_simp
       first | done | with_reducible rfl
      simp only [Act.put,Sa,Sb,Sc]
      refine wpAnyH_done (by kernel_rfl) ?_ _
      go_wp2_with fail
      go_meet
      exact ⟨N,rfl,rfl,Lib.hid ⟨K.out,CB.out,CN.out⟩⟩
     ·skip
      (try go_simp)
      go_wp2_with fail
      obtain ⟨N,hN⟩:∃ N,w6.heap.size=N:=⟨_,rfl⟩
      have ltNB:B<N:=by have h_:=World.block_lt_of_cell? _ _ m0;simp only [hN] at h_;exact h_
      have ltNS:S<N:=by have h_:=World.block_lt_of_cell? _ _ t0;simp only [hN] at h_;exact h_
      have YN:=K
      have hb:=Ab w6 (.cells #[.string ⟨#[]⟩,.string ⟨#[]⟩] 23)
      replace m0:=Kc hb m0
      replace m1:=Kc hb m1
      replace t0:=Kc hb t0
      replace t1:=Kc hb t1
      replace t2:=Kc hb t2
      replace t3:=Kc hb t3
      replace CB:=Lib.hid (CB.out.Ac hb)
      replace K:=Lib.hid (K.out.next hb)
      have ZN:=Lib.hid hb
      clear hb
      have CN:=Lib.hid (show CAt N ⟨#[]⟩ ⟨#[]⟩ (w6.alloc (.cells #[.string ⟨#[]⟩,.string ⟨#[]⟩] 23)) from hN ▸ CAt.new w6 ⟨#[]⟩ ⟨#[]⟩)
      clear hHeld
      refine hK.out _ _ ?_ (λhHeld=>?_)
      ·exact ⟨m0,m1,t0,t1,t2,t3⟩
      clear hK K_
      refine wpAnyH_ready (rs:=[3]) (by kernel_rfl) (by simp) ?_
      refine AllReadyH.cons (o:={ dst:=some 34,op:=.call { callee:=.value (.func 21),args:=#[.tmp 31,.tmp 33],argTypes:=#[31,9] },type:=_,pos := "law.go:75", after:=_,guard:=none }) rfl (λK_ hK=>?_) AllReadyH.nil
      (try go_simp)
      go_at_call 21
      refine (KB.out _ _ K.out.table).mono ?_
      rintro e w7 ⟨rfl,hb⟩
      replace m0:=Kc hb m0
      replace m1:=Kc hb m1
      replace t0:=Kc hb t0
      replace t1:=Kc hb t1
      replace t2:=Kc hb t2
      replace t3:=Kc hb t3
      replace CB:=Lib.hid (CB.out.Ac hb)
      replace CN:=Lib.hid (CN.out.Ac hb)
      replace ZN:=Lib.hid (Aa ZN.out hb)
      replace K:=Lib.hid (K.out.next hb)
      clear hb
      go_wp2_with fail
      clear hHeld
      refine hK.out _ _ ?_ (λhHeld=>?_)
      ·exact ⟨m0,m1,t0,t1,t2,t3⟩
      clear hK K_
      refine Ad 4 30 (v:=?_) rfl rfl (by kernel_rfl) (by kernel_rfl) (by kernel_rfl) (λ_ _ _ h=>h) (Or.inl ⟨by rfl,?_⟩) (by assumption) ?_
      rotate_left
      ·intro w hSw
       (try dsimp only at hSw)
       go_simp
       first | done | with_reducible rfl
      simp only [Act.put,Sa,Sb,Sc]
      refine Ad 5 35 (v:=?_) rfl rfl (by kernel_rfl) (by kernel_rfl) (by kernel_rfl) (λ_ _ _ h=>h) (Or.inl ⟨by rfl,?_⟩) (by assumption) ?_
      rotate_left
      ·intro w hSw
       (try dsimp only at hSw)
       go_simp
       first | done | with_reducible rfl
      simp only [Act.put,Sa,Sb,Sc]
      refine Ad 6 36 (v:=?_) rfl rfl (by kernel_rfl) (by kernel_rfl) (by kernel_rfl) (λ_ _ _ h=>h) (Or.inl ⟨by rfl,?_⟩) (by assumption) ?_
      rotate_left
      ·intro w hSw
       (try dsimp only at hSw)
       go_simp
       first | done | with_reducible rfl
      simp only [Act.put,Sa,Sb,Sc]
      refine wpAnyH_ready (rs:=[8]) (by kernel_rfl) (by simp) ?_
      refine AllReadyH.cons (o:={ dst:=none,op:=.store 23 (.tmp 8) (.tmp 35),type:=_,pos := "law.go:75", after:=_,guard:=none }) rfl (λK_ hK=>?_) AllReadyH.nil
      have a0:=CN.out.c0
      have a1:=CN.out.c1
      have a2:=CN.out.fr 0
      have a3:=CN.out.fr 1
      (try go_simp)
      go_wp2_with fail
      clear a0 a1 a2 a3
      replace m0:=(Ae (k:=1) (z:=.string y) (Nat.ne_of_lt ltNB)).trans ((Ae (k:=0) (z:=.string x) (Nat.ne_of_lt ltNB)).trans m0)
      replace m1:=(Ae (k:=1) (z:=.string y) (Nat.ne_of_lt ltNB)).trans ((Ae (k:=0) (z:=.string x) (Nat.ne_of_lt ltNB)).trans m1)
      replace t0:=(Ae (k:=1) (z:=.string y) (Nat.ne_of_lt ltNS)).trans ((Ae (k:=0) (z:=.string x) (Nat.ne_of_lt ltNS)).trans t0)
      replace t1:=(Ae (k:=1) (z:=.string y) (Nat.ne_of_lt ltNS)).trans ((Ae (k:=0) (z:=.string x) (Nat.ne_of_lt ltNS)).trans t1)
      replace t2:=(Ae (k:=1) (z:=.string y) (Nat.ne_of_lt ltNS)).trans ((Ae (k:=0) (z:=.string x) (Nat.ne_of_lt ltNS)).trans t2)
      replace t3:=(Ae (k:=1) (z:=.string y) (Nat.ne_of_lt ltNS)).trans ((Ae (k:=0) (z:=.string x) (Nat.ne_of_lt ltNS)).trans t3)
      replace CB:=Lib.hid ((CB.out.other (Nat.ne_of_lt ltNB) 0 (.string x)).other (Nat.ne_of_lt ltNB) 1 (.string y))
      replace CN:=Lib.hid ((CN.out.My x).P8 y)
      replace ZN:=Lib.hid ((ZN.out.setCell (p:=⟨N,0,none⟩) (show _<=N by omega) (.string x)).setCell (p:=⟨N,1,none⟩) (show _<=N by omega) (.string y))
      replace K:=Lib.hid (YN.out.next ZN.out)
      clear ZN
      clear hHeld
      refine hK.out _ _ ?_ (λhHeld=>?_)
      ·exact ⟨m0,m1,t0,t1,t2,t3⟩
      clear hK K_
      refine Ad 9 9 (v:=?_) rfl rfl (by kernel_rfl) (by kernel_rfl) (by kernel_rfl) (λ_ _ _ h=>h) (Or.inl ⟨by rfl,?_⟩) (by assumption) ?_
      rotate_left
      ·intro w hSw
       (try dsimp only at hSw)
       go_simp
       first | done | with_reducible rfl
      simp only [Act.put,Sa,Sb,Sc]
      refine wpAnyH_done (by kernel_rfl) ?_ _
      go_wp2_with fail
      go_meet
      exact ⟨N,rfl,rfl,Lib.hid ⟨K.out,CB.out,CN.out⟩⟩
    ·skip
     (try go_simp)
     go_wp2_with fail
     obtain ⟨N,hN⟩:∃ N,d5.heap.size=N:=⟨_,rfl⟩
     have ltNB:B<N:=by have h_:=World.block_lt_of_cell? _ _ m0;simp only [hN] at h_;exact h_
     have ltNS:S<N:=by have h_:=World.block_lt_of_cell? _ _ t0;simp only [hN] at h_;exact h_
     have YN:=K
     have hb:=Ab d5 (.cells #[.string ⟨#[]⟩,.string ⟨#[]⟩] 23)
     replace m0:=Kc hb m0
     replace m1:=Kc hb m1
     replace t0:=Kc hb t0
     replace t1:=Kc hb t1
     replace t2:=Kc hb t2
     replace t3:=Kc hb t3
     replace CB:=Lib.hid (CB.out.Ac hb)
     replace K:=Lib.hid (K.out.next hb)
     have ZN:=Lib.hid hb
     clear hb
     have CN:=Lib.hid (show CAt N ⟨#[]⟩ ⟨#[]⟩ (d5.alloc (.cells #[.string ⟨#[]⟩,.string ⟨#[]⟩] 23)) from hN ▸ CAt.new d5 ⟨#[]⟩ ⟨#[]⟩)
     clear hHeld
     refine hK.out _ _ ?_ (λhHeld=>?_)
     ·exact ⟨m0,m1,t0,t1,t2,t3⟩
     clear hK K_
     refine wpAnyH_ready (rs:=[2]) (by kernel_rfl) (by simp) ?_
     refine AllReadyH.cons (o:={ dst:=some 33,op:=.call { callee:=.value (.func 17),args:=#[.tmp 32],argTypes:=#[23] },type:=_,pos := "law.go:75", after:=_,guard:=none }) rfl (λK_ hK=>?_) AllReadyH.nil
     (try go_simp)
     go_at_call 17
     refine (Gy x y _ (by omega) (by omega) HPM.out).mono ?_
     rintro e w6 ⟨rfl,hb⟩
     replace m0:=Kc hb m0
     replace m1:=Kc hb m1
     replace t0:=Kc hb t0
     replace t1:=Kc hb t1
     replace t2:=Kc hb t2
     replace t3:=Kc hb t3
     replace CB:=Lib.hid (CB.out.Ac hb)
     replace CN:=Lib.hid (CN.out.Ac hb)
     replace ZN:=Lib.hid (Aa ZN.out hb)
     replace K:=Lib.hid (K.out.next hb)
     clear hb
     go_wp2_with fail
     clear hHeld
     refine hK.out _ _ ?_ (λhHeld=>?_)
     ·exact ⟨m0,m1,t0,t1,t2,t3⟩
     clear hK K_
     refine wpAnyH_ready (rs:=[3]) (by kernel_rfl) (by simp) ?_
     refine AllReadyH.cons (o:={ dst:=some 34,op:=.call { callee:=.value (.func 21),args:=#[.tmp 31,.tmp 33],argTypes:=#[31,9] },type:=_,pos := "law.go:75", after:=_,guard:=none }) rfl (λK_ hK=>?_) AllReadyH.nil
     (try go_simp)
     go_at_call 21
     refine (KB.out _ _ K.out.table).mono ?_
     rintro e w7 ⟨rfl,hb⟩
     replace m0:=Kc hb m0
     replace m1:=Kc hb m1
     replace t0:=Kc hb t0
     replace t1:=Kc hb t1
     replace t2:=Kc hb t2
     replace t3:=Kc hb t3
     replace CB:=Lib.hid (CB.out.Ac hb)
     replace CN:=Lib.hid (CN.out.Ac hb)
     replace ZN:=Lib.hid (Aa ZN.out hb)
     replace K:=Lib.hid (K.out.next hb)
     clear hb
     go_wp2_with fail
     clear hHeld
     refine hK.out _ _ ?_ (λhHeld=>?_)
     ·exact ⟨m0,m1,t0,t1,t2,t3⟩
     clear hK K_
     refine Ad 4 30 (v:=?_) rfl rfl (by kernel_rfl) (by kernel_rfl) (by kernel_rfl) (λ_ _ _ h=>h) (Or.inl ⟨by rfl,?_⟩) (by assumption) ?_
     rotate_left
     ·intro w hSw
      (try dsimp only at hSw)
      go_simp
      first | done | with_reducible rfl
     simp only [Act.put,Sa,Sb,Sc]
     refine Ad 5 35 (v:=?_) rfl rfl (by kernel_rfl) (by kernel_rfl) (by kernel_rfl) (λ_ _ _ h=>h) (Or.inl ⟨by rfl,?_⟩) (by assumption) ?_
     rotate_left
     ·intro w hSw
      (try dsimp only at hSw)
      go_simp
      first | done | with_reducible rfl
     simp only [Act.put,Sa,Sb,Sc]
     refine Ad 6 36 (v:=?_) rfl rfl (by kernel_rfl) (by kernel_rfl) (by kernel_rfl) (λ_ _ _ h=>h) (Or.inl ⟨by rfl,?_⟩) (by assumption) ?_
     rotate_left
     ·intro w hSw
      (try dsimp only at hSw)
      go_simp
      first | done | with_reducible rfl
     simp only [Act.put,Sa,Sb,Sc]
     refine wpAnyH_ready (rs:=[8]) (by kernel_rfl) (by simp) ?_
     refine AllReadyH.cons (o:={ dst:=none,op:=.store 23 (.tmp 8) (.tmp 35),type:=_,pos := "law.go:75", after:=_,guard:=none }) rfl (λK_ hK=>?_) AllReadyH.nil
     have a0:=CN.out.c0
     have a1:=CN.out.c1
     have a2:=CN.out.fr 0
     have a3:=CN.out.fr 1
     (try go_simp)
     go_wp2_with fail
     clear a0 a1 a2 a3
     replace m0:=(Ae (k:=1) (z:=.string y) (Nat.ne_of_lt ltNB)).trans ((Ae (k:=0) (z:=.string x) (Nat.ne_of_lt ltNB)).trans m0)
     replace m1:=(Ae (k:=1) (z:=.string y) (Nat.ne_of_lt ltNB)).trans ((Ae (k:=0) (z:=.string x) (Nat.ne_of_lt ltNB)).trans m1)
     replace t0:=(Ae (k:=1) (z:=.string y) (Nat.ne_of_lt ltNS)).trans ((Ae (k:=0) (z:=.string x) (Nat.ne_of_lt ltNS)).trans t0)
     replace t1:=(Ae (k:=1) (z:=.string y) (Nat.ne_of_lt ltNS)).trans ((Ae (k:=0) (z:=.string x) (Nat.ne_of_lt ltNS)).trans t1)
     replace t2:=(Ae (k:=1) (z:=.string y) (Nat.ne_of_lt ltNS)).trans ((Ae (k:=0) (z:=.string x) (Nat.ne_of_lt ltNS)).trans t2)
     replace t3:=(Ae (k:=1) (z:=.string y) (Nat.ne_of_lt ltNS)).trans ((Ae (k:=0) (z:=.string x) (Nat.ne_of_lt ltNS)).trans t3)
     replace CB:=Lib.hid ((CB.out.other (Nat.ne_of_lt ltNB) 0 (.string x)).other (Nat.ne_of_lt ltNB) 1 (.string y))
     replace CN:=Lib.hid ((CN.out.My x).P8 y)
     replace ZN:=Lib.hid ((ZN.out.setCell (p:=⟨N,0,none⟩) (show _<=N by omega) (.string x)).setCell (p:=⟨N,1,none⟩) (show _<=N by omega) (.string y))
     replace K:=Lib.hid (YN.out.next ZN.out)
     clear ZN
     clear hHeld
     refine hK.out _ _ ?_ (λhHeld=>?_)
     ·exact ⟨m0,m1,t0,t1,t2,t3⟩
     clear hK K_
     refine Ad 9 9 (v:=?_) rfl rfl (by kernel_rfl) (by kernel_rfl) (by kernel_rfl) (λ_ _ _ h=>h) (Or.inl ⟨by rfl,?_⟩) (by assumption) ?_
     rotate_left
     ·intro w hSw
      (try dsimp only at hSw)
      go_simp
      first | done | with_reducible rfl
     simp only [Act.put,Sa,Sb,Sc]
     refine wpAnyH_done (by kernel_rfl) ?_ _
     go_wp2_with fail
     go_meet
     exact ⟨N,rfl,rfl,Lib.hid ⟨K.out,CB.out,CN.out⟩⟩
   case rest =>
    obtain ⟨N,rfl,rfl,HX⟩:=hcut
    clear m0 m1 t0 t1 t2 t3 K CB
    have K:=Lib.hid HX.out.1
    have CB:=Lib.hid HX.out.2.1
    have CN:=Lib.hid HX.out.2.2
    clear HX
    obtain ⟨-,t0,t1,t2,t3⟩:=K.out.held
    have m0:=CB.out.c0
    have m1:=CB.out.c1
    have n0:=CN.out.c0
    have n1:=CN.out.c1
    go_wp2_with fail
    refine (KS.out _ _ K.out.table).mono ?_
    rintro e w5 ⟨rfl,hb⟩
    replace t0:=Kc hb t0
    replace t1:=Kc hb t1
    replace t2:=Kc hb t2
    replace t3:=Kc hb t3
    replace m0:=Kc hb m0
    replace m1:=Kc hb m1
    replace n0:=Kc hb n0
    replace n1:=Kc hb n1
    replace CB:=Lib.hid (CB.out.Ac hb)
    replace CN:=Lib.hid (CN.out.Ac hb)
    replace K:=Lib.hid (K.out.next hb)
    clear hb
    go_wp2_with fail
    refine (KP.out _ _ K.out.table).mono ?_
    rintro e w6 ⟨rfl,hb⟩
    replace t0:=Kc hb t0
    replace t1:=Kc hb t1
    replace t2:=Kc hb t2
    replace t3:=Kc hb t3
    replace m0:=Kc hb m0
    replace m1:=Kc hb m1
    replace n0:=Kc hb n0
    replace n1:=Kc hb n1
    replace CB:=Lib.hid (CB.out.Ac hb)
    replace CN:=Lib.hid (CN.out.Ac hb)
    replace K:=Lib.hid (K.out.next hb)
    clear hb
    obtain ⟨rfl,rfl⟩:=KZ
    obtain ⟨X,hX⟩:∃ N,w6.heap.size=N:=⟨_,rfl⟩
    have ltXS:S<X:=by have h_:=World.block_lt_of_cell? _ _ t0;simp only [hX] at h_;exact h_
    have ltXB:B<X:=by have h_:=World.block_lt_of_cell? _ _ m0;simp only [hX] at h_;exact h_
    have ltXN:N<X:=by have h_:=World.block_lt_of_cell? _ _ n0;simp only [hX] at h_;exact h_
    have hb:=Ab w6 (.cells #[.string ⟨#[]⟩,.string ⟨#[]⟩] 23)
    replace t0:=Kc hb t0
    replace t1:=Kc hb t1
    replace t2:=Kc hb t2
    replace t3:=Kc hb t3
    replace m0:=Kc hb m0
    replace m1:=Kc hb m1
    replace n0:=Kc hb n0
    replace n1:=Kc hb n1
    replace CB:=Lib.hid (CB.out.Ac hb)
    replace CN:=Lib.hid (CN.out.Ac hb)
    replace K:=Lib.hid (K.out.next hb)
    clear hb
    have CX:=Lib.hid (show CAt X ⟨#[]⟩ ⟨#[]⟩ (w6.alloc (.cells #[.string ⟨#[]⟩,.string ⟨#[]⟩] 23)) from hX ▸ CAt.new w6 ⟨#[]⟩ ⟨#[]⟩)
    have x0:=CX.out.c0
    have x1:=CX.out.c1
    go_wp2
    go_ret
    exact ⟨rfl,K.out.below⟩
  ·have e0:(E == 0)=false:=by simpa using h0
   clear h0
   have BB:=Lib.hid (Below.refl w.heap.size w)
   go_enter Tryz.func5,Tryz.ntmps5
   obtain ⟨B,hB⟩:∃ N,w.heap.size=N:=⟨_,rfl⟩
   have hb:=Ab w (.cells #[.string x,.string y] 23)
   replace BB:=Lib.hid (Aa BB.out hb)
   clear hb
   have CB:=Lib.hid (show CAt B x y (w.alloc (.cells #[.string x,.string y] 23)) from hB ▸ CAt.new w x y)
   have m0:=CB.out.c0
   have m1:=CB.out.c1
   go_wp2_with fail
   refine (Ar _).mono ?_
   rintro e w1 ⟨rfl,hb⟩
   replace m0:=Kc hb m0
   replace m1:=Kc hb m1
   replace CB:=Lib.hid (CB.out.Ac hb)
   replace BB:=Lib.hid (Aa BB.out hb)
   clear hb
   go_wp2_with fail
   refine (Di x y _ hx hy).mono ?_
   rintro e w2 ⟨rfl,hb⟩
   replace m0:=Kc hb m0
   replace m1:=Kc hb m1
   replace CB:=Lib.hid (CB.out.Ac hb)
   replace BB:=Lib.hid (Aa BB.out hb)
   clear hb
   go_wp2_with fail
   refine (Dz _).mono ?_
   rintro e w3 ⟨tt,rfl,hT,hb⟩
   obtain ⟨b0,b1,b2,b3,rfl,-,-,-,-⟩:=id hT
   replace m0:=Kc hb m0
   replace m1:=Kc hb m1
   replace CB:=Lib.hid (CB.out.Ac hb)
   replace BB:=Lib.hid (Aa BB.out hb)
   have K:=Lib.hid (Cw (b0:=b0) (b1:=b1) (b2:=b2) (b3:=b3) BB.out hT 31)
   clear hT hb BB
   obtain ⟨S,hS⟩:∃ N,w3.heap.size=N:=⟨_,rfl⟩
   rw [hS] at K
   have hb:=Ab w3 (.cells #[.slice (some ⟨b0,0,none⟩) 74 74,.slice (some ⟨b1,0,none⟩) 10 10,.slice (some ⟨b2,0,none⟩) 11 11,.slice (some ⟨b3,0,none⟩) 42 42] 31)
   replace m0:=Kc hb m0
   replace m1:=Kc hb m1
   replace CB:=Lib.hid (CB.out.Ac hb)
   clear hb
   obtain ⟨-,t0,t1,t2,t3⟩:=K.out.held
   go_wp2_with fail
   refine (Cg (.agg #[.slice (some ⟨b0,0,none⟩) 74 74,.slice (some ⟨b1,0,none⟩) 10 10,.slice (some ⟨b2,0,none⟩) 11 11,.slice (some ⟨b3,0,none⟩) 42 42]) x y _ K.out.table LX.out.1 LY.out HE.out).mono ?_
   rintro e w4 ⟨rfl,hb⟩
   replace m0:=Kc hb m0
   replace m1:=Kc hb m1
   replace t0:=Kc hb t0
   replace t1:=Kc hb t1
   replace t2:=Kc hb t2
   replace t3:=Kc hb t3
   replace CB:=Lib.hid (CB.out.Ac hb)
   replace K:=Lib.hid (K.out.next hb)
   clear hb
   go_wp2_with fail
   refine (KP.out _ _ K.out.table).mono ?_
   rintro e w5 ⟨rfl,hb⟩
   replace m0:=Kc hb m0
   replace m1:=Kc hb m1
   replace t0:=Kc hb t0
   replace t1:=Kc hb t1
   replace t2:=Kc hb t2
   replace t3:=Kc hb t3
   replace CB:=Lib.hid (CB.out.Ac hb)
   replace K:=Lib.hid (K.out.next hb)
   clear hb
   obtain ⟨rfl,rfl⟩:=KZ
   obtain ⟨X,hX⟩:∃ N,w5.heap.size=N:=⟨_,rfl⟩
   have ltXB:B<X:=by have h_:=World.block_lt_of_cell? _ _ m0;simp only [hX] at h_;exact h_
   have ltXS:S<X:=by have h_:=World.block_lt_of_cell? _ _ t0;simp only [hX] at h_;exact h_
   have hb:=Ab w5 (.cells #[.string ⟨#[]⟩,.string ⟨#[]⟩] 23)
   replace m0:=Kc hb m0
   replace m1:=Kc hb m1
   replace t0:=Kc hb t0
   replace t1:=Kc hb t1
   replace t2:=Kc hb t2
   replace t3:=Kc hb t3
   replace CB:=Lib.hid (CB.out.Ac hb)
   replace K:=Lib.hid (K.out.next hb)
   clear hb
   have CX:=Lib.hid (show CAt X ⟨#[]⟩ ⟨#[]⟩ (w5.alloc (.cells #[.string ⟨#[]⟩,.string ⟨#[]⟩] 23)) from hX ▸ CAt.new w5 ⟨#[]⟩ ⟨#[]⟩)
   have x0:=CX.out.c0
   have x1:=CX.out.c1
   go_wp2
   go_ret
   exact ⟨rfl,K.out.below⟩
end Go.Proofs.YtppmbilonaflfaaGreatDoor
