import Derived.Test.YtpcgbgfpnhiihaaGreatDoorPathSmall
namespace Go.Proofs.YtpcgbgfpnhiihaaGreatDoor
open Go.RowKit Utf
set_option maxHeartbeats 16000000 in
set_option maxRecDepth 100000 in
theorem Aei (n:Bool) (x y s:ByteArray) (w:World):Calls Tryz.prog 7 #[.agg #[.bool n,.string x,.string y],.string s] w λe w'=>e=.returned (.bool true)/\Below w.heap.size w w':=by
 by_cases hf:x.size<=150/\y.size<=200
 case neg =>
  have BB:=jH (Below.refl w.heap.size w)
  go_enter Tryz.func7,Tryz.ntmps7
  obtain ⟨B,hB⟩:∃ N,w.heap.size=N:=⟨_,rfl⟩
  have hb:=Ab w (.cells #[.bool n,.string x,.string y] 53)
  replace BB:=jH (Aa BB.out hb)
  clear hb
  have CB:=jH (show PAt B n x y (w.alloc (.cells #[.bool n,.string x,.string y] 53)) from hB ▸ PAt.new w n x y)
  obtain ⟨m0,m1,m2⟩:=CB.out.all
  go_wp2_with fail
  refine (Hn _).mono ?_
  rintro e w1 ⟨rfl,hb⟩
  replace m0:=Kc hb m0
  replace m1:=Kc hb m1
  replace m2:=Kc hb m2
  replace CB:=jH (CB.out.Ac hb)
  replace BB:=jH (Aa BB.out hb)
  clear hb
  go_wp2_with fail
  refine (Asq x y _ hf).mono ?_
  rintro e w2 ⟨rfl,hb⟩
  replace m0:=Kc hb m0
  replace m1:=Kc hb m1
  replace m2:=Kc hb m2
  replace CB:=jH (CB.out.Ac hb)
  replace BB:=jH (Aa BB.out hb)
  clear hb
  go_wp2
  go_ret
  exact ⟨rfl,BB.out⟩
 obtain ⟨hx,hy⟩:=hf
 by_cases hs:s.size<=300
 case neg =>
  have hz:(300:Int)<(s.size:Int):=by omega
  have BB:=jH (Below.refl w.heap.size w)
  go_enter Tryz.func7,Tryz.ntmps7
  obtain ⟨B,hB⟩:∃ N,w.heap.size=N:=⟨_,rfl⟩
  have hb:=Ab w (.cells #[.bool n,.string x,.string y] 53)
  replace BB:=jH (Aa BB.out hb)
  clear hb
  have CB:=jH (show PAt B n x y (w.alloc (.cells #[.bool n,.string x,.string y] 53)) from hB ▸ PAt.new w n x y)
  obtain ⟨m0,m1,m2⟩:=CB.out.all
  go_wp2_with fail
  refine (Hn _).mono ?_
  rintro e w1 ⟨rfl,hb⟩
  replace m0:=Kc hb m0
  replace m1:=Kc hb m1
  replace m2:=Kc hb m2
  replace CB:=jH (CB.out.Ac hb)
  replace BB:=jH (Aa BB.out hb)
  clear hb
  go_wp2_with fail
  refine (Acz x y _ hx hy).mono ?_
  rintro e w2 ⟨rfl,hb⟩
  replace m0:=Kc hb m0
  replace m1:=Kc hb m1
  replace m2:=Kc hb m2
  replace CB:=jH (CB.out.Ac hb)
  replace BB:=jH (Aa BB.out hb)
  clear hb
  go_wp2
  go_ret
  exact ⟨rfl,BB.out⟩
 have hz:¬ (300:Int)<(s.size:Int):=by omega
 have LX:=jH (Fs (s:=x) (by omega))
 have LY:=jH (Fs (s:=y) (by omega))
 have hxl:x.data.toList.length=x.size:=by simp
 have hyl:y.data.toList.length=y.size:=by simp
 have hsl:s.data.toList.length=s.size:=by simp
 obtain ⟨E,hE⟩:∃ E,Pth.Cu n x.data.toList y.data.toList=E:=⟨_,rfl⟩
 have HE:=jH hE
 have HX:Hid ((⟨x.data.toList.toArray⟩:ByteArray)=x):=jH rfl
 have HY:Hid ((⟨y.data.toList.toArray⟩:ByteArray)=y):=jH rfl
 have hpl:∀ (n:Bool) (x y:List UInt8),(Pth.Cm n x y).length<=2*x.length+y.length+10:=λn x y=>by
  unfold Pth.Cm Pth.Ls Mbx.Ew
  have:=Mbx.Kd x
  rw [List.length_cons,List.length_append]
  split
  ·simp
  ·split
   ·simp;omega
   ·rw [List.length_append,List.length_cons];simp;omega
 obtain ⟨PM,hPM⟩:∃ P:ByteArray,P=⟨(Pth.Cm n x.data.toList y.data.toList).toArray⟩:=⟨_,rfl⟩
 have KPM:Hid (∀ W,Calls Tryz.prog 31 #[.agg #[.bool n,.string x,.string y]] W λe w'=>e=.returned (.string PM)/\Below W.heap.size W w'):=jH λW=>by rw [hPM];exact Hc n x y W (by omega) (by omega)
 have KB:Hid (E=0->∀ t W,Table W t->Calls Tryz.prog 35 #[t,.string PM] W λe w'=>e=.returned (.tuple #[.agg #[.bool n,.string x,.string y],.int .i64 0])/\Below W.heap.size W w'):=jH λh t W hT=>by
  subst h
  have h1:=Pth.Pg hE (by omega)
  have h2:=hpl n x.data.toList y.data.toList
  have:=Q8 t PM W hT (by rw [hPM];show (Pth.Cm n x.data.toList y.data.toList).toArray.size<=_;rw [List.size_toArray];omega) (by rw [hPM];exact h1) (by omega) (by omega)
  rwa [HX.out,HY.out] at this
 have KS:Hid (E=0->∀ t W,Table W t->Calls Tryz.prog 34 #[t,.agg #[.bool n,.string x,.string y],.agg #[.bool n,.string x,.string y]] W λe w'=>e=.returned (.bool true)/\Below W.heap.size W w'):=jH λh t W hT =>
  Jc t n x y n x y W hT LX.out LY.out LX.out LY.out (Pth.Aqj (by rw [hE];exact h))
 obtain ⟨⟨F,k,p,q⟩,hp⟩:∃ r,Pth.Dv s.data.toList=r:=⟨_,rfl⟩
 have hpi:=Pth.Mt hp
 obtain ⟨P,hP⟩:∃ P:ByteArray,P=⟨p.toArray⟩:=⟨_,rfl⟩
 obtain ⟨Q,hQ⟩:∃ Q:ByteArray,Q=⟨q.toArray⟩:=⟨_,rfl⟩
 obtain ⟨PP,hPP⟩:∃ P:ByteArray,P=⟨(Pth.Cm k p q).toArray⟩:=⟨_,rfl⟩
 have KP:Hid (∀ t W,Table W t->Calls Tryz.prog 35 #[t,.string s] W λe w'=>e=.returned (.tuple #[.agg #[.bool k,.string P,.string Q],.int .i64 F])/\Below W.heap.size W w'):=jH λt W hT=>by rw [hP,hQ];exact Ea t s W hT (by omega) hp
 have K0:F=0->p.length<=300/\q.length<=300/\Pth.Cu k p q=0:=λh=>by
  rcases hpi with ⟨h1,-⟩ | ⟨-,h1,h2,-,h3⟩
  ·exact absurd h h1
  ·obtain ⟨⟨F',pl,ts⟩,hl⟩:∃ r,Lex.Em s.data.toList=r:=⟨_,rfl⟩
   rw [hl] at h2 h3
   replace h3:F'=0:=h3
   subst h3
   have hpl0:pl=0:=by
    rcases Lex.Ig s.data.toList with ⟨-,e⟩ | ⟨-,F,q,e,h1,-⟩ | ⟨-,us,e,hc,-⟩
    ·rw [e] at hl;injection hl with h _;cases h
    ·rw [e] at hl;injection hl with h _;omega
    ·rw [e] at hl;injection hl with _ h;injection h with h _;exact h.symm
   subst hpl0
   have:=Pth.W5 hl h2
   exact ⟨by omega,by omega,h1⟩
 have KPR:Hid (F=0->∀ W,Calls Tryz.prog 31 #[.agg #[.bool k,.string P,.string Q]] W λe w'=>e=.returned (.string PP)/\Below W.heap.size W w'):=jH λh W=>by
  obtain ⟨h1,h2,-⟩:=K0 h
  have:=Hc k ⟨p.toArray⟩ ⟨q.toArray⟩ W (by show p.toArray.size<=_;rw [List.size_toArray];omega) (by show q.toArray.size<=_;rw [List.size_toArray];omega)
  rw [hP,hQ,hPP]
  exact this
 have KPP:Hid (F=0->∀ t W,Table W t->Calls Tryz.prog 35 #[t,.string PP] W λe w'=>e=.returned (.tuple #[.agg #[.bool k,.string P,.string Q],.int .i64 0])/\Below W.heap.size W w'):=jH λh t W hT=>by
  obtain ⟨h1,h2,h3⟩:=K0 h
  have h4:=Pth.Pg h3 (by omega)
  have h5:=hpl k p q
  rw [hP,hQ]
  exact Q8 t PP W hT (by rw [hPP];show (Pth.Cm k p q).toArray.size<=_;rw [List.size_toArray];omega) (by rw [hPP];exact h4) (by omega) (by omega)
 have KR:Hid (F=0->∀ t W,Table W t->Calls Tryz.prog 30 #[t,.agg #[.bool k,.string P,.string Q]] W λe w'=>e=.returned (.int .i64 0)/\Below W.heap.size W w'):=jH λh t W hT=>by
  obtain ⟨h1,h2,h3⟩:=K0 h
  rw [hP,hQ]
  exact Lg t k _ _ W hT (by show p.toArray.size<=_;rw [List.size_toArray];omega) (Ke (by omega)) h3
 have KZ:Hid (F ≠ 0->k=false/\P=⟨#[]⟩/\Q=⟨#[]⟩):=jH λh=>by
  rcases hpi with ⟨-,h0,h1,h2⟩ | ⟨h1,-⟩
  ·rw [hP,hQ,h1,h2];exact ⟨h0,rfl,rfl⟩
  ·exact absurd h1 h
 clear hE hp hpi hP hQ hPP hPM hpl K0 HX HY hxl hyl hsl
 have BB:=jH (Below.refl w.heap.size w)
 go_enter Tryz.func7,Tryz.ntmps7
 obtain ⟨B,hB⟩:∃ N,w.heap.size=N:=⟨_,rfl⟩
 have hb:=Ab w (.cells #[.bool n,.string x,.string y] 53)
 replace BB:=jH (Aa BB.out hb)
 clear hb
 have CB:=jH (show PAt B n x y (w.alloc (.cells #[.bool n,.string x,.string y] 53)) from hB ▸ PAt.new w n x y)
 obtain ⟨m0,m1,m2⟩:=CB.out.all
 go_wp2_with fail
 refine (Hn _).mono ?_
 rintro e w1 ⟨rfl,hb⟩
 replace m0:=Kc hb m0
 replace m1:=Kc hb m1
 replace m2:=Kc hb m2
 replace CB:=jH (CB.out.Ac hb)
 replace BB:=jH (Aa BB.out hb)
 clear hb
 go_wp2_with fail
 refine (Acz x y _ hx hy).mono ?_
 rintro e w2 ⟨rfl,hb⟩
 replace m0:=Kc hb m0
 replace m1:=Kc hb m1
 replace m2:=Kc hb m2
 replace CB:=jH (CB.out.Ac hb)
 replace BB:=jH (Aa BB.out hb)
 clear hb
 go_wp2_with fail
 refine (Ade _).mono ?_
 rintro e w3 ⟨tt,rfl,hT,hb⟩
 obtain ⟨b0,b1,b2,b3,rfl,-,-,-,-⟩:=id hT
 replace m0:=Kc hb m0
 replace m1:=Kc hb m1
 replace m2:=Kc hb m2
 replace CB:=jH (CB.out.Ac hb)
 replace BB:=jH (Aa BB.out hb)
 have K:=jH (Wx (b0:=b0) (b1:=b1) (b2:=b2) (b3:=b3) BB.out hT 31)
 clear hT hb BB
 obtain ⟨S,hS⟩:∃ N,w3.heap.size=N:=⟨_,rfl⟩
 rw [hS] at K
 have hb:=Ab w3 (.cells #[.slice (some ⟨b0,0,none⟩) 74 74,.slice (some ⟨b1,0,none⟩) 10 10,.slice (some ⟨b2,0,none⟩) 11 11,.slice (some ⟨b3,0,none⟩) 42 42] 31)
 replace m0:=Kc hb m0
 replace m1:=Kc hb m1
 replace m2:=Kc hb m2
 replace CB:=jH (CB.out.Ac hb)
 clear hb
 obtain ⟨-,t0,t1,t2,t3⟩:=K.out.held
 go_wp2_with fail
 refine (Lg (.agg #[.slice (some ⟨b0,0,none⟩) 74 74,.slice (some ⟨b1,0,none⟩) 10 10,.slice (some ⟨b2,0,none⟩) 11 11,.slice (some ⟨b3,0,none⟩) 42 42]) n x y _ K.out.table LX.out.1 LY.out HE.out).mono ?_
 rintro e w4 ⟨rfl,hb⟩
 replace m0:=Kc hb m0
 replace m1:=Kc hb m1
 replace m2:=Kc hb m2
 replace t0:=Kc hb t0
 replace t1:=Kc hb t1
 replace t2:=Kc hb t2
 replace t3:=Kc hb t3
 replace CB:=jH (CB.out.Ac hb)
 replace K:=jH (K.out.next hb)
 clear hb
 go_upto_if 30 with (fail)
 go_cut [] (λwx=>Hid (Kept w S b0 b1 b2 b3 wx))
 case first =>
  by_cases h0:E=0
  ·subst h0
   replace KB:=jH (KB.out rfl)
   replace KS:=jH (KS.out rfl)
   go_upto_region 7 with (fail)
   go_cut [8,9] (λs8 s9 wx=>∃ N,s8=.pointer (some ⟨N,0,none⟩)/\s9=.int .i64 0/\Hid (Kept w S b0 b1 b2 b3 wx/\PAt B n x y wx/\PAt N n x y wx))
   case first =>
    replace m0:(World.drew w4).cell? ⟨B,0,none⟩=some (.bool n):=m0
    replace m1:(World.drew w4).cell? ⟨B,1,none⟩=some (.string x):=m1
    replace m2:(World.drew w4).cell? ⟨B,2,none⟩=some (.string y):=m2
    replace t0:(World.drew w4).cell? ⟨S,0,none⟩=some (.slice (some ⟨b0,0,none⟩) 74 74):=t0
    replace t1:(World.drew w4).cell? ⟨S,1,none⟩=some (.slice (some ⟨b1,0,none⟩) 10 10):=t1
    replace t2:(World.drew w4).cell? ⟨S,2,none⟩=some (.slice (some ⟨b2,0,none⟩) 11 11):=t2
    replace t3:(World.drew w4).cell? ⟨S,3,none⟩=some (.slice (some ⟨b3,0,none⟩) 42 42):=t3
    replace K:=jH K.out.drew
    replace CB:=jH (CB.out.Ac (Below.refl _ _).drew)
    refine wp_region_held_drew (S:=(λw':World=>w'.cell? ⟨B,0,none⟩=some (.bool n)/\w'.cell? ⟨B,1,none⟩=some (.string x)/\w'.cell? ⟨B,2,none⟩=some (.string y)/\w'.cell? ⟨S,0,none⟩=some (.slice (some ⟨b0,0,none⟩) 74 74)/\w'.cell? ⟨S,1,none⟩=some (.slice (some ⟨b1,0,none⟩) 10 10)/\w'.cell? ⟨S,2,none⟩=some (.slice (some ⟨b2,0,none⟩) 11 11)/\w'.cell? ⟨S,3,none⟩=some (.slice (some ⟨b3,0,none⟩) 42 42))) (by kernel_rfl) ?_ (λhHeld=>?_)
    ·exact ⟨m0,m1,m2,t0,t1,t2,t3⟩
    generalize hwd:(World.drew w4)=d5 at m0 m1 m2 t0 t1 t2 t3 CB K hHeld ⊢
    clear hwd
    refine Ai 0 32 (v:=?_) rfl rfl (by kernel_rfl) (by kernel_rfl) (by kernel_rfl) (λ_ _ _ h=>h) (Or.inl ⟨by rfl,?_⟩) (by assumption) ?_
    rotate_left
    ·intro w hSw
     (try dsimp only at hSw)
     go_simp
     first | done | with_reducible rfl
    simp only [Act.put,List.setIfInBounds_toArray,List.set_cons_zero,List.set_cons_succ]
    refine Ai 1 33 (v:=?_) rfl rfl (by kernel_rfl) (by kernel_rfl) (by kernel_rfl) (λ_ _ _ h=>h) (Or.inl ⟨by rfl,?_⟩) (by assumption) ?_
    rotate_left
    ·intro w hSw
     (try dsimp only at hSw)
     go_simp
     first | done | with_reducible rfl
    simp only [Act.put,List.setIfInBounds_toArray,List.set_cons_zero,List.set_cons_succ]
    refine wpAnyH_ready (rs:=[2,7]) (by kernel_rfl) (by simp) ?_
    refine AllReadyH.cons (o:={ dst:=some 34,op:=.call { callee:=.value (.func 31),args:=#[.tmp 33],argTypes:=#[53] },type:=_,pos := "law.go:62", after:=_,guard:=none }) rfl (λK_ hK=>?_) (AllReadyH.cons (o:={ dst:=some 8,op:=.alloc 53,type:=_,pos := "law.go:62", after:=_,guard:=none }) rfl (λK_ hK=>?_) AllReadyH.nil)
    ·skip
     (try go_simp)
     go_at_call 31
     refine (KPM.out _).mono ?_
     rintro e w6 ⟨rfl,hb⟩
     replace m0:=Kc hb m0
     replace m1:=Kc hb m1
     replace m2:=Kc hb m2
     replace t0:=Kc hb t0
     replace t1:=Kc hb t1
     replace t2:=Kc hb t2
     replace t3:=Kc hb t3
     replace CB:=jH (CB.out.Ac hb)
     replace K:=jH (K.out.next hb)
     clear hb
     go_wp2_with fail
     clear hHeld
     refine hK.out _ _ ?_ (λhHeld=>?_)
     ·exact ⟨m0,m1,m2,t0,t1,t2,t3⟩
     clear hK K_
     refine wpAnyH_ready (rs:=[3,7]) (by kernel_rfl) (by simp) ?_
     refine AllReadyH.cons (o:={ dst:=some 35,op:=.call { callee:=.value (.func 35),args:=#[.tmp 32,.tmp 34],argTypes:=#[31,9] },type:=_,pos := "law.go:62", after:=_,guard:=none }) rfl (λK_ hK=>?_) (AllReadyH.cons (o:={ dst:=some 8,op:=.alloc 53,type:=_,pos := "law.go:62", after:=_,guard:=none }) rfl (λK_ hK=>?_) AllReadyH.nil)
     ·skip
      (try go_simp)
      go_at_call 35
      refine (KB.out _ _ K.out.table).mono ?_
      rintro e w7 ⟨rfl,hb⟩
      replace m0:=Kc hb m0
      replace m1:=Kc hb m1
      replace m2:=Kc hb m2
      replace t0:=Kc hb t0
      replace t1:=Kc hb t1
      replace t2:=Kc hb t2
      replace t3:=Kc hb t3
      replace CB:=jH (CB.out.Ac hb)
      replace K:=jH (K.out.next hb)
      clear hb
      go_wp2_with fail
      clear hHeld
      refine hK.out _ _ ?_ (λhHeld=>?_)
      ·exact ⟨m0,m1,m2,t0,t1,t2,t3⟩
      clear hK K_
      refine Ai 4 31 (v:=?_) rfl rfl (by kernel_rfl) (by kernel_rfl) (by kernel_rfl) (λ_ _ _ h=>h) (Or.inl ⟨by rfl,?_⟩) (by assumption) ?_
      rotate_left
      ·intro w hSw
       (try dsimp only at hSw)
       go_simp
       first | done | with_reducible rfl
      simp only [Act.put,List.setIfInBounds_toArray,List.set_cons_zero,List.set_cons_succ]
      refine Ai 5 36 (v:=?_) rfl rfl (by kernel_rfl) (by kernel_rfl) (by kernel_rfl) (λ_ _ _ h=>h) (Or.inl ⟨by rfl,?_⟩) (by assumption) ?_
      rotate_left
      ·intro w hSw
       (try dsimp only at hSw)
       go_simp
       first | done | with_reducible rfl
      simp only [Act.put,List.setIfInBounds_toArray,List.set_cons_zero,List.set_cons_succ]
      refine Ai 6 37 (v:=?_) rfl rfl (by kernel_rfl) (by kernel_rfl) (by kernel_rfl) (λ_ _ _ h=>h) (Or.inl ⟨by rfl,?_⟩) (by assumption) ?_
      rotate_left
      ·intro w hSw
       (try dsimp only at hSw)
       go_simp
       first | done | with_reducible rfl
      simp only [Act.put,List.setIfInBounds_toArray,List.set_cons_zero,List.set_cons_succ]
      refine wpAnyH_ready (rs:=[7]) (by kernel_rfl) (by simp) ?_
      refine AllReadyH.cons (o:={ dst:=some 8,op:=.alloc 53,type:=_,pos := "law.go:62", after:=_,guard:=none }) rfl (λK_ hK=>?_) AllReadyH.nil
      (try go_simp)
      go_wp2_with fail
      obtain ⟨N,hN⟩:∃ N,w7.heap.size=N:=⟨_,rfl⟩
      have ltNB:B<N:=by have h_:=World.block_lt_of_cell? _ _ m0;simp only [hN] at h_;exact h_
      have ltNS:S<N:=by have h_:=World.block_lt_of_cell? _ _ t0;simp only [hN] at h_;exact h_
      have YN:=K
      have hb:=Ab w7 (.cells #[.bool false,.string ⟨#[]⟩,.string ⟨#[]⟩] 53)
      replace m0:=Kc hb m0
      replace m1:=Kc hb m1
      replace m2:=Kc hb m2
      replace t0:=Kc hb t0
      replace t1:=Kc hb t1
      replace t2:=Kc hb t2
      replace t3:=Kc hb t3
      replace CB:=jH (CB.out.Ac hb)
      replace K:=jH (K.out.next hb)
      have ZN:=jH hb
      clear hb
      have CN:=jH (show PAt N false ⟨#[]⟩ ⟨#[]⟩ (w7.alloc (.cells #[.bool false,.string ⟨#[]⟩,.string ⟨#[]⟩] 53)) from hN ▸ PAt.new w7 false ⟨#[]⟩ ⟨#[]⟩)
      clear hHeld
      refine hK.out _ _ ?_ (λhHeld=>?_)
      ·exact ⟨m0,m1,m2,t0,t1,t2,t3⟩
      clear hK K_
      refine wpAnyH_ready (rs:=[8]) (by kernel_rfl) (by simp) ?_
      refine AllReadyH.cons (o:={ dst:=none,op:=.store 53 (.tmp 8) (.tmp 36),type:=_,pos := "law.go:62", after:=_,guard:=none }) rfl (λK_ hK=>?_) AllReadyH.nil
      obtain ⟨a0,a1,a2⟩:=CN.out.all
      obtain ⟨a3,a4,a5⟩:=CN.out.fr
      (try go_simp)
      go_wp2_with fail
      clear a0 a1 a2 a3 a4 a5
      have hb:=Ab w7 (.cells #[.bool n,.string x,.string y] 53)
      have hb0:=Ab w7 (.cells #[.bool false,.string ⟨#[]⟩,.string ⟨#[]⟩] 53)
      replace m0:=(hb.cell (p:=⟨B,0,none⟩) (show B<w7.heap.size by rw [hN];exact ltNB)).trans (((hb0.cell (p:=⟨B,0,none⟩) (show B<w7.heap.size by rw [hN];exact ltNB)).symm).trans m0)
      replace m1:=(hb.cell (p:=⟨B,1,none⟩) (show B<w7.heap.size by rw [hN];exact ltNB)).trans (((hb0.cell (p:=⟨B,1,none⟩) (show B<w7.heap.size by rw [hN];exact ltNB)).symm).trans m1)
      replace m2:=(hb.cell (p:=⟨B,2,none⟩) (show B<w7.heap.size by rw [hN];exact ltNB)).trans (((hb0.cell (p:=⟨B,2,none⟩) (show B<w7.heap.size by rw [hN];exact ltNB)).symm).trans m2)
      replace t0:=(hb.cell (p:=⟨S,0,none⟩) (show S<w7.heap.size by rw [hN];exact ltNS)).trans (((hb0.cell (p:=⟨S,0,none⟩) (show S<w7.heap.size by rw [hN];exact ltNS)).symm).trans t0)
      replace t1:=(hb.cell (p:=⟨S,1,none⟩) (show S<w7.heap.size by rw [hN];exact ltNS)).trans (((hb0.cell (p:=⟨S,1,none⟩) (show S<w7.heap.size by rw [hN];exact ltNS)).symm).trans t1)
      replace t2:=(hb.cell (p:=⟨S,2,none⟩) (show S<w7.heap.size by rw [hN];exact ltNS)).trans (((hb0.cell (p:=⟨S,2,none⟩) (show S<w7.heap.size by rw [hN];exact ltNS)).symm).trans t2)
      replace t3:=(hb.cell (p:=⟨S,3,none⟩) (show S<w7.heap.size by rw [hN];exact ltNS)).trans (((hb0.cell (p:=⟨S,3,none⟩) (show S<w7.heap.size by rw [hN];exact ltNS)).symm).trans t3)
      replace CB:=jH (show PAt _ _ _ _ _ from ⟨(hb.block B (by rw [hN];exact ltNB)).trans ((hb0.block B (by rw [hN];exact ltNB)).symm.trans CB.out.blk)⟩)
      replace CN:=jH (show PAt N n x y (w7.alloc (.cells #[.bool n,.string x,.string y] 53)) from hN ▸ PAt.new w7 n x y)
      replace K:=jH (YN.out.next hb)
      clear hb hb0 ZN
      clear hHeld
      refine hK.out _ _ ?_ (λhHeld=>?_)
      ·exact ⟨m0,m1,m2,t0,t1,t2,t3⟩
      clear hK K_
      refine Ai 9 9 (v:=?_) rfl rfl (by kernel_rfl) (by kernel_rfl) (by kernel_rfl) (λ_ _ _ h=>h) (Or.inl ⟨by rfl,?_⟩) (by assumption) ?_
      rotate_left
      ·intro w hSw
       (try dsimp only at hSw)
       go_simp
       first | done | with_reducible rfl
      simp only [Act.put,List.setIfInBounds_toArray,List.set_cons_zero,List.set_cons_succ]
      refine wpAnyH_done (by kernel_rfl) ?_ _
      go_wp2_with fail
      go_meet
      exact ⟨N,rfl,rfl,jH ⟨K.out,CB.out,CN.out⟩⟩
     ·skip
      (try go_simp)
      go_wp2_with fail
      obtain ⟨N,hN⟩:∃ N,w6.heap.size=N:=⟨_,rfl⟩
      have ltNB:B<N:=by have h_:=World.block_lt_of_cell? _ _ m0;simp only [hN] at h_;exact h_
      have ltNS:S<N:=by have h_:=World.block_lt_of_cell? _ _ t0;simp only [hN] at h_;exact h_
      have YN:=K
      have hb:=Ab w6 (.cells #[.bool false,.string ⟨#[]⟩,.string ⟨#[]⟩] 53)
      replace m0:=Kc hb m0
      replace m1:=Kc hb m1
      replace m2:=Kc hb m2
      replace t0:=Kc hb t0
      replace t1:=Kc hb t1
      replace t2:=Kc hb t2
      replace t3:=Kc hb t3
      replace CB:=jH (CB.out.Ac hb)
      replace K:=jH (K.out.next hb)
      have ZN:=jH hb
      clear hb
      have CN:=jH (show PAt N false ⟨#[]⟩ ⟨#[]⟩ (w6.alloc (.cells #[.bool false,.string ⟨#[]⟩,.string ⟨#[]⟩] 53)) from hN ▸ PAt.new w6 false ⟨#[]⟩ ⟨#[]⟩)
      clear hHeld
      refine hK.out _ _ ?_ (λhHeld=>?_)
      ·exact ⟨m0,m1,m2,t0,t1,t2,t3⟩
      clear hK K_
      refine wpAnyH_ready (rs:=[3]) (by kernel_rfl) (by simp) ?_
      refine AllReadyH.cons (o:={ dst:=some 35,op:=.call { callee:=.value (.func 35),args:=#[.tmp 32,.tmp 34],argTypes:=#[31,9] },type:=_,pos := "law.go:62", after:=_,guard:=none }) rfl (λK_ hK=>?_) AllReadyH.nil
      (try go_simp)
      go_at_call 35
      refine (KB.out _ _ K.out.table).mono ?_
      rintro e w7 ⟨rfl,hb⟩
      replace m0:=Kc hb m0
      replace m1:=Kc hb m1
      replace m2:=Kc hb m2
      replace t0:=Kc hb t0
      replace t1:=Kc hb t1
      replace t2:=Kc hb t2
      replace t3:=Kc hb t3
      replace CB:=jH (CB.out.Ac hb)
      replace CN:=jH (CN.out.Ac hb)
      replace ZN:=jH (Aa ZN.out hb)
      replace K:=jH (K.out.next hb)
      clear hb
      go_wp2_with fail
      clear hHeld
      refine hK.out _ _ ?_ (λhHeld=>?_)
      ·exact ⟨m0,m1,m2,t0,t1,t2,t3⟩
      clear hK K_
      refine Ai 4 31 (v:=?_) rfl rfl (by kernel_rfl) (by kernel_rfl) (by kernel_rfl) (λ_ _ _ h=>h) (Or.inl ⟨by rfl,?_⟩) (by assumption) ?_
      rotate_left
      ·intro w hSw
       (try dsimp only at hSw)
       go_simp
       first | done | with_reducible rfl
      simp only [Act.put,List.setIfInBounds_toArray,List.set_cons_zero,List.set_cons_succ]
      refine Ai 5 36 (v:=?_) rfl rfl (by kernel_rfl) (by kernel_rfl) (by kernel_rfl) (λ_ _ _ h=>h) (Or.inl ⟨by rfl,?_⟩) (by assumption) ?_
      rotate_left
      ·intro w hSw
       (try dsimp only at hSw)
       go_simp
       first | done | with_reducible rfl
      simp only [Act.put,List.setIfInBounds_toArray,List.set_cons_zero,List.set_cons_succ]
      refine Ai 6 37 (v:=?_) rfl rfl (by kernel_rfl) (by kernel_rfl) (by kernel_rfl) (λ_ _ _ h=>h) (Or.inl ⟨by rfl,?_⟩) (by assumption) ?_
      rotate_left
      ·intro w hSw
       (try dsimp only at hSw)
       go_simp
       first | done | with_reducible rfl
      simp only [Act.put,List.setIfInBounds_toArray,List.set_cons_zero,List.set_cons_succ]
      refine wpAnyH_ready (rs:=[8]) (by kernel_rfl) (by simp) ?_
      refine AllReadyH.cons (o:={ dst:=none,op:=.store 53 (.tmp 8) (.tmp 36),type:=_,pos := "law.go:62", after:=_,guard:=none }) rfl (λK_ hK=>?_) AllReadyH.nil
      obtain ⟨a0,a1,a2⟩:=CN.out.all
      obtain ⟨a3,a4,a5⟩:=CN.out.fr
      (try go_simp)
      go_wp2_with fail
      clear a0 a1 a2 a3 a4 a5
      replace m0:=(Ad (k:=2) (z:=.string y) (Nat.ne_of_lt ltNB)).trans ((Ad (k:=1) (z:=.string x) (Nat.ne_of_lt ltNB)).trans ((Ad (k:=0) (z:=.bool n) (Nat.ne_of_lt ltNB)).trans (m0)))
      replace m1:=(Ad (k:=2) (z:=.string y) (Nat.ne_of_lt ltNB)).trans ((Ad (k:=1) (z:=.string x) (Nat.ne_of_lt ltNB)).trans ((Ad (k:=0) (z:=.bool n) (Nat.ne_of_lt ltNB)).trans (m1)))
      replace m2:=(Ad (k:=2) (z:=.string y) (Nat.ne_of_lt ltNB)).trans ((Ad (k:=1) (z:=.string x) (Nat.ne_of_lt ltNB)).trans ((Ad (k:=0) (z:=.bool n) (Nat.ne_of_lt ltNB)).trans (m2)))
      replace t0:=(Ad (k:=2) (z:=.string y) (Nat.ne_of_lt ltNS)).trans ((Ad (k:=1) (z:=.string x) (Nat.ne_of_lt ltNS)).trans ((Ad (k:=0) (z:=.bool n) (Nat.ne_of_lt ltNS)).trans (t0)))
      replace t1:=(Ad (k:=2) (z:=.string y) (Nat.ne_of_lt ltNS)).trans ((Ad (k:=1) (z:=.string x) (Nat.ne_of_lt ltNS)).trans ((Ad (k:=0) (z:=.bool n) (Nat.ne_of_lt ltNS)).trans (t1)))
      replace t2:=(Ad (k:=2) (z:=.string y) (Nat.ne_of_lt ltNS)).trans ((Ad (k:=1) (z:=.string x) (Nat.ne_of_lt ltNS)).trans ((Ad (k:=0) (z:=.bool n) (Nat.ne_of_lt ltNS)).trans (t2)))
      replace t3:=(Ad (k:=2) (z:=.string y) (Nat.ne_of_lt ltNS)).trans ((Ad (k:=1) (z:=.string x) (Nat.ne_of_lt ltNS)).trans ((Ad (k:=0) (z:=.bool n) (Nat.ne_of_lt ltNS)).trans (t3)))
      replace CB:=jH (((CB.out.other (Nat.ne_of_lt ltNB) 0 (.bool n)).other (Nat.ne_of_lt ltNB) 1 (.string x)).other (Nat.ne_of_lt ltNB) 2 (.string y))
      replace CN:=jH (CN.out.set n x y)
      replace ZN:=jH (((ZN.out.setCell (p:=⟨N,0,none⟩) (show _<=N by omega) (.bool n)).setCell (p:=⟨N,1,none⟩) (show _<=N by omega) (.string x)).setCell (p:=⟨N,2,none⟩) (show _<=N by omega) (.string y))
      replace K:=jH (YN.out.next ZN.out)
      clear ZN
      clear hHeld
      refine hK.out _ _ ?_ (λhHeld=>?_)
      ·exact ⟨m0,m1,m2,t0,t1,t2,t3⟩
      clear hK K_
      refine Ai 9 9 (v:=?_) rfl rfl (by kernel_rfl) (by kernel_rfl) (by kernel_rfl) (λ_ _ _ h=>h) (Or.inl ⟨by rfl,?_⟩) (by assumption) ?_
      rotate_left
      ·intro w hSw
       (try dsimp only at hSw)
       go_simp
       first | done | with_reducible rfl
      simp only [Act.put,List.setIfInBounds_toArray,List.set_cons_zero,List.set_cons_succ]
      refine wpAnyH_done (by kernel_rfl) ?_ _
      go_wp2_with fail
      go_meet
      exact ⟨N,rfl,rfl,jH ⟨K.out,CB.out,CN.out⟩⟩
    ·skip
     (try go_simp)
     go_wp2_with fail
     obtain ⟨N,hN⟩:∃ N,d5.heap.size=N:=⟨_,rfl⟩
     have ltNB:B<N:=by have h_:=World.block_lt_of_cell? _ _ m0;simp only [hN] at h_;exact h_
     have ltNS:S<N:=by have h_:=World.block_lt_of_cell? _ _ t0;simp only [hN] at h_;exact h_
     have YN:=K
     have hb:=Ab d5 (.cells #[.bool false,.string ⟨#[]⟩,.string ⟨#[]⟩] 53)
     replace m0:=Kc hb m0
     replace m1:=Kc hb m1
     replace m2:=Kc hb m2
     replace t0:=Kc hb t0
     replace t1:=Kc hb t1
     replace t2:=Kc hb t2
     replace t3:=Kc hb t3
     replace CB:=jH (CB.out.Ac hb)
     replace K:=jH (K.out.next hb)
     have ZN:=jH hb
     clear hb
     have CN:=jH (show PAt N false ⟨#[]⟩ ⟨#[]⟩ (d5.alloc (.cells #[.bool false,.string ⟨#[]⟩,.string ⟨#[]⟩] 53)) from hN ▸ PAt.new d5 false ⟨#[]⟩ ⟨#[]⟩)
     clear hHeld
     refine hK.out _ _ ?_ (λhHeld=>?_)
     ·exact ⟨m0,m1,m2,t0,t1,t2,t3⟩
     clear hK K_
     refine wpAnyH_ready (rs:=[2]) (by kernel_rfl) (by simp) ?_
     refine AllReadyH.cons (o:={ dst:=some 34,op:=.call { callee:=.value (.func 31),args:=#[.tmp 33],argTypes:=#[53] },type:=_,pos := "law.go:62", after:=_,guard:=none }) rfl (λK_ hK=>?_) AllReadyH.nil
     (try go_simp)
     go_at_call 31
     refine (KPM.out _).mono ?_
     rintro e w6 ⟨rfl,hb⟩
     replace m0:=Kc hb m0
     replace m1:=Kc hb m1
     replace m2:=Kc hb m2
     replace t0:=Kc hb t0
     replace t1:=Kc hb t1
     replace t2:=Kc hb t2
     replace t3:=Kc hb t3
     replace CB:=jH (CB.out.Ac hb)
     replace CN:=jH (CN.out.Ac hb)
     replace ZN:=jH (Aa ZN.out hb)
     replace K:=jH (K.out.next hb)
     clear hb
     go_wp2_with fail
     clear hHeld
     refine hK.out _ _ ?_ (λhHeld=>?_)
     ·exact ⟨m0,m1,m2,t0,t1,t2,t3⟩
     clear hK K_
     refine wpAnyH_ready (rs:=[3]) (by kernel_rfl) (by simp) ?_
     refine AllReadyH.cons (o:={ dst:=some 35,op:=.call { callee:=.value (.func 35),args:=#[.tmp 32,.tmp 34],argTypes:=#[31,9] },type:=_,pos := "law.go:62", after:=_,guard:=none }) rfl (λK_ hK=>?_) AllReadyH.nil
     (try go_simp)
     go_at_call 35
     refine (KB.out _ _ K.out.table).mono ?_
     rintro e w7 ⟨rfl,hb⟩
     replace m0:=Kc hb m0
     replace m1:=Kc hb m1
     replace m2:=Kc hb m2
     replace t0:=Kc hb t0
     replace t1:=Kc hb t1
     replace t2:=Kc hb t2
     replace t3:=Kc hb t3
     replace CB:=jH (CB.out.Ac hb)
     replace CN:=jH (CN.out.Ac hb)
     replace ZN:=jH (Aa ZN.out hb)
     replace K:=jH (K.out.next hb)
     clear hb
     go_wp2_with fail
     clear hHeld
     refine hK.out _ _ ?_ (λhHeld=>?_)
     ·exact ⟨m0,m1,m2,t0,t1,t2,t3⟩
     clear hK K_
     refine Ai 4 31 (v:=?_) rfl rfl (by kernel_rfl) (by kernel_rfl) (by kernel_rfl) (λ_ _ _ h=>h) (Or.inl ⟨by rfl,?_⟩) (by assumption) ?_
     rotate_left
     ·intro w hSw
      (try dsimp only at hSw)
      go_simp
      first | done | with_reducible rfl
     simp only [Act.put,List.setIfInBounds_toArray,List.set_cons_zero,List.set_cons_succ]
     refine Ai 5 36 (v:=?_) rfl rfl (by kernel_rfl) (by kernel_rfl) (by kernel_rfl) (λ_ _ _ h=>h) (Or.inl ⟨by rfl,?_⟩) (by assumption) ?_
     rotate_left
     ·intro w hSw
      (try dsimp only at hSw)
      go_simp
      first | done | with_reducible rfl
     simp only [Act.put,List.setIfInBounds_toArray,List.set_cons_zero,List.set_cons_succ]
     refine Ai 6 37 (v:=?_) rfl rfl (by kernel_rfl) (by kernel_rfl) (by kernel_rfl) (λ_ _ _ h=>h) (Or.inl ⟨by rfl,?_⟩) (by assumption) ?_
     rotate_left
     ·intro w hSw
      (try dsimp only at hSw)
      go_simp
      first | done | with_reducible rfl
     simp only [Act.put,List.setIfInBounds_toArray,List.set_cons_zero,List.set_cons_succ]
     refine wpAnyH_ready (rs:=[8]) (by kernel_rfl) (by simp) ?_
     refine AllReadyH.cons (o:={ dst:=none,op:=.store 53 (.tmp 8) (.tmp 36),type:=_,pos := "law.go:62", after:=_,guard:=none }) rfl (λK_ hK=>?_) AllReadyH.nil
     obtain ⟨a0,a1,a2⟩:=CN.out.all
     obtain ⟨a3,a4,a5⟩:=CN.out.fr
     (try go_simp)
     go_wp2_with fail
     clear a0 a1 a2 a3 a4 a5
     replace m0:=(Ad (k:=2) (z:=.string y) (Nat.ne_of_lt ltNB)).trans ((Ad (k:=1) (z:=.string x) (Nat.ne_of_lt ltNB)).trans ((Ad (k:=0) (z:=.bool n) (Nat.ne_of_lt ltNB)).trans (m0)))
     replace m1:=(Ad (k:=2) (z:=.string y) (Nat.ne_of_lt ltNB)).trans ((Ad (k:=1) (z:=.string x) (Nat.ne_of_lt ltNB)).trans ((Ad (k:=0) (z:=.bool n) (Nat.ne_of_lt ltNB)).trans (m1)))
     replace m2:=(Ad (k:=2) (z:=.string y) (Nat.ne_of_lt ltNB)).trans ((Ad (k:=1) (z:=.string x) (Nat.ne_of_lt ltNB)).trans ((Ad (k:=0) (z:=.bool n) (Nat.ne_of_lt ltNB)).trans (m2)))
     replace t0:=(Ad (k:=2) (z:=.string y) (Nat.ne_of_lt ltNS)).trans ((Ad (k:=1) (z:=.string x) (Nat.ne_of_lt ltNS)).trans ((Ad (k:=0) (z:=.bool n) (Nat.ne_of_lt ltNS)).trans (t0)))
     replace t1:=(Ad (k:=2) (z:=.string y) (Nat.ne_of_lt ltNS)).trans ((Ad (k:=1) (z:=.string x) (Nat.ne_of_lt ltNS)).trans ((Ad (k:=0) (z:=.bool n) (Nat.ne_of_lt ltNS)).trans (t1)))
     replace t2:=(Ad (k:=2) (z:=.string y) (Nat.ne_of_lt ltNS)).trans ((Ad (k:=1) (z:=.string x) (Nat.ne_of_lt ltNS)).trans ((Ad (k:=0) (z:=.bool n) (Nat.ne_of_lt ltNS)).trans (t2)))
     replace t3:=(Ad (k:=2) (z:=.string y) (Nat.ne_of_lt ltNS)).trans ((Ad (k:=1) (z:=.string x) (Nat.ne_of_lt ltNS)).trans ((Ad (k:=0) (z:=.bool n) (Nat.ne_of_lt ltNS)).trans (t3)))
     replace CB:=jH (((CB.out.other (Nat.ne_of_lt ltNB) 0 (.bool n)).other (Nat.ne_of_lt ltNB) 1 (.string x)).other (Nat.ne_of_lt ltNB) 2 (.string y))
     replace CN:=jH (CN.out.set n x y)
     replace ZN:=jH (((ZN.out.setCell (p:=⟨N,0,none⟩) (show _<=N by omega) (.bool n)).setCell (p:=⟨N,1,none⟩) (show _<=N by omega) (.string x)).setCell (p:=⟨N,2,none⟩) (show _<=N by omega) (.string y))
     replace K:=jH (YN.out.next ZN.out)
     clear ZN
     clear hHeld
     refine hK.out _ _ ?_ (λhHeld=>?_)
     ·exact ⟨m0,m1,m2,t0,t1,t2,t3⟩
     clear hK K_
     refine Ai 9 9 (v:=?_) rfl rfl (by kernel_rfl) (by kernel_rfl) (by kernel_rfl) (λ_ _ _ h=>h) (Or.inl ⟨by rfl,?_⟩) (by assumption) ?_
     rotate_left
     ·intro w hSw
      (try dsimp only at hSw)
      go_simp
      first | done | with_reducible rfl
     simp only [Act.put,List.setIfInBounds_toArray,List.set_cons_zero,List.set_cons_succ]
     refine wpAnyH_done (by kernel_rfl) ?_ _
     go_wp2_with fail
     go_meet
     exact ⟨N,rfl,rfl,jH ⟨K.out,CB.out,CN.out⟩⟩
   case rest =>
    obtain ⟨N,rfl,rfl,HX⟩:=hcut
    clear m0 m1 m2 t0 t1 t2 t3 K CB
    have K:=jH HX.out.1
    have CB:=jH HX.out.2.1
    have CN:=jH HX.out.2.2
    clear HX
    obtain ⟨-,t0,t1,t2,t3⟩:=K.out.held
    obtain ⟨m0,m1,m2⟩:=CB.out.all
    obtain ⟨n0,n1,n2⟩:=CN.out.all
    go_wp2_with fail
    refine (KS.out _ _ K.out.table).mono ?_
    rintro e w5 ⟨rfl,hb⟩
    replace t0:=Kc hb t0
    replace t1:=Kc hb t1
    replace t2:=Kc hb t2
    replace t3:=Kc hb t3
    replace m0:=Kc hb m0
    replace m1:=Kc hb m1
    replace m2:=Kc hb m2
    replace n0:=Kc hb n0
    replace n1:=Kc hb n1
    replace n2:=Kc hb n2
    replace CB:=jH (CB.out.Ac hb)
    replace CN:=jH (CN.out.Ac hb)
    replace K:=jH (K.out.next hb)
    clear hb
    go_wp2_with fail
    go_meet
    exact jH K.out
  ·have e0:(E == 0)=false:=by simpa using h0
   clear h0
   go_wp2_with fail
   go_meet
   exact jH K.out
 case rest =>
  clear m0 m1 m2 t0 t1 t2 t3 K CB
  have K:=hcut
  clear hcut
  obtain ⟨-,t0,t1,t2,t3⟩:=K.out.held
  go_wp2_with fail
  refine (KP.out _ _ K.out.table).mono ?_
  rintro e w5 ⟨rfl,hb⟩
  replace t0:=Kc hb t0
  replace t1:=Kc hb t1
  replace t2:=Kc hb t2
  replace t3:=Kc hb t3
  replace K:=jH (K.out.next hb)
  clear hb
  by_cases hF:F=0
  ·subst hF
   replace KPR:=jH (KPR.out rfl)
   replace KPP:=jH (KPP.out rfl)
   replace KR:=jH (KR.out rfl)
   obtain ⟨X,hX⟩:∃ N,w5.heap.size=N:=⟨_,rfl⟩
   have ltXS:S<X:=by have h_:=World.block_lt_of_cell? _ _ t0;simp only [hX] at h_;exact h_
   have hb:=Ab w5 (.cells #[.bool k,.string P,.string Q] 53)
   replace t0:=Kc hb t0
   replace t1:=Kc hb t1
   replace t2:=Kc hb t2
   replace t3:=Kc hb t3
   replace K:=jH (K.out.next hb)
   clear hb
   have CX:=jH (show PAt X k P Q (w5.alloc (.cells #[.bool k,.string P,.string Q] 53)) from hX ▸ PAt.new w5 k P Q)
   obtain ⟨x0,x1,x2⟩:=CX.out.all
   go_upto_region 13 with (fail)
   go_cut [12,13] (λs12 s13 wx=>∃ N,s12=.pointer (some ⟨N,0,none⟩)/\s13=.int .i64 0/\Hid (Kept w S b0 b1 b2 b3 wx/\PAt X k P Q wx/\PAt N k P Q wx))
   case first =>
    replace t0:(World.drew (w5.alloc (.cells #[.bool k,.string P,.string Q] 53))).cell? ⟨S,0,none⟩=some (.slice (some ⟨b0,0,none⟩) 74 74):=t0
    replace t1:(World.drew (w5.alloc (.cells #[.bool k,.string P,.string Q] 53))).cell? ⟨S,1,none⟩=some (.slice (some ⟨b1,0,none⟩) 10 10):=t1
    replace t2:(World.drew (w5.alloc (.cells #[.bool k,.string P,.string Q] 53))).cell? ⟨S,2,none⟩=some (.slice (some ⟨b2,0,none⟩) 11 11):=t2
    replace t3:(World.drew (w5.alloc (.cells #[.bool k,.string P,.string Q] 53))).cell? ⟨S,3,none⟩=some (.slice (some ⟨b3,0,none⟩) 42 42):=t3
    replace x0:(World.drew (w5.alloc (.cells #[.bool k,.string P,.string Q] 53))).cell? ⟨X,0,none⟩=some (.bool k):=x0
    replace x1:(World.drew (w5.alloc (.cells #[.bool k,.string P,.string Q] 53))).cell? ⟨X,1,none⟩=some (.string P):=x1
    replace x2:(World.drew (w5.alloc (.cells #[.bool k,.string P,.string Q] 53))).cell? ⟨X,2,none⟩=some (.string Q):=x2
    replace K:=jH K.out.drew
    replace CX:=jH (CX.out.Ac (Below.refl _ _).drew)
    refine wp_region_held_drew (S:=(λw':World=>w'.cell? ⟨S,0,none⟩=some (.slice (some ⟨b0,0,none⟩) 74 74)/\w'.cell? ⟨S,1,none⟩=some (.slice (some ⟨b1,0,none⟩) 10 10)/\w'.cell? ⟨S,2,none⟩=some (.slice (some ⟨b2,0,none⟩) 11 11)/\w'.cell? ⟨S,3,none⟩=some (.slice (some ⟨b3,0,none⟩) 42 42)/\w'.cell? ⟨X,0,none⟩=some (.bool k)/\w'.cell? ⟨X,1,none⟩=some (.string P)/\w'.cell? ⟨X,2,none⟩=some (.string Q))) (by kernel_rfl) ?_ (λhHeld=>?_)
    ·exact ⟨t0,t1,t2,t3,x0,x1,x2⟩
    generalize hwd:(World.drew (w5.alloc (.cells #[.bool k,.string P,.string Q] 53)))=d6 at t0 t1 t2 t3 x0 x1 x2 CX K hHeld ⊢
    clear hwd
    refine Ai 0 67 (v:=?_) rfl rfl (by kernel_rfl) (by kernel_rfl) (by kernel_rfl) (λ_ _ _ h=>h) (Or.inl ⟨by rfl,?_⟩) (by assumption) ?_
    rotate_left
    ·intro w hSw
     (try dsimp only at hSw)
     go_simp
     first | done | with_reducible rfl
    simp only [Act.put,List.setIfInBounds_toArray,List.set_cons_zero,List.set_cons_succ]
    refine Ai 1 68 (v:=?_) rfl rfl (by kernel_rfl) (by kernel_rfl) (by kernel_rfl) (λ_ _ _ h=>h) (Or.inl ⟨by rfl,?_⟩) (by assumption) ?_
    rotate_left
    ·intro w hSw
     (try dsimp only at hSw)
     go_simp
     first | done | with_reducible rfl
    simp only [Act.put,List.setIfInBounds_toArray,List.set_cons_zero,List.set_cons_succ]
    refine wpAnyH_ready (rs:=[2,7]) (by kernel_rfl) (by simp) ?_
    refine AllReadyH.cons (o:={ dst:=some 69,op:=.call { callee:=.value (.func 31),args:=#[.tmp 68],argTypes:=#[53] },type:=_,pos := "law.go:71", after:=_,guard:=none }) rfl (λK_ hK=>?_) (AllReadyH.cons (o:={ dst:=some 12,op:=.alloc 53,type:=_,pos := "law.go:71", after:=_,guard:=none }) rfl (λK_ hK=>?_) AllReadyH.nil)
    ·skip
     (try go_simp)
     go_at_call 31
     refine (KPR.out _).mono ?_
     rintro e w7 ⟨rfl,hb⟩
     replace t0:=Kc hb t0
     replace t1:=Kc hb t1
     replace t2:=Kc hb t2
     replace t3:=Kc hb t3
     replace x0:=Kc hb x0
     replace x1:=Kc hb x1
     replace x2:=Kc hb x2
     replace CX:=jH (CX.out.Ac hb)
     replace K:=jH (K.out.next hb)
     clear hb
     go_wp2_with fail
     clear hHeld
     refine hK.out _ _ ?_ (λhHeld=>?_)
     ·exact ⟨t0,t1,t2,t3,x0,x1,x2⟩
     clear hK K_
     refine wpAnyH_ready (rs:=[3,7]) (by kernel_rfl) (by simp) ?_
     refine AllReadyH.cons (o:={ dst:=some 70,op:=.call { callee:=.value (.func 35),args:=#[.tmp 67,.tmp 69],argTypes:=#[31,9] },type:=_,pos := "law.go:71", after:=_,guard:=none }) rfl (λK_ hK=>?_) (AllReadyH.cons (o:={ dst:=some 12,op:=.alloc 53,type:=_,pos := "law.go:71", after:=_,guard:=none }) rfl (λK_ hK=>?_) AllReadyH.nil)
     ·skip
      (try go_simp)
      go_at_call 35
      refine (KPP.out _ _ K.out.table).mono ?_
      rintro e w8 ⟨rfl,hb⟩
      replace t0:=Kc hb t0
      replace t1:=Kc hb t1
      replace t2:=Kc hb t2
      replace t3:=Kc hb t3
      replace x0:=Kc hb x0
      replace x1:=Kc hb x1
      replace x2:=Kc hb x2
      replace CX:=jH (CX.out.Ac hb)
      replace K:=jH (K.out.next hb)
      clear hb
      go_wp2_with fail
      clear hHeld
      refine hK.out _ _ ?_ (λhHeld=>?_)
      ·exact ⟨t0,t1,t2,t3,x0,x1,x2⟩
      clear hK K_
      refine Ai 4 66 (v:=?_) rfl rfl (by kernel_rfl) (by kernel_rfl) (by kernel_rfl) (λ_ _ _ h=>h) (Or.inl ⟨by rfl,?_⟩) (by assumption) ?_
      rotate_left
      ·intro w hSw
       (try dsimp only at hSw)
       go_simp
       first | done | with_reducible rfl
      simp only [Act.put,List.setIfInBounds_toArray,List.set_cons_zero,List.set_cons_succ]
      refine Ai 5 71 (v:=?_) rfl rfl (by kernel_rfl) (by kernel_rfl) (by kernel_rfl) (λ_ _ _ h=>h) (Or.inl ⟨by rfl,?_⟩) (by assumption) ?_
      rotate_left
      ·intro w hSw
       (try dsimp only at hSw)
       go_simp
       first | done | with_reducible rfl
      simp only [Act.put,List.setIfInBounds_toArray,List.set_cons_zero,List.set_cons_succ]
      refine Ai 6 72 (v:=?_) rfl rfl (by kernel_rfl) (by kernel_rfl) (by kernel_rfl) (λ_ _ _ h=>h) (Or.inl ⟨by rfl,?_⟩) (by assumption) ?_
      rotate_left
      ·intro w hSw
       (try dsimp only at hSw)
       go_simp
       first | done | with_reducible rfl
      simp only [Act.put,List.setIfInBounds_toArray,List.set_cons_zero,List.set_cons_succ]
      refine wpAnyH_ready (rs:=[7]) (by kernel_rfl) (by simp) ?_
      refine AllReadyH.cons (o:={ dst:=some 12,op:=.alloc 53,type:=_,pos := "law.go:71", after:=_,guard:=none }) rfl (λK_ hK=>?_) AllReadyH.nil
      (try go_simp)
      go_wp2_with fail
      obtain ⟨Y,hY⟩:∃ N,w8.heap.size=N:=⟨_,rfl⟩
      have ltYS:S<Y:=by have h_:=World.block_lt_of_cell? _ _ t0;simp only [hY] at h_;exact h_
      have ltYX:X<Y:=by have h_:=World.block_lt_of_cell? _ _ x0;simp only [hY] at h_;exact h_
      have YY:=K
      have hb:=Ab w8 (.cells #[.bool false,.string ⟨#[]⟩,.string ⟨#[]⟩] 53)
      replace t0:=Kc hb t0
      replace t1:=Kc hb t1
      replace t2:=Kc hb t2
      replace t3:=Kc hb t3
      replace x0:=Kc hb x0
      replace x1:=Kc hb x1
      replace x2:=Kc hb x2
      replace CX:=jH (CX.out.Ac hb)
      replace K:=jH (K.out.next hb)
      have ZY:=jH hb
      clear hb
      have CY:=jH (show PAt Y false ⟨#[]⟩ ⟨#[]⟩ (w8.alloc (.cells #[.bool false,.string ⟨#[]⟩,.string ⟨#[]⟩] 53)) from hY ▸ PAt.new w8 false ⟨#[]⟩ ⟨#[]⟩)
      clear hHeld
      refine hK.out _ _ ?_ (λhHeld=>?_)
      ·exact ⟨t0,t1,t2,t3,x0,x1,x2⟩
      clear hK K_
      refine wpAnyH_ready (rs:=[8]) (by kernel_rfl) (by simp) ?_
      refine AllReadyH.cons (o:={ dst:=none,op:=.store 53 (.tmp 12) (.tmp 71),type:=_,pos := "law.go:71", after:=_,guard:=none }) rfl (λK_ hK=>?_) AllReadyH.nil
      obtain ⟨a0,a1,a2⟩:=CY.out.all
      obtain ⟨a3,a4,a5⟩:=CY.out.fr
      (try go_simp)
      go_wp2_with fail
      clear a0 a1 a2 a3 a4 a5
      have hb:=Ab w8 (.cells #[.bool k,.string P,.string Q] 53)
      have hb0:=Ab w8 (.cells #[.bool false,.string ⟨#[]⟩,.string ⟨#[]⟩] 53)
      replace t0:=(hb.cell (p:=⟨S,0,none⟩) (show S<w8.heap.size by rw [hY];exact ltYS)).trans (((hb0.cell (p:=⟨S,0,none⟩) (show S<w8.heap.size by rw [hY];exact ltYS)).symm).trans t0)
      replace t1:=(hb.cell (p:=⟨S,1,none⟩) (show S<w8.heap.size by rw [hY];exact ltYS)).trans (((hb0.cell (p:=⟨S,1,none⟩) (show S<w8.heap.size by rw [hY];exact ltYS)).symm).trans t1)
      replace t2:=(hb.cell (p:=⟨S,2,none⟩) (show S<w8.heap.size by rw [hY];exact ltYS)).trans (((hb0.cell (p:=⟨S,2,none⟩) (show S<w8.heap.size by rw [hY];exact ltYS)).symm).trans t2)
      replace t3:=(hb.cell (p:=⟨S,3,none⟩) (show S<w8.heap.size by rw [hY];exact ltYS)).trans (((hb0.cell (p:=⟨S,3,none⟩) (show S<w8.heap.size by rw [hY];exact ltYS)).symm).trans t3)
      replace x0:=(hb.cell (p:=⟨X,0,none⟩) (show X<w8.heap.size by rw [hY];exact ltYX)).trans (((hb0.cell (p:=⟨X,0,none⟩) (show X<w8.heap.size by rw [hY];exact ltYX)).symm).trans x0)
      replace x1:=(hb.cell (p:=⟨X,1,none⟩) (show X<w8.heap.size by rw [hY];exact ltYX)).trans (((hb0.cell (p:=⟨X,1,none⟩) (show X<w8.heap.size by rw [hY];exact ltYX)).symm).trans x1)
      replace x2:=(hb.cell (p:=⟨X,2,none⟩) (show X<w8.heap.size by rw [hY];exact ltYX)).trans (((hb0.cell (p:=⟨X,2,none⟩) (show X<w8.heap.size by rw [hY];exact ltYX)).symm).trans x2)
      replace CX:=jH (show PAt _ _ _ _ _ from ⟨(hb.block X (by rw [hY];exact ltYX)).trans ((hb0.block X (by rw [hY];exact ltYX)).symm.trans CX.out.blk)⟩)
      replace CY:=jH (show PAt Y k P Q (w8.alloc (.cells #[.bool k,.string P,.string Q] 53)) from hY ▸ PAt.new w8 k P Q)
      replace K:=jH (YY.out.next hb)
      clear hb hb0 ZY
      clear hHeld
      refine hK.out _ _ ?_ (λhHeld=>?_)
      ·exact ⟨t0,t1,t2,t3,x0,x1,x2⟩
      clear hK K_
      refine Ai 9 13 (v:=?_) rfl rfl (by kernel_rfl) (by kernel_rfl) (by kernel_rfl) (λ_ _ _ h=>h) (Or.inl ⟨by rfl,?_⟩) (by assumption) ?_
      rotate_left
      ·intro w hSw
       (try dsimp only at hSw)
       go_simp
       first | done | with_reducible rfl
      simp only [Act.put,List.setIfInBounds_toArray,List.set_cons_zero,List.set_cons_succ]
      refine wpAnyH_done (by kernel_rfl) ?_ _
      go_wp2_with fail
      go_meet
      exact ⟨Y,rfl,rfl,jH ⟨K.out,CX.out,CY.out⟩⟩
     ·skip
      (try go_simp)
      go_wp2_with fail
      obtain ⟨Y,hY⟩:∃ N,w7.heap.size=N:=⟨_,rfl⟩
      have ltYS:S<Y:=by have h_:=World.block_lt_of_cell? _ _ t0;simp only [hY] at h_;exact h_
      have ltYX:X<Y:=by have h_:=World.block_lt_of_cell? _ _ x0;simp only [hY] at h_;exact h_
      have YY:=K
      have hb:=Ab w7 (.cells #[.bool false,.string ⟨#[]⟩,.string ⟨#[]⟩] 53)
      replace t0:=Kc hb t0
      replace t1:=Kc hb t1
      replace t2:=Kc hb t2
      replace t3:=Kc hb t3
      replace x0:=Kc hb x0
      replace x1:=Kc hb x1
      replace x2:=Kc hb x2
      replace CX:=jH (CX.out.Ac hb)
      replace K:=jH (K.out.next hb)
      have ZY:=jH hb
      clear hb
      have CY:=jH (show PAt Y false ⟨#[]⟩ ⟨#[]⟩ (w7.alloc (.cells #[.bool false,.string ⟨#[]⟩,.string ⟨#[]⟩] 53)) from hY ▸ PAt.new w7 false ⟨#[]⟩ ⟨#[]⟩)
      clear hHeld
      refine hK.out _ _ ?_ (λhHeld=>?_)
      ·exact ⟨t0,t1,t2,t3,x0,x1,x2⟩
      clear hK K_
      refine wpAnyH_ready (rs:=[3]) (by kernel_rfl) (by simp) ?_
      refine AllReadyH.cons (o:={ dst:=some 70,op:=.call { callee:=.value (.func 35),args:=#[.tmp 67,.tmp 69],argTypes:=#[31,9] },type:=_,pos := "law.go:71", after:=_,guard:=none }) rfl (λK_ hK=>?_) AllReadyH.nil
      (try go_simp)
      go_at_call 35
      refine (KPP.out _ _ K.out.table).mono ?_
      rintro e w8 ⟨rfl,hb⟩
      replace t0:=Kc hb t0
      replace t1:=Kc hb t1
      replace t2:=Kc hb t2
      replace t3:=Kc hb t3
      replace x0:=Kc hb x0
      replace x1:=Kc hb x1
      replace x2:=Kc hb x2
      replace CX:=jH (CX.out.Ac hb)
      replace CY:=jH (CY.out.Ac hb)
      replace ZY:=jH (Aa ZY.out hb)
      replace K:=jH (K.out.next hb)
      clear hb
      go_wp2_with fail
      clear hHeld
      refine hK.out _ _ ?_ (λhHeld=>?_)
      ·exact ⟨t0,t1,t2,t3,x0,x1,x2⟩
      clear hK K_
      refine Ai 4 66 (v:=?_) rfl rfl (by kernel_rfl) (by kernel_rfl) (by kernel_rfl) (λ_ _ _ h=>h) (Or.inl ⟨by rfl,?_⟩) (by assumption) ?_
      rotate_left
      ·intro w hSw
       (try dsimp only at hSw)
       go_simp
       first | done | with_reducible rfl
      simp only [Act.put,List.setIfInBounds_toArray,List.set_cons_zero,List.set_cons_succ]
      refine Ai 5 71 (v:=?_) rfl rfl (by kernel_rfl) (by kernel_rfl) (by kernel_rfl) (λ_ _ _ h=>h) (Or.inl ⟨by rfl,?_⟩) (by assumption) ?_
      rotate_left
      ·intro w hSw
       (try dsimp only at hSw)
       go_simp
       first | done | with_reducible rfl
      simp only [Act.put,List.setIfInBounds_toArray,List.set_cons_zero,List.set_cons_succ]
      refine Ai 6 72 (v:=?_) rfl rfl (by kernel_rfl) (by kernel_rfl) (by kernel_rfl) (λ_ _ _ h=>h) (Or.inl ⟨by rfl,?_⟩) (by assumption) ?_
      rotate_left
      ·intro w hSw
       (try dsimp only at hSw)
       go_simp
       first | done | with_reducible rfl
      simp only [Act.put,List.setIfInBounds_toArray,List.set_cons_zero,List.set_cons_succ]
      refine wpAnyH_ready (rs:=[8]) (by kernel_rfl) (by simp) ?_
      refine AllReadyH.cons (o:={ dst:=none,op:=.store 53 (.tmp 12) (.tmp 71),type:=_,pos := "law.go:71", after:=_,guard:=none }) rfl (λK_ hK=>?_) AllReadyH.nil
      obtain ⟨a0,a1,a2⟩:=CY.out.all
      obtain ⟨a3,a4,a5⟩:=CY.out.fr
      (try go_simp)
      go_wp2_with fail
      clear a0 a1 a2 a3 a4 a5
      replace t0:=(Ad (k:=2) (z:=.string Q) (Nat.ne_of_lt ltYS)).trans ((Ad (k:=1) (z:=.string P) (Nat.ne_of_lt ltYS)).trans ((Ad (k:=0) (z:=.bool k) (Nat.ne_of_lt ltYS)).trans (t0)))
      replace t1:=(Ad (k:=2) (z:=.string Q) (Nat.ne_of_lt ltYS)).trans ((Ad (k:=1) (z:=.string P) (Nat.ne_of_lt ltYS)).trans ((Ad (k:=0) (z:=.bool k) (Nat.ne_of_lt ltYS)).trans (t1)))
      replace t2:=(Ad (k:=2) (z:=.string Q) (Nat.ne_of_lt ltYS)).trans ((Ad (k:=1) (z:=.string P) (Nat.ne_of_lt ltYS)).trans ((Ad (k:=0) (z:=.bool k) (Nat.ne_of_lt ltYS)).trans (t2)))
      replace t3:=(Ad (k:=2) (z:=.string Q) (Nat.ne_of_lt ltYS)).trans ((Ad (k:=1) (z:=.string P) (Nat.ne_of_lt ltYS)).trans ((Ad (k:=0) (z:=.bool k) (Nat.ne_of_lt ltYS)).trans (t3)))
      replace x0:=(Ad (k:=2) (z:=.string Q) (Nat.ne_of_lt ltYX)).trans ((Ad (k:=1) (z:=.string P) (Nat.ne_of_lt ltYX)).trans ((Ad (k:=0) (z:=.bool k) (Nat.ne_of_lt ltYX)).trans (x0)))
      replace x1:=(Ad (k:=2) (z:=.string Q) (Nat.ne_of_lt ltYX)).trans ((Ad (k:=1) (z:=.string P) (Nat.ne_of_lt ltYX)).trans ((Ad (k:=0) (z:=.bool k) (Nat.ne_of_lt ltYX)).trans (x1)))
      replace x2:=(Ad (k:=2) (z:=.string Q) (Nat.ne_of_lt ltYX)).trans ((Ad (k:=1) (z:=.string P) (Nat.ne_of_lt ltYX)).trans ((Ad (k:=0) (z:=.bool k) (Nat.ne_of_lt ltYX)).trans (x2)))
      replace CX:=jH (((CX.out.other (Nat.ne_of_lt ltYX) 0 (.bool k)).other (Nat.ne_of_lt ltYX) 1 (.string P)).other (Nat.ne_of_lt ltYX) 2 (.string Q))
      replace CY:=jH (CY.out.set k P Q)
      replace ZY:=jH (((ZY.out.setCell (p:=⟨Y,0,none⟩) (show _<=Y by omega) (.bool k)).setCell (p:=⟨Y,1,none⟩) (show _<=Y by omega) (.string P)).setCell (p:=⟨Y,2,none⟩) (show _<=Y by omega) (.string Q))
      replace K:=jH (YY.out.next ZY.out)
      clear ZY
      clear hHeld
      refine hK.out _ _ ?_ (λhHeld=>?_)
      ·exact ⟨t0,t1,t2,t3,x0,x1,x2⟩
      clear hK K_
      refine Ai 9 13 (v:=?_) rfl rfl (by kernel_rfl) (by kernel_rfl) (by kernel_rfl) (λ_ _ _ h=>h) (Or.inl ⟨by rfl,?_⟩) (by assumption) ?_
      rotate_left
      ·intro w hSw
       (try dsimp only at hSw)
       go_simp
       first | done | with_reducible rfl
      simp only [Act.put,List.setIfInBounds_toArray,List.set_cons_zero,List.set_cons_succ]
      refine wpAnyH_done (by kernel_rfl) ?_ _
      go_wp2_with fail
      go_meet
      exact ⟨Y,rfl,rfl,jH ⟨K.out,CX.out,CY.out⟩⟩
    ·skip
     (try go_simp)
     go_wp2_with fail
     obtain ⟨Y,hY⟩:∃ N,d6.heap.size=N:=⟨_,rfl⟩
     have ltYS:S<Y:=by have h_:=World.block_lt_of_cell? _ _ t0;simp only [hY] at h_;exact h_
     have ltYX:X<Y:=by have h_:=World.block_lt_of_cell? _ _ x0;simp only [hY] at h_;exact h_
     have YY:=K
     have hb:=Ab d6 (.cells #[.bool false,.string ⟨#[]⟩,.string ⟨#[]⟩] 53)
     replace t0:=Kc hb t0
     replace t1:=Kc hb t1
     replace t2:=Kc hb t2
     replace t3:=Kc hb t3
     replace x0:=Kc hb x0
     replace x1:=Kc hb x1
     replace x2:=Kc hb x2
     replace CX:=jH (CX.out.Ac hb)
     replace K:=jH (K.out.next hb)
     have ZY:=jH hb
     clear hb
     have CY:=jH (show PAt Y false ⟨#[]⟩ ⟨#[]⟩ (d6.alloc (.cells #[.bool false,.string ⟨#[]⟩,.string ⟨#[]⟩] 53)) from hY ▸ PAt.new d6 false ⟨#[]⟩ ⟨#[]⟩)
     clear hHeld
     refine hK.out _ _ ?_ (λhHeld=>?_)
     ·exact ⟨t0,t1,t2,t3,x0,x1,x2⟩
     clear hK K_
     refine wpAnyH_ready (rs:=[2]) (by kernel_rfl) (by simp) ?_
     refine AllReadyH.cons (o:={ dst:=some 69,op:=.call { callee:=.value (.func 31),args:=#[.tmp 68],argTypes:=#[53] },type:=_,pos := "law.go:71", after:=_,guard:=none }) rfl (λK_ hK=>?_) AllReadyH.nil
     (try go_simp)
     go_at_call 31
     refine (KPR.out _).mono ?_
     rintro e w7 ⟨rfl,hb⟩
     replace t0:=Kc hb t0
     replace t1:=Kc hb t1
     replace t2:=Kc hb t2
     replace t3:=Kc hb t3
     replace x0:=Kc hb x0
     replace x1:=Kc hb x1
     replace x2:=Kc hb x2
     replace CX:=jH (CX.out.Ac hb)
     replace CY:=jH (CY.out.Ac hb)
     replace ZY:=jH (Aa ZY.out hb)
     replace K:=jH (K.out.next hb)
     clear hb
     go_wp2_with fail
     clear hHeld
     refine hK.out _ _ ?_ (λhHeld=>?_)
     ·exact ⟨t0,t1,t2,t3,x0,x1,x2⟩
     clear hK K_
     refine wpAnyH_ready (rs:=[3]) (by kernel_rfl) (by simp) ?_
     refine AllReadyH.cons (o:={ dst:=some 70,op:=.call { callee:=.value (.func 35),args:=#[.tmp 67,.tmp 69],argTypes:=#[31,9] },type:=_,pos := "law.go:71", after:=_,guard:=none }) rfl (λK_ hK=>?_) AllReadyH.nil
     (try go_simp)
     go_at_call 35
     refine (KPP.out _ _ K.out.table).mono ?_
     rintro e w8 ⟨rfl,hb⟩
     replace t0:=Kc hb t0
     replace t1:=Kc hb t1
     replace t2:=Kc hb t2
     replace t3:=Kc hb t3
     replace x0:=Kc hb x0
     replace x1:=Kc hb x1
     replace x2:=Kc hb x2
     replace CX:=jH (CX.out.Ac hb)
     replace CY:=jH (CY.out.Ac hb)
     replace ZY:=jH (Aa ZY.out hb)
     replace K:=jH (K.out.next hb)
     clear hb
     go_wp2_with fail
     clear hHeld
     refine hK.out _ _ ?_ (λhHeld=>?_)
     ·exact ⟨t0,t1,t2,t3,x0,x1,x2⟩
     clear hK K_
     refine Ai 4 66 (v:=?_) rfl rfl (by kernel_rfl) (by kernel_rfl) (by kernel_rfl) (λ_ _ _ h=>h) (Or.inl ⟨by rfl,?_⟩) (by assumption) ?_
     rotate_left
     ·intro w hSw
      (try dsimp only at hSw)
      go_simp
      first | done | with_reducible rfl
     simp only [Act.put,List.setIfInBounds_toArray,List.set_cons_zero,List.set_cons_succ]
     refine Ai 5 71 (v:=?_) rfl rfl (by kernel_rfl) (by kernel_rfl) (by kernel_rfl) (λ_ _ _ h=>h) (Or.inl ⟨by rfl,?_⟩) (by assumption) ?_
     rotate_left
     ·intro w hSw
      (try dsimp only at hSw)
      go_simp
      first | done | with_reducible rfl
     simp only [Act.put,List.setIfInBounds_toArray,List.set_cons_zero,List.set_cons_succ]
     refine Ai 6 72 (v:=?_) rfl rfl (by kernel_rfl) (by kernel_rfl) (by kernel_rfl) (λ_ _ _ h=>h) (Or.inl ⟨by rfl,?_⟩) (by assumption) ?_
     rotate_left
     ·intro w hSw
      (try dsimp only at hSw)
      go_simp
      first | done | with_reducible rfl
     simp only [Act.put,List.setIfInBounds_toArray,List.set_cons_zero,List.set_cons_succ]
     refine wpAnyH_ready (rs:=[8]) (by kernel_rfl) (by simp) ?_
     refine AllReadyH.cons (o:={ dst:=none,op:=.store 53 (.tmp 12) (.tmp 71),type:=_,pos := "law.go:71", after:=_,guard:=none }) rfl (λK_ hK=>?_) AllReadyH.nil
     obtain ⟨a0,a1,a2⟩:=CY.out.all
     obtain ⟨a3,a4,a5⟩:=CY.out.fr
     (try go_simp)
     go_wp2_with fail
     clear a0 a1 a2 a3 a4 a5
     replace t0:=(Ad (k:=2) (z:=.string Q) (Nat.ne_of_lt ltYS)).trans ((Ad (k:=1) (z:=.string P) (Nat.ne_of_lt ltYS)).trans ((Ad (k:=0) (z:=.bool k) (Nat.ne_of_lt ltYS)).trans (t0)))
     replace t1:=(Ad (k:=2) (z:=.string Q) (Nat.ne_of_lt ltYS)).trans ((Ad (k:=1) (z:=.string P) (Nat.ne_of_lt ltYS)).trans ((Ad (k:=0) (z:=.bool k) (Nat.ne_of_lt ltYS)).trans (t1)))
     replace t2:=(Ad (k:=2) (z:=.string Q) (Nat.ne_of_lt ltYS)).trans ((Ad (k:=1) (z:=.string P) (Nat.ne_of_lt ltYS)).trans ((Ad (k:=0) (z:=.bool k) (Nat.ne_of_lt ltYS)).trans (t2)))
     replace t3:=(Ad (k:=2) (z:=.string Q) (Nat.ne_of_lt ltYS)).trans ((Ad (k:=1) (z:=.string P) (Nat.ne_of_lt ltYS)).trans ((Ad (k:=0) (z:=.bool k) (Nat.ne_of_lt ltYS)).trans (t3)))
     replace x0:=(Ad (k:=2) (z:=.string Q) (Nat.ne_of_lt ltYX)).trans ((Ad (k:=1) (z:=.string P) (Nat.ne_of_lt ltYX)).trans ((Ad (k:=0) (z:=.bool k) (Nat.ne_of_lt ltYX)).trans (x0)))
     replace x1:=(Ad (k:=2) (z:=.string Q) (Nat.ne_of_lt ltYX)).trans ((Ad (k:=1) (z:=.string P) (Nat.ne_of_lt ltYX)).trans ((Ad (k:=0) (z:=.bool k) (Nat.ne_of_lt ltYX)).trans (x1)))
     replace x2:=(Ad (k:=2) (z:=.string Q) (Nat.ne_of_lt ltYX)).trans ((Ad (k:=1) (z:=.string P) (Nat.ne_of_lt ltYX)).trans ((Ad (k:=0) (z:=.bool k) (Nat.ne_of_lt ltYX)).trans (x2)))
     replace CX:=jH (((CX.out.other (Nat.ne_of_lt ltYX) 0 (.bool k)).other (Nat.ne_of_lt ltYX) 1 (.string P)).other (Nat.ne_of_lt ltYX) 2 (.string Q))
     replace CY:=jH (CY.out.set k P Q)
     replace ZY:=jH (((ZY.out.setCell (p:=⟨Y,0,none⟩) (show _<=Y by omega) (.bool k)).setCell (p:=⟨Y,1,none⟩) (show _<=Y by omega) (.string P)).setCell (p:=⟨Y,2,none⟩) (show _<=Y by omega) (.string Q))
     replace K:=jH (YY.out.next ZY.out)
     clear ZY
     clear hHeld
     refine hK.out _ _ ?_ (λhHeld=>?_)
     ·exact ⟨t0,t1,t2,t3,x0,x1,x2⟩
     clear hK K_
     refine Ai 9 13 (v:=?_) rfl rfl (by kernel_rfl) (by kernel_rfl) (by kernel_rfl) (λ_ _ _ h=>h) (Or.inl ⟨by rfl,?_⟩) (by assumption) ?_
     rotate_left
     ·intro w hSw
      (try dsimp only at hSw)
      go_simp
      first | done | with_reducible rfl
     simp only [Act.put,List.setIfInBounds_toArray,List.set_cons_zero,List.set_cons_succ]
     refine wpAnyH_done (by kernel_rfl) ?_ _
     go_wp2_with fail
     go_meet
     exact ⟨Y,rfl,rfl,jH ⟨K.out,CX.out,CY.out⟩⟩
   case rest =>
    obtain ⟨Y,rfl,rfl,HX⟩:=hcut
    clear t0 t1 t2 t3 x0 x1 x2 K CX
    have K:=jH HX.out.1
    have CX:=jH HX.out.2.1
    have CY:=jH HX.out.2.2
    clear HX
    obtain ⟨-,t0,t1,t2,t3⟩:=K.out.held
    obtain ⟨x0,x1,x2⟩:=CX.out.all
    obtain ⟨y0,y1,y2⟩:=CY.out.all
    go_wp2_with fail
    refine (KR.out _ _ K.out.table).mono ?_
    rintro e w6 ⟨rfl,hb⟩
    replace t0:=Kc hb t0
    replace t1:=Kc hb t1
    replace t2:=Kc hb t2
    replace t3:=Kc hb t3
    replace x0:=Kc hb x0
    replace x1:=Kc hb x1
    replace x2:=Kc hb x2
    replace y0:=Kc hb y0
    replace y1:=Kc hb y1
    replace y2:=Kc hb y2
    replace CX:=jH (CX.out.Ac hb)
    replace CY:=jH (CY.out.Ac hb)
    replace K:=jH (K.out.next hb)
    clear hb
    go_wp2
    go_ret
    exact ⟨rfl,K.out.below⟩
  ·have f1:(F != 0)=true:=by simpa using hF
   obtain ⟨rfl,rfl,rfl⟩:=KZ.out hF
   clear hF KPR KPP KR
   obtain ⟨X,hX⟩:∃ N,w5.heap.size=N:=⟨_,rfl⟩
   have ltXS:S<X:=by have h_:=World.block_lt_of_cell? _ _ t0;simp only [hX] at h_;exact h_
   have hb:=Ab w5 (.cells #[.bool false,.string ⟨#[]⟩,.string ⟨#[]⟩] 53)
   replace t0:=Kc hb t0
   replace t1:=Kc hb t1
   replace t2:=Kc hb t2
   replace t3:=Kc hb t3
   replace K:=jH (K.out.next hb)
   clear hb
   have CX:=jH (show PAt X false ⟨#[]⟩ ⟨#[]⟩ (w5.alloc (.cells #[.bool false,.string ⟨#[]⟩,.string ⟨#[]⟩] 53)) from hX ▸ PAt.new w5 false ⟨#[]⟩ ⟨#[]⟩)
   obtain ⟨x0,x1,x2⟩:=CX.out.all
   go_wp2
   go_ret
   exact ⟨rfl,K.out.below⟩
end Go.Proofs.YtpcgbgfpnhiihaaGreatDoor
