import Derived.Test.YtppmbilonaflfaaGreatDoorMbxSmall
import Derived.Test.YtppmbilonaflfaaGreatDoorMbxFits
namespace Go.Proofs.YtppmbilonaflfaaGreatDoor
open Go.RowKit Utf
set_option maxHeartbeats 16000000 in
set_option maxRecDepth 100000 in
theorem Ac5 (x y:ByteArray) (w:World):Calls Tryz.prog 6 #[.agg #[.string x,.string y]] w λe w'=>e=.returned (.bool true)/\Below w.heap.size w w':=by
 by_cases hf:x.size<=150/\y.size<=200
 case neg =>
  have BB:=Lib.hid (Below.refl w.heap.size w)
  go_enter Tryz.func6,Tryz.ntmps6
  obtain ⟨B,hB⟩:∃ N,w.heap.size=N:=⟨_,rfl⟩
  have hb:=Ab w (.cells #[.string x,.string y] 23)
  replace BB:=Lib.hid (Aa BB.out hb)
  clear hb
  have CB:=Lib.hid (show CAt B x y (w.alloc (.cells #[.string x,.string y] 23)) from hB ▸ CAt.new w x y)
  have m0:=CB.out.c0
  have m1:=CB.out.c1
  go_wp2_with fail
  refine (Ar _).mono ?_
  rintro e w1 ⟨rfl,hb⟩
  replace m0:=Kc hb m0
  replace m1:=Kc hb m1
  replace CB:=Lib.hid (CB.out.Ac hb)
  replace BB:=Lib.hid (Aa BB.out hb)
  clear hb
  go_wp2_with fail
  refine (Ade x y _ hf).mono ?_
  rintro e w2 ⟨rfl,hb⟩
  replace m0:=Kc hb m0
  replace m1:=Kc hb m1
  replace CB:=Lib.hid (CB.out.Ac hb)
  replace BB:=Lib.hid (Aa BB.out hb)
  clear hb
  go_wp2
  go_ret
  exact ⟨rfl,BB.out⟩
 obtain ⟨hx,hy⟩:=hf
 have LX:=Lib.hid (D5 (s:=x) (by omega))
 have LY:=Lib.hid (D5 (s:=y) (by omega))
 have LU:=Lib.hid (Aom (x:=x) (by omega))
 have LV:=Lib.hid (An1 (y:=y) (by omega))
 obtain ⟨u,hu⟩:∃ u,Mbx.Ek x.data.toList=u:=⟨_,rfl⟩
 obtain ⟨v,hv⟩:∃ v,Mbx.Fl y.data.toList=v:=⟨_,rfl⟩
 obtain ⟨E,hE⟩:∃ E,Mbx.Bo x.data.toList y.data.toList=E:=⟨_,rfl⟩
 have hasc:E=0->Mbx.Bq y.data.toList=false->Ao v=-1:=λh hb=>by rw [<- hv];exact Mbx.Ait (by rw [hE];exact h) hb
 rw [hu] at LU
 rw [hv] at LV
 have HU:=Lib.hid hu
 have HV:=Lib.hid hv
 have HE:=Lib.hid hE
 have HUU:Hid (Mbx.Ek (⟨u.toArray⟩:ByteArray).data.toList=u):=Lib.hid (by show Mbx.Ek u=u;rw [<- hu];exact Mbx.Anp _)
 have HVV:Hid (Mbx.Fl (⟨v.toArray⟩:ByteArray).data.toList=v):=Lib.hid (by show Mbx.Fl v=v;rw [<- hv];exact Mbx.Awa _)
 have hv8:=Lab.C8 v
 have hv8:Ao v=-1\/0<=Ao v:=by rcases hv8 with ⟨-,h⟩ | ⟨-,h⟩<;>omega
 have KE:=λW=>D1 ⟨v.toArray⟩ W LV.out.1
 rw [show (⟨v.toArray⟩:ByteArray).data.toList=v from rfl] at KE
 obtain ⟨ev,hev⟩:∃ ev,Ao v=ev:=⟨_,rfl⟩
 rw [hev] at hv8 KE hasc
 have KE:=Lib.hid KE
 clear hu hv hE hev
 by_cases h0:E=0
 case neg =>
  have e0:(E != 0)=true:=by simpa using h0
  clear hasc hv8
  have BB:=Lib.hid (Below.refl w.heap.size w)
  go_enter Tryz.func6,Tryz.ntmps6
  obtain ⟨B,hB⟩:∃ N,w.heap.size=N:=⟨_,rfl⟩
  have hb:=Ab w (.cells #[.string x,.string y] 23)
  replace BB:=Lib.hid (Aa BB.out hb)
  clear hb
  have CB:=Lib.hid (show CAt B x y (w.alloc (.cells #[.string x,.string y] 23)) from hB ▸ CAt.new w x y)
  have m0:=CB.out.c0
  have m1:=CB.out.c1
  go_wp2_with fail
  refine (Ar _).mono ?_
  rintro e w1 ⟨rfl,hb⟩
  replace m0:=Kc hb m0
  replace m1:=Kc hb m1
  replace CB:=Lib.hid (CB.out.Ac hb)
  replace BB:=Lib.hid (Aa BB.out hb)
  clear hb
  go_wp2_with fail
  refine (Di x y _ hx hy).mono ?_
  rintro e w2 ⟨rfl,hb⟩
  replace m0:=Kc hb m0
  replace m1:=Kc hb m1
  replace CB:=Lib.hid (CB.out.Ac hb)
  replace BB:=Lib.hid (Aa BB.out hb)
  clear hb
  go_wp2_with fail
  refine (Dz _).mono ?_
  rintro e w3 ⟨tt,rfl,hT,hb⟩
  obtain ⟨b0,b1,b2,b3,rfl,-,-,-,-⟩:=id hT
  replace m0:=Kc hb m0
  replace m1:=Kc hb m1
  replace CB:=Lib.hid (CB.out.Ac hb)
  replace BB:=Lib.hid (Aa BB.out hb)
  have K:=Lib.hid (Cw (b0:=b0) (b1:=b1) (b2:=b2) (b3:=b3) BB.out hT 31)
  clear hT hb BB
  obtain ⟨S,hS⟩:∃ N,w3.heap.size=N:=⟨_,rfl⟩
  rw [hS] at K
  have hb:=Ab w3 (.cells #[.slice (some ⟨b0,0,none⟩) 74 74,.slice (some ⟨b1,0,none⟩) 10 10,.slice (some ⟨b2,0,none⟩) 11 11,.slice (some ⟨b3,0,none⟩) 42 42] 31)
  replace m0:=Kc hb m0
  replace m1:=Kc hb m1
  replace CB:=Lib.hid (CB.out.Ac hb)
  clear hb
  obtain ⟨-,t0,t1,t2,t3⟩:=K.out.held
  go_wp2_with fail
  refine (Dc (.agg #[.slice (some ⟨b0,0,none⟩) 74 74,.slice (some ⟨b1,0,none⟩) 10 10,.slice (some ⟨b2,0,none⟩) 11 11,.slice (some ⟨b3,0,none⟩) 42 42]) x y _ K.out.table LX.out LY.out HU.out HV.out).mono ?_
  rintro e w4 ⟨rfl,hb⟩
  replace m0:=Kc hb m0
  replace m1:=Kc hb m1
  replace t0:=Kc hb t0
  replace t1:=Kc hb t1
  replace t2:=Kc hb t2
  replace t3:=Kc hb t3
  replace CB:=Lib.hid (CB.out.Ac hb)
  replace K:=Lib.hid (K.out.next hb)
  clear hb
  obtain ⟨C,hC⟩:∃ N,w4.heap.size=N:=⟨_,rfl⟩
  have ltCB:B<C:=by have h_:=World.block_lt_of_cell? _ _ m0;simp only [hC] at h_;exact h_
  have ltCS:S<C:=by have h_:=World.block_lt_of_cell? _ _ t0;simp only [hC] at h_;exact h_
  have hb:=Ab w4 (.cells #[.string ⟨u.toArray⟩,.string ⟨v.toArray⟩] 23)
  replace m0:=Kc hb m0
  replace m1:=Kc hb m1
  replace t0:=Kc hb t0
  replace t1:=Kc hb t1
  replace t2:=Kc hb t2
  replace t3:=Kc hb t3
  replace CB:=Lib.hid (CB.out.Ac hb)
  replace K:=Lib.hid (K.out.next hb)
  clear hb
  have CC:=Lib.hid (show CAt C ⟨u.toArray⟩ ⟨v.toArray⟩ (w4.alloc (.cells #[.string ⟨u.toArray⟩,.string ⟨v.toArray⟩] 23)) from hC ▸ CAt.new w4 ⟨u.toArray⟩ ⟨v.toArray⟩)
  have c0:=CC.out.c0
  have c1:=CC.out.c1
  go_wp2
  replace m0:(World.drew (w4.alloc (.cells #[.string ⟨u.toArray⟩,.string ⟨v.toArray⟩] 23))).cell? ⟨B,0,none⟩=some (.string x):=m0
  replace m1:(World.drew (w4.alloc (.cells #[.string ⟨u.toArray⟩,.string ⟨v.toArray⟩] 23))).cell? ⟨B,1,none⟩=some (.string y):=m1
  replace t0:(World.drew (w4.alloc (.cells #[.string ⟨u.toArray⟩,.string ⟨v.toArray⟩] 23))).cell? ⟨S,0,none⟩=some (.slice (some ⟨b0,0,none⟩) 74 74):=t0
  replace t1:(World.drew (w4.alloc (.cells #[.string ⟨u.toArray⟩,.string ⟨v.toArray⟩] 23))).cell? ⟨S,1,none⟩=some (.slice (some ⟨b1,0,none⟩) 10 10):=t1
  replace t2:(World.drew (w4.alloc (.cells #[.string ⟨u.toArray⟩,.string ⟨v.toArray⟩] 23))).cell? ⟨S,2,none⟩=some (.slice (some ⟨b2,0,none⟩) 11 11):=t2
  replace t3:(World.drew (w4.alloc (.cells #[.string ⟨u.toArray⟩,.string ⟨v.toArray⟩] 23))).cell? ⟨S,3,none⟩=some (.slice (some ⟨b3,0,none⟩) 42 42):=t3
  replace c0:(World.drew (w4.alloc (.cells #[.string ⟨u.toArray⟩,.string ⟨v.toArray⟩] 23))).cell? ⟨C,0,none⟩=some (.string ⟨u.toArray⟩):=c0
  replace c1:(World.drew (w4.alloc (.cells #[.string ⟨u.toArray⟩,.string ⟨v.toArray⟩] 23))).cell? ⟨C,1,none⟩=some (.string ⟨v.toArray⟩):=c1
  replace K:=Lib.hid K.out.drew
  replace CB:=Lib.hid (CB.out.Ac (Below.refl _ _).drew)
  replace CC:=Lib.hid (CC.out.Ac (Below.refl _ _).drew)
  refine wp_region_held_drew (S:=(λw':World=>w'.cell? ⟨B,0,none⟩=some (.string x)/\w'.cell? ⟨B,1,none⟩=some (.string y)/\w'.cell? ⟨S,0,none⟩=some (.slice (some ⟨b0,0,none⟩) 74 74)/\w'.cell? ⟨S,1,none⟩=some (.slice (some ⟨b1,0,none⟩) 10 10)/\w'.cell? ⟨S,2,none⟩=some (.slice (some ⟨b2,0,none⟩) 11 11)/\w'.cell? ⟨S,3,none⟩=some (.slice (some ⟨b3,0,none⟩) 42 42)/\w'.cell? ⟨C,0,none⟩=some (.string ⟨u.toArray⟩)/\w'.cell? ⟨C,1,none⟩=some (.string ⟨v.toArray⟩))) (by kernel_rfl) ?_ (λhHeld=>?_)
  ·exact ⟨m0,m1,t0,t1,t2,t3,c0,c1⟩
  generalize hwd:(World.drew (w4.alloc (.cells #[.string ⟨u.toArray⟩,.string ⟨v.toArray⟩] 23)))=d5 at m0 m1 t0 t1 t2 t3 c0 c1 CB CC K hHeld ⊢
  clear hwd
  refine Ad 0 17 (v:=?_) rfl rfl (by kernel_rfl) (by kernel_rfl) (by kernel_rfl) (λ_ _ _ h=>h) (Or.inl ⟨by rfl,?_⟩) (by assumption) ?_
  rotate_left
  ·intro w hSw
   (try dsimp only at hSw)
   go_simp
   first | done | with_reducible rfl
  simp only [Act.put,Sa,Sb,Sc]
  refine Ad 1 18 (v:=?_) rfl rfl (by kernel_rfl) (by kernel_rfl) (by kernel_rfl) (λ_ _ _ h=>h) (Or.inl ⟨by rfl,?_⟩) (by assumption) ?_
  rotate_left
  ·intro w hSw
   (try dsimp only at hSw)
   go_simp
   first | done | with_reducible rfl
  simp only [Act.put,Sa,Sb,Sc]
  refine Ad 2 19 (v:=?_) rfl rfl (by kernel_rfl) (by kernel_rfl) (by kernel_rfl) (λ_ _ _ h=>h) (Or.inl ⟨by rfl,?_⟩) (by assumption) ?_
  rotate_left
  ·intro w hSw
   (try dsimp only at hSw)
   go_simp
   first | done | with_reducible rfl
  simp only [Act.put,Sa,Sb,Sc]
  refine Ad 3 20 (v:=?_) rfl rfl (by kernel_rfl) (by kernel_rfl) (by kernel_rfl) (λ_ _ _ h=>h) (Or.inl ⟨by rfl,?_⟩) (by assumption) ?_
  rotate_left
  ·intro w hSw
   (try dsimp only at hSw)
   go_simp
   first | done | with_reducible rfl
  simp only [Act.put,Sa,Sb,Sc]
  refine Ad 5 22 (v:=?_) rfl rfl (by kernel_rfl) (by kernel_rfl) (by kernel_rfl) (λ_ _ _ h=>h) (Or.inl ⟨by rfl,?_⟩) (by assumption) ?_
  rotate_left
  ·intro w hSw
   (try dsimp only at hSw)
   go_simp
   first | done | with_reducible rfl
  simp only [Act.put,Sa,Sb,Sc]
  refine wpAnyH_ready (rs:=[4]) (by kernel_rfl) (by simp) ?_
  refine AllReadyH.cons (o:={ dst:=some 21,op:=.call { callee:=.value (.func 19),args:=#[.tmp 19,.tmp 20],argTypes:=#[31,23] },type:=_,pos := "law.go:97", after:=_,guard:=some (1,true) }) rfl (λK_ hK=>?_) AllReadyH.nil
  (try go_simp)
  go_at_call 19
  refine (Dc (.agg #[.slice (some ⟨b0,0,none⟩) 74 74,.slice (some ⟨b1,0,none⟩) 10 10,.slice (some ⟨b2,0,none⟩) 11 11,.slice (some ⟨b3,0,none⟩) 42 42]) ⟨u.toArray⟩ ⟨v.toArray⟩ _ K.out.table LU.out LV.out HUU.out HVV.out).mono ?_
  rintro e w6 ⟨rfl,hb⟩
  replace m0:=Kc hb m0
  replace m1:=Kc hb m1
  replace t0:=Kc hb t0
  replace t1:=Kc hb t1
  replace t2:=Kc hb t2
  replace t3:=Kc hb t3
  replace c0:=Kc hb c0
  replace c1:=Kc hb c1
  replace CB:=Lib.hid (CB.out.Ac hb)
  replace CC:=Lib.hid (CC.out.Ac hb)
  replace K:=Lib.hid (K.out.next hb)
  clear hb
  go_wp2_with fail
  clear hHeld
  refine hK.out _ _ ?_ (λhHeld=>?_)
  ·exact ⟨m0,m1,t0,t1,t2,t3,c0,c1⟩
  clear hK K_
  refine Ad 6 23 (v:=?_) rfl rfl (by kernel_rfl) (by kernel_rfl) (by kernel_rfl) (λ_ _ _ h=>h) (Or.inl ⟨by rfl,?_⟩) (by assumption) ?_
  rotate_left
  ·intro w hSw
   (try dsimp only at hSw)
   go_simp
   first | done | with_reducible rfl
  simp only [Act.put,Sa,Sb,Sc]
  refine Ad 7 24 (v:=?_) rfl rfl (by kernel_rfl) (by kernel_rfl) (by kernel_rfl) (λ_ _ _ h=>h) (Or.inl ⟨by rfl,?_⟩) (by assumption) ?_
  rotate_left
  ·intro w hSw
   (try dsimp only at hSw)
   go_simp
   first | done | with_reducible rfl
  simp only [Act.put,Sa,Sb,Sc]
  refine Ad 8 25 (v:=?_) rfl rfl (by kernel_rfl) (by kernel_rfl) (by kernel_rfl) (λ_ _ _ h=>h) (Or.inl ⟨by rfl,?_⟩) (by assumption) ?_
  rotate_left
  ·intro w hSw
   (try dsimp only at hSw)
   go_simp
   first | done | with_reducible rfl
  simp only [Act.put,Sa,Sb,Sc]
  refine Ad 9 26 (v:=?_) rfl rfl (by kernel_rfl) (by kernel_rfl) (by kernel_rfl) (λ_ _ _ h=>h) (Or.inl ⟨by rfl,?_⟩) (by assumption) ?_
  rotate_left
  ·intro w hSw
   (try dsimp only at hSw)
   go_simp
   first | done | with_reducible rfl
  simp only [Act.put,Sa,Sb,Sc]
  refine Ad 10 27 (v:=?_) rfl rfl (by kernel_rfl) (by kernel_rfl) (by kernel_rfl) (λ_ _ _ h=>h) (Or.inl ⟨by rfl,?_⟩) (by assumption) ?_
  rotate_left
  ·intro w hSw
   (try dsimp only at hSw)
   go_simp
   first | done | with_reducible rfl
  simp only [Act.put,Sa,Sb,Sc]
  refine wpAnyH_ready (rs:=[11]) (by kernel_rfl) (by simp) ?_
  refine AllReadyH.cons (o:={ dst:=some 28,op:=.call { callee:=.value (.func 16),args:=#[.tmp 26,.tmp 27],argTypes:=#[31,23] },type:=_,pos := "law.go:97", after:=_,guard:=some (8,true) }) rfl (λK_ hK=>?_) AllReadyH.nil
  (try go_simp)
  go_at_call 16
  refine (Cg (.agg #[.slice (some ⟨b0,0,none⟩) 74 74,.slice (some ⟨b1,0,none⟩) 10 10,.slice (some ⟨b2,0,none⟩) 11 11,.slice (some ⟨b3,0,none⟩) 42 42]) x y _ K.out.table LX.out.1 LY.out HE.out).mono ?_
  rintro e w7 ⟨rfl,hb⟩
  replace m0:=Kc hb m0
  replace m1:=Kc hb m1
  replace t0:=Kc hb t0
  replace t1:=Kc hb t1
  replace t2:=Kc hb t2
  replace t3:=Kc hb t3
  replace c0:=Kc hb c0
  replace c1:=Kc hb c1
  replace CB:=Lib.hid (CB.out.Ac hb)
  replace CC:=Lib.hid (CC.out.Ac hb)
  replace K:=Lib.hid (K.out.next hb)
  clear hb
  go_wp2_with fail
  clear hHeld
  refine hK.out _ _ ?_ (λhHeld=>?_)
  ·exact ⟨m0,m1,t0,t1,t2,t3,c0,c1⟩
  clear hK K_
  refine Ad 12 29 (v:=?_) rfl rfl (by kernel_rfl) (by kernel_rfl) (by kernel_rfl) (λ_ _ _ h=>h) (Or.inl ⟨by rfl,?_⟩) (by assumption) ?_
  rotate_left
  ·intro w hSw
   (try dsimp only at hSw)
   go_simp
   first | done | with_reducible rfl
  simp only [Act.put,Sa,Sb,Sc]
  refine Ad 13 30 (v:=?_) rfl rfl (by kernel_rfl) (by kernel_rfl) (by kernel_rfl) (λ_ _ _ h=>h) (Or.inl ⟨by rfl,?_⟩) (by assumption) ?_
  rotate_left
  ·intro w hSw
   (try dsimp only at hSw)
   go_simp
   first | done | with_reducible rfl
  simp only [Act.put,Sa,Sb,Sc]
  refine Ad 14 31 (v:=undef) rfl rfl (by kernel_rfl) (by kernel_rfl) (by kernel_rfl) (λ_ _ _ h=>h) (Or.inr ⟨by rfl,rfl⟩) (by assumption) ?_
  simp only [Act.put,Sa,Sb,Sc]
  refine Ad 15 32 (v:=undef) rfl rfl (by kernel_rfl) (by kernel_rfl) (by kernel_rfl) (λ_ _ _ h=>h) (Or.inr ⟨by rfl,rfl⟩) (by assumption) ?_
  simp only [Act.put,Sa,Sb,Sc]
  refine Ad 16 33 (v:=undef) rfl rfl (by kernel_rfl) (by kernel_rfl) (by kernel_rfl) (λ_ _ _ h=>h) (Or.inr ⟨by rfl,rfl⟩) (by assumption) ?_
  simp only [Act.put,Sa,Sb,Sc]
  refine Ad 17 34 (v:=undef) rfl rfl (by kernel_rfl) (by kernel_rfl) (by kernel_rfl) (λ_ _ _ h=>h) (Or.inr ⟨by rfl,rfl⟩) (by assumption) ?_
  simp only [Act.put,Sa,Sb,Sc]
  refine Ad 18 35 (v:=?_) rfl rfl (by kernel_rfl) (by kernel_rfl) (by kernel_rfl) (λ_ _ _ h=>h) (Or.inl ⟨by rfl,?_⟩) (by assumption) ?_
  rotate_left
  ·intro w hSw
   (try dsimp only at hSw)
   go_simp
   first | done | with_reducible rfl
  simp only [Act.put,Sa,Sb,Sc]
  refine Ad 19 36 (v:=?_) rfl rfl (by kernel_rfl) (by kernel_rfl) (by kernel_rfl) (λ_ _ _ h=>h) (Or.inl ⟨by rfl,?_⟩) (by assumption) ?_
  rotate_left
  ·intro w hSw
   (try dsimp only at hSw)
   go_simp
   first | done | with_reducible rfl
  simp only [Act.put,Sa,Sb,Sc]
  refine Ad 20 37 (v:=undef) rfl rfl (by kernel_rfl) (by kernel_rfl) (by kernel_rfl) (λ_ _ _ h=>h) (Or.inr ⟨by rfl,rfl⟩) (by assumption) ?_
  simp only [Act.put,Sa,Sb,Sc]
  refine Ad 21 38 (v:=undef) rfl rfl (by kernel_rfl) (by kernel_rfl) (by kernel_rfl) (λ_ _ _ h=>h) (Or.inr ⟨by rfl,rfl⟩) (by assumption) ?_
  simp only [Act.put,Sa,Sb,Sc]
  refine Ad 22 39 (v:=undef) rfl rfl (by kernel_rfl) (by kernel_rfl) (by kernel_rfl) (λ_ _ _ h=>h) (Or.inr ⟨by rfl,rfl⟩) (by assumption) ?_
  simp only [Act.put,Sa,Sb,Sc]
  refine Ad 23 40 (v:=undef) rfl rfl (by kernel_rfl) (by kernel_rfl) (by kernel_rfl) (λ_ _ _ h=>h) (Or.inr ⟨by rfl,rfl⟩) (by assumption) ?_
  simp only [Act.put,Sa,Sb,Sc]
  refine Ad 24 41 (v:=?_) rfl rfl (by kernel_rfl) (by kernel_rfl) (by kernel_rfl) (λ_ _ _ h=>h) (Or.inl ⟨by rfl,?_⟩) (by assumption) ?_
  rotate_left
  ·intro w hSw
   (try dsimp only at hSw)
   go_simp
   first | done | with_reducible rfl
  simp only [Act.put,Sa,Sb,Sc]
  refine Ad 25 42 (v:=?_) rfl rfl (by kernel_rfl) (by kernel_rfl) (by kernel_rfl) (λ_ _ _ h=>h) (Or.inl ⟨by rfl,?_⟩) (by assumption) ?_
  rotate_left
  ·intro w hSw
   (try dsimp only at hSw)
   go_simp
   first | done | with_reducible rfl
  simp only [Act.put,Sa,Sb,Sc]
  refine Ad 26 2 (v:=?_) rfl rfl (by kernel_rfl) (by kernel_rfl) (by kernel_rfl) (λ_ _ _ h=>h) (Or.inl ⟨by rfl,?_⟩) (by assumption) ?_
  rotate_left
  ·intro w hSw
   (try dsimp only at hSw)
   go_simp
   first | done | with_reducible rfl
  simp only [Act.put,Sa,Sb,Sc]
  refine wpAnyH_done (by kernel_rfl) ?_ _
  go_wp2
  go_ret
  exact ⟨rfl,K.out.below⟩
 subst h0
 have hasc:=hasc rfl
 by_cases h8:ev=-1
 ·subst h8
  clear hasc hv8
  have BB:=Lib.hid (Below.refl w.heap.size w)
  go_enter Tryz.func6,Tryz.ntmps6
  obtain ⟨B,hB⟩:∃ N,w.heap.size=N:=⟨_,rfl⟩
  have hb:=Ab w (.cells #[.string x,.string y] 23)
  replace BB:=Lib.hid (Aa BB.out hb)
  clear hb
  have CB:=Lib.hid (show CAt B x y (w.alloc (.cells #[.string x,.string y] 23)) from hB ▸ CAt.new w x y)
  have m0:=CB.out.c0
  have m1:=CB.out.c1
  go_wp2_with fail
  refine (Ar _).mono ?_
  rintro e w1 ⟨rfl,hb⟩
  replace m0:=Kc hb m0
  replace m1:=Kc hb m1
  replace CB:=Lib.hid (CB.out.Ac hb)
  replace BB:=Lib.hid (Aa BB.out hb)
  clear hb
  go_wp2_with fail
  refine (Di x y _ hx hy).mono ?_
  rintro e w2 ⟨rfl,hb⟩
  replace m0:=Kc hb m0
  replace m1:=Kc hb m1
  replace CB:=Lib.hid (CB.out.Ac hb)
  replace BB:=Lib.hid (Aa BB.out hb)
  clear hb
  go_wp2_with fail
  refine (Dz _).mono ?_
  rintro e w3 ⟨tt,rfl,hT,hb⟩
  obtain ⟨b0,b1,b2,b3,rfl,-,-,-,-⟩:=id hT
  replace m0:=Kc hb m0
  replace m1:=Kc hb m1
  replace CB:=Lib.hid (CB.out.Ac hb)
  replace BB:=Lib.hid (Aa BB.out hb)
  have K:=Lib.hid (Cw (b0:=b0) (b1:=b1) (b2:=b2) (b3:=b3) BB.out hT 31)
  clear hT hb BB
  obtain ⟨S,hS⟩:∃ N,w3.heap.size=N:=⟨_,rfl⟩
  rw [hS] at K
  have hb:=Ab w3 (.cells #[.slice (some ⟨b0,0,none⟩) 74 74,.slice (some ⟨b1,0,none⟩) 10 10,.slice (some ⟨b2,0,none⟩) 11 11,.slice (some ⟨b3,0,none⟩) 42 42] 31)
  replace m0:=Kc hb m0
  replace m1:=Kc hb m1
  replace CB:=Lib.hid (CB.out.Ac hb)
  clear hb
  obtain ⟨-,t0,t1,t2,t3⟩:=K.out.held
  go_wp2_with fail
  refine (Dc (.agg #[.slice (some ⟨b0,0,none⟩) 74 74,.slice (some ⟨b1,0,none⟩) 10 10,.slice (some ⟨b2,0,none⟩) 11 11,.slice (some ⟨b3,0,none⟩) 42 42]) x y _ K.out.table LX.out LY.out HU.out HV.out).mono ?_
  rintro e w4 ⟨rfl,hb⟩
  replace m0:=Kc hb m0
  replace m1:=Kc hb m1
  replace t0:=Kc hb t0
  replace t1:=Kc hb t1
  replace t2:=Kc hb t2
  replace t3:=Kc hb t3
  replace CB:=Lib.hid (CB.out.Ac hb)
  replace K:=Lib.hid (K.out.next hb)
  clear hb
  obtain ⟨C,hC⟩:∃ N,w4.heap.size=N:=⟨_,rfl⟩
  have ltCB:B<C:=by have h_:=World.block_lt_of_cell? _ _ m0;simp only [hC] at h_;exact h_
  have ltCS:S<C:=by have h_:=World.block_lt_of_cell? _ _ t0;simp only [hC] at h_;exact h_
  have hb:=Ab w4 (.cells #[.string ⟨u.toArray⟩,.string ⟨v.toArray⟩] 23)
  replace m0:=Kc hb m0
  replace m1:=Kc hb m1
  replace t0:=Kc hb t0
  replace t1:=Kc hb t1
  replace t2:=Kc hb t2
  replace t3:=Kc hb t3
  replace CB:=Lib.hid (CB.out.Ac hb)
  replace K:=Lib.hid (K.out.next hb)
  clear hb
  have CC:=Lib.hid (show CAt C ⟨u.toArray⟩ ⟨v.toArray⟩ (w4.alloc (.cells #[.string ⟨u.toArray⟩,.string ⟨v.toArray⟩] 23)) from hC ▸ CAt.new w4 ⟨u.toArray⟩ ⟨v.toArray⟩)
  have c0:=CC.out.c0
  have c1:=CC.out.c1
  go_wp2
  replace m0:(World.drew (w4.alloc (.cells #[.string ⟨u.toArray⟩,.string ⟨v.toArray⟩] 23))).cell? ⟨B,0,none⟩=some (.string x):=m0
  replace m1:(World.drew (w4.alloc (.cells #[.string ⟨u.toArray⟩,.string ⟨v.toArray⟩] 23))).cell? ⟨B,1,none⟩=some (.string y):=m1
  replace t0:(World.drew (w4.alloc (.cells #[.string ⟨u.toArray⟩,.string ⟨v.toArray⟩] 23))).cell? ⟨S,0,none⟩=some (.slice (some ⟨b0,0,none⟩) 74 74):=t0
  replace t1:(World.drew (w4.alloc (.cells #[.string ⟨u.toArray⟩,.string ⟨v.toArray⟩] 23))).cell? ⟨S,1,none⟩=some (.slice (some ⟨b1,0,none⟩) 10 10):=t1
  replace t2:(World.drew (w4.alloc (.cells #[.string ⟨u.toArray⟩,.string ⟨v.toArray⟩] 23))).cell? ⟨S,2,none⟩=some (.slice (some ⟨b2,0,none⟩) 11 11):=t2
  replace t3:(World.drew (w4.alloc (.cells #[.string ⟨u.toArray⟩,.string ⟨v.toArray⟩] 23))).cell? ⟨S,3,none⟩=some (.slice (some ⟨b3,0,none⟩) 42 42):=t3
  replace c0:(World.drew (w4.alloc (.cells #[.string ⟨u.toArray⟩,.string ⟨v.toArray⟩] 23))).cell? ⟨C,0,none⟩=some (.string ⟨u.toArray⟩):=c0
  replace c1:(World.drew (w4.alloc (.cells #[.string ⟨u.toArray⟩,.string ⟨v.toArray⟩] 23))).cell? ⟨C,1,none⟩=some (.string ⟨v.toArray⟩):=c1
  replace K:=Lib.hid K.out.drew
  replace CB:=Lib.hid (CB.out.Ac (Below.refl _ _).drew)
  replace CC:=Lib.hid (CC.out.Ac (Below.refl _ _).drew)
  refine wp_region_held_drew (S:=(λw':World=>w'.cell? ⟨B,0,none⟩=some (.string x)/\w'.cell? ⟨B,1,none⟩=some (.string y)/\w'.cell? ⟨S,0,none⟩=some (.slice (some ⟨b0,0,none⟩) 74 74)/\w'.cell? ⟨S,1,none⟩=some (.slice (some ⟨b1,0,none⟩) 10 10)/\w'.cell? ⟨S,2,none⟩=some (.slice (some ⟨b2,0,none⟩) 11 11)/\w'.cell? ⟨S,3,none⟩=some (.slice (some ⟨b3,0,none⟩) 42 42)/\w'.cell? ⟨C,0,none⟩=some (.string ⟨u.toArray⟩)/\w'.cell? ⟨C,1,none⟩=some (.string ⟨v.toArray⟩))) (by kernel_rfl) ?_ (λhHeld=>?_)
  ·exact ⟨m0,m1,t0,t1,t2,t3,c0,c1⟩
  generalize hwd:(World.drew (w4.alloc (.cells #[.string ⟨u.toArray⟩,.string ⟨v.toArray⟩] 23)))=d5 at m0 m1 t0 t1 t2 t3 c0 c1 CB CC K hHeld ⊢
  clear hwd
  refine Ad 0 17 (v:=?_) rfl rfl (by kernel_rfl) (by kernel_rfl) (by kernel_rfl) (λ_ _ _ h=>h) (Or.inl ⟨by rfl,?_⟩) (by assumption) ?_
  rotate_left
  ·intro w hSw
   (try dsimp only at hSw)
   go_simp
   first | done | with_reducible rfl
  simp only [Act.put,Sa,Sb,Sc]
  refine Ad 1 18 (v:=?_) rfl rfl (by kernel_rfl) (by kernel_rfl) (by kernel_rfl) (λ_ _ _ h=>h) (Or.inl ⟨by rfl,?_⟩) (by assumption) ?_
  rotate_left
  ·intro w hSw
   (try dsimp only at hSw)
   go_simp
   first | done | with_reducible rfl
  simp only [Act.put,Sa,Sb,Sc]
  refine Ad 2 19 (v:=?_) rfl rfl (by kernel_rfl) (by kernel_rfl) (by kernel_rfl) (λ_ _ _ h=>h) (Or.inl ⟨by rfl,?_⟩) (by assumption) ?_
  rotate_left
  ·intro w hSw
   (try dsimp only at hSw)
   go_simp
   first | done | with_reducible rfl
  simp only [Act.put,Sa,Sb,Sc]
  refine Ad 3 20 (v:=?_) rfl rfl (by kernel_rfl) (by kernel_rfl) (by kernel_rfl) (λ_ _ _ h=>h) (Or.inl ⟨by rfl,?_⟩) (by assumption) ?_
  rotate_left
  ·intro w hSw
   (try dsimp only at hSw)
   go_simp
   first | done | with_reducible rfl
  simp only [Act.put,Sa,Sb,Sc]
  refine Ad 5 22 (v:=?_) rfl rfl (by kernel_rfl) (by kernel_rfl) (by kernel_rfl) (λ_ _ _ h=>h) (Or.inl ⟨by rfl,?_⟩) (by assumption) ?_
  rotate_left
  ·intro w hSw
   (try dsimp only at hSw)
   go_simp
   first | done | with_reducible rfl
  simp only [Act.put,Sa,Sb,Sc]
  refine wpAnyH_ready (rs:=[4]) (by kernel_rfl) (by simp) ?_
  refine AllReadyH.cons (o:={ dst:=some 21,op:=.call { callee:=.value (.func 19),args:=#[.tmp 19,.tmp 20],argTypes:=#[31,23] },type:=_,pos := "law.go:97", after:=_,guard:=some (1,true) }) rfl (λK_ hK=>?_) AllReadyH.nil
  (try go_simp)
  go_at_call 19
  refine (Dc (.agg #[.slice (some ⟨b0,0,none⟩) 74 74,.slice (some ⟨b1,0,none⟩) 10 10,.slice (some ⟨b2,0,none⟩) 11 11,.slice (some ⟨b3,0,none⟩) 42 42]) ⟨u.toArray⟩ ⟨v.toArray⟩ _ K.out.table LU.out LV.out HUU.out HVV.out).mono ?_
  rintro e w6 ⟨rfl,hb⟩
  replace m0:=Kc hb m0
  replace m1:=Kc hb m1
  replace t0:=Kc hb t0
  replace t1:=Kc hb t1
  replace t2:=Kc hb t2
  replace t3:=Kc hb t3
  replace c0:=Kc hb c0
  replace c1:=Kc hb c1
  replace CB:=Lib.hid (CB.out.Ac hb)
  replace CC:=Lib.hid (CC.out.Ac hb)
  replace K:=Lib.hid (K.out.next hb)
  clear hb
  go_wp2_with fail
  clear hHeld
  refine hK.out _ _ ?_ (λhHeld=>?_)
  ·exact ⟨m0,m1,t0,t1,t2,t3,c0,c1⟩
  clear hK K_
  refine Ad 6 23 (v:=?_) rfl rfl (by kernel_rfl) (by kernel_rfl) (by kernel_rfl) (λ_ _ _ h=>h) (Or.inl ⟨by rfl,?_⟩) (by assumption) ?_
  rotate_left
  ·intro w hSw
   (try dsimp only at hSw)
   go_simp
   first | done | with_reducible rfl
  simp only [Act.put,Sa,Sb,Sc]
  refine Ad 7 24 (v:=?_) rfl rfl (by kernel_rfl) (by kernel_rfl) (by kernel_rfl) (λ_ _ _ h=>h) (Or.inl ⟨by rfl,?_⟩) (by assumption) ?_
  rotate_left
  ·intro w hSw
   (try dsimp only at hSw)
   go_simp
   first | done | with_reducible rfl
  simp only [Act.put,Sa,Sb,Sc]
  refine Ad 8 25 (v:=?_) rfl rfl (by kernel_rfl) (by kernel_rfl) (by kernel_rfl) (λ_ _ _ h=>h) (Or.inl ⟨by rfl,?_⟩) (by assumption) ?_
  rotate_left
  ·intro w hSw
   (try dsimp only at hSw)
   go_simp
   first | done | with_reducible rfl
  simp only [Act.put,Sa,Sb,Sc]
  refine Ad 9 26 (v:=?_) rfl rfl (by kernel_rfl) (by kernel_rfl) (by kernel_rfl) (λ_ _ _ h=>h) (Or.inl ⟨by rfl,?_⟩) (by assumption) ?_
  rotate_left
  ·intro w hSw
   (try dsimp only at hSw)
   go_simp
   first | done | with_reducible rfl
  simp only [Act.put,Sa,Sb,Sc]
  refine Ad 10 27 (v:=?_) rfl rfl (by kernel_rfl) (by kernel_rfl) (by kernel_rfl) (λ_ _ _ h=>h) (Or.inl ⟨by rfl,?_⟩) (by assumption) ?_
  rotate_left
  ·intro w hSw
   (try dsimp only at hSw)
   go_simp
   first | done | with_reducible rfl
  simp only [Act.put,Sa,Sb,Sc]
  refine wpAnyH_ready (rs:=[11]) (by kernel_rfl) (by simp) ?_
  refine AllReadyH.cons (o:={ dst:=some 28,op:=.call { callee:=.value (.func 16),args:=#[.tmp 26,.tmp 27],argTypes:=#[31,23] },type:=_,pos := "law.go:97", after:=_,guard:=some (8,true) }) rfl (λK_ hK=>?_) AllReadyH.nil
  (try go_simp)
  go_at_call 16
  refine (Cg (.agg #[.slice (some ⟨b0,0,none⟩) 74 74,.slice (some ⟨b1,0,none⟩) 10 10,.slice (some ⟨b2,0,none⟩) 11 11,.slice (some ⟨b3,0,none⟩) 42 42]) x y _ K.out.table LX.out.1 LY.out HE.out).mono ?_
  rintro e w7 ⟨rfl,hb⟩
  replace m0:=Kc hb m0
  replace m1:=Kc hb m1
  replace t0:=Kc hb t0
  replace t1:=Kc hb t1
  replace t2:=Kc hb t2
  replace t3:=Kc hb t3
  replace c0:=Kc hb c0
  replace c1:=Kc hb c1
  replace CB:=Lib.hid (CB.out.Ac hb)
  replace CC:=Lib.hid (CC.out.Ac hb)
  replace K:=Lib.hid (K.out.next hb)
  clear hb
  go_wp2_with fail
  clear hHeld
  refine hK.out _ _ ?_ (λhHeld=>?_)
  ·exact ⟨m0,m1,t0,t1,t2,t3,c0,c1⟩
  clear hK K_
  refine Ad 12 29 (v:=?_) rfl rfl (by kernel_rfl) (by kernel_rfl) (by kernel_rfl) (λ_ _ _ h=>h) (Or.inl ⟨by rfl,?_⟩) (by assumption) ?_
  rotate_left
  ·intro w hSw
   (try dsimp only at hSw)
   go_simp
   first | done | with_reducible rfl
  simp only [Act.put,Sa,Sb,Sc]
  refine Ad 13 30 (v:=?_) rfl rfl (by kernel_rfl) (by kernel_rfl) (by kernel_rfl) (λ_ _ _ h=>h) (Or.inl ⟨by rfl,?_⟩) (by assumption) ?_
  rotate_left
  ·intro w hSw
   (try dsimp only at hSw)
   go_simp
   first | done | with_reducible rfl
  simp only [Act.put,Sa,Sb,Sc]
  refine Ad 14 31 (v:=?_) rfl rfl (by kernel_rfl) (by kernel_rfl) (by kernel_rfl) (λ_ _ _ h=>h) (Or.inl ⟨by rfl,?_⟩) (by assumption) ?_
  rotate_left
  ·intro w hSw
   (try dsimp only at hSw)
   go_simp
   first | done | with_reducible rfl
  simp only [Act.put,Sa,Sb,Sc]
  refine Ad 15 32 (v:=?_) rfl rfl (by kernel_rfl) (by kernel_rfl) (by kernel_rfl) (λ_ _ _ h=>h) (Or.inl ⟨by rfl,?_⟩) (by assumption) ?_
  rotate_left
  ·intro w hSw
   (try dsimp only at hSw)
   go_simp
   first | done | with_reducible rfl
  simp only [Act.put,Sa,Sb,Sc]
  refine wpAnyH_ready (rs:=[16]) (by kernel_rfl) (by simp) ?_
  refine AllReadyH.cons (o:={ dst:=some 33,op:=.call { callee:=.value (.func 25),args:=#[.tmp 32],argTypes:=#[9] },type:=_,pos := "law.go:97", after:=_,guard:=some (13,false) }) rfl (λK_ hK=>?_) AllReadyH.nil
  (try go_simp)
  go_at_call 25
  refine (KE.out _).mono ?_
  rintro e w_ ⟨rfl,rfl⟩
  go_wp2_with fail
  clear hHeld
  refine hK.out _ _ ?_ (λhHeld=>?_)
  ·exact ⟨m0,m1,t0,t1,t2,t3,c0,c1⟩
  clear hK K_
  refine Ad 17 34 (v:=?_) rfl rfl (by kernel_rfl) (by kernel_rfl) (by kernel_rfl) (λ_ _ _ h=>h) (Or.inl ⟨by rfl,?_⟩) (by assumption) ?_
  rotate_left
  ·intro w hSw
   (try dsimp only at hSw)
   go_simp
   first | done | with_reducible rfl
  simp only [Act.put,Sa,Sb,Sc]
  refine Ad 18 35 (v:=?_) rfl rfl (by kernel_rfl) (by kernel_rfl) (by kernel_rfl) (λ_ _ _ h=>h) (Or.inl ⟨by rfl,?_⟩) (by assumption) ?_
  rotate_left
  ·intro w hSw
   (try dsimp only at hSw)
   go_simp
   first | done | with_reducible rfl
  simp only [Act.put,Sa,Sb,Sc]
  refine Ad 19 36 (v:=?_) rfl rfl (by kernel_rfl) (by kernel_rfl) (by kernel_rfl) (λ_ _ _ h=>h) (Or.inl ⟨by rfl,?_⟩) (by assumption) ?_
  rotate_left
  ·intro w hSw
   (try dsimp only at hSw)
   go_simp
   first | done | with_reducible rfl
  simp only [Act.put,Sa,Sb,Sc]
  refine Ad 20 37 (v:=undef) rfl rfl (by kernel_rfl) (by kernel_rfl) (by kernel_rfl) (λ_ _ _ h=>h) (Or.inr ⟨by rfl,rfl⟩) (by assumption) ?_
  simp only [Act.put,Sa,Sb,Sc]
  refine Ad 21 38 (v:=undef) rfl rfl (by kernel_rfl) (by kernel_rfl) (by kernel_rfl) (λ_ _ _ h=>h) (Or.inr ⟨by rfl,rfl⟩) (by assumption) ?_
  simp only [Act.put,Sa,Sb,Sc]
  refine Ad 22 39 (v:=undef) rfl rfl (by kernel_rfl) (by kernel_rfl) (by kernel_rfl) (λ_ _ _ h=>h) (Or.inr ⟨by rfl,rfl⟩) (by assumption) ?_
  simp only [Act.put,Sa,Sb,Sc]
  refine Ad 23 40 (v:=undef) rfl rfl (by kernel_rfl) (by kernel_rfl) (by kernel_rfl) (λ_ _ _ h=>h) (Or.inr ⟨by rfl,rfl⟩) (by assumption) ?_
  simp only [Act.put,Sa,Sb,Sc]
  refine Ad 24 41 (v:=?_) rfl rfl (by kernel_rfl) (by kernel_rfl) (by kernel_rfl) (λ_ _ _ h=>h) (Or.inl ⟨by rfl,?_⟩) (by assumption) ?_
  rotate_left
  ·intro w hSw
   (try dsimp only at hSw)
   go_simp
   first | done | with_reducible rfl
  simp only [Act.put,Sa,Sb,Sc]
  refine Ad 25 42 (v:=?_) rfl rfl (by kernel_rfl) (by kernel_rfl) (by kernel_rfl) (λ_ _ _ h=>h) (Or.inl ⟨by rfl,?_⟩) (by assumption) ?_
  rotate_left
  ·intro w hSw
   (try dsimp only at hSw)
   go_simp
   first | done | with_reducible rfl
  simp only [Act.put,Sa,Sb,Sc]
  refine Ad 26 2 (v:=?_) rfl rfl (by kernel_rfl) (by kernel_rfl) (by kernel_rfl) (λ_ _ _ h=>h) (Or.inl ⟨by rfl,?_⟩) (by assumption) ?_
  rotate_left
  ·intro w hSw
   (try dsimp only at hSw)
   go_simp
   first | done | with_reducible rfl
  simp only [Act.put,Sa,Sb,Sc]
  refine wpAnyH_done (by kernel_rfl) ?_ _
  go_wp2
  go_ret
  exact ⟨rfl,K.out.below⟩
 ·have hv0:0<=ev:=by omega
  have hd8:decide (ev<0)=false:=decide_eq_false (by omega)
  have hb:Mbx.Bq y.data.toList=true:=by
   cases h:Mbx.Bq y.data.toList with
   | true=>rfl
   | false=>exact absurd (hasc h) h8
  obtain ⟨hy0,hy1⟩:=Ao0 hb
  have hyz:(0:Int)<(y.size:Int):=by omega
  clear hasc hv8 h8 hb
  have BB:=Lib.hid (Below.refl w.heap.size w)
  go_enter Tryz.func6,Tryz.ntmps6
  obtain ⟨B,hB⟩:∃ N,w.heap.size=N:=⟨_,rfl⟩
  have hb:=Ab w (.cells #[.string x,.string y] 23)
  replace BB:=Lib.hid (Aa BB.out hb)
  clear hb
  have CB:=Lib.hid (show CAt B x y (w.alloc (.cells #[.string x,.string y] 23)) from hB ▸ CAt.new w x y)
  have m0:=CB.out.c0
  have m1:=CB.out.c1
  go_wp2_with fail
  refine (Ar _).mono ?_
  rintro e w1 ⟨rfl,hb⟩
  replace m0:=Kc hb m0
  replace m1:=Kc hb m1
  replace CB:=Lib.hid (CB.out.Ac hb)
  replace BB:=Lib.hid (Aa BB.out hb)
  clear hb
  go_wp2_with fail
  refine (Di x y _ hx hy).mono ?_
  rintro e w2 ⟨rfl,hb⟩
  replace m0:=Kc hb m0
  replace m1:=Kc hb m1
  replace CB:=Lib.hid (CB.out.Ac hb)
  replace BB:=Lib.hid (Aa BB.out hb)
  clear hb
  go_wp2_with fail
  refine (Dz _).mono ?_
  rintro e w3 ⟨tt,rfl,hT,hb⟩
  obtain ⟨b0,b1,b2,b3,rfl,-,-,-,-⟩:=id hT
  replace m0:=Kc hb m0
  replace m1:=Kc hb m1
  replace CB:=Lib.hid (CB.out.Ac hb)
  replace BB:=Lib.hid (Aa BB.out hb)
  have K:=Lib.hid (Cw (b0:=b0) (b1:=b1) (b2:=b2) (b3:=b3) BB.out hT 31)
  clear hT hb BB
  obtain ⟨S,hS⟩:∃ N,w3.heap.size=N:=⟨_,rfl⟩
  rw [hS] at K
  have hb:=Ab w3 (.cells #[.slice (some ⟨b0,0,none⟩) 74 74,.slice (some ⟨b1,0,none⟩) 10 10,.slice (some ⟨b2,0,none⟩) 11 11,.slice (some ⟨b3,0,none⟩) 42 42] 31)
  replace m0:=Kc hb m0
  replace m1:=Kc hb m1
  replace CB:=Lib.hid (CB.out.Ac hb)
  clear hb
  obtain ⟨-,t0,t1,t2,t3⟩:=K.out.held
  go_wp2_with fail
  refine (Dc (.agg #[.slice (some ⟨b0,0,none⟩) 74 74,.slice (some ⟨b1,0,none⟩) 10 10,.slice (some ⟨b2,0,none⟩) 11 11,.slice (some ⟨b3,0,none⟩) 42 42]) x y _ K.out.table LX.out LY.out HU.out HV.out).mono ?_
  rintro e w4 ⟨rfl,hb⟩
  replace m0:=Kc hb m0
  replace m1:=Kc hb m1
  replace t0:=Kc hb t0
  replace t1:=Kc hb t1
  replace t2:=Kc hb t2
  replace t3:=Kc hb t3
  replace CB:=Lib.hid (CB.out.Ac hb)
  replace K:=Lib.hid (K.out.next hb)
  clear hb
  obtain ⟨C,hC⟩:∃ N,w4.heap.size=N:=⟨_,rfl⟩
  have ltCB:B<C:=by have h_:=World.block_lt_of_cell? _ _ m0;simp only [hC] at h_;exact h_
  have ltCS:S<C:=by have h_:=World.block_lt_of_cell? _ _ t0;simp only [hC] at h_;exact h_
  have hb:=Ab w4 (.cells #[.string ⟨u.toArray⟩,.string ⟨v.toArray⟩] 23)
  replace m0:=Kc hb m0
  replace m1:=Kc hb m1
  replace t0:=Kc hb t0
  replace t1:=Kc hb t1
  replace t2:=Kc hb t2
  replace t3:=Kc hb t3
  replace CB:=Lib.hid (CB.out.Ac hb)
  replace K:=Lib.hid (K.out.next hb)
  clear hb
  have CC:=Lib.hid (show CAt C ⟨u.toArray⟩ ⟨v.toArray⟩ (w4.alloc (.cells #[.string ⟨u.toArray⟩,.string ⟨v.toArray⟩] 23)) from hC ▸ CAt.new w4 ⟨u.toArray⟩ ⟨v.toArray⟩)
  have c0:=CC.out.c0
  have c1:=CC.out.c1
  go_wp2
  replace m0:(World.drew (w4.alloc (.cells #[.string ⟨u.toArray⟩,.string ⟨v.toArray⟩] 23))).cell? ⟨B,0,none⟩=some (.string x):=m0
  replace m1:(World.drew (w4.alloc (.cells #[.string ⟨u.toArray⟩,.string ⟨v.toArray⟩] 23))).cell? ⟨B,1,none⟩=some (.string y):=m1
  replace t0:(World.drew (w4.alloc (.cells #[.string ⟨u.toArray⟩,.string ⟨v.toArray⟩] 23))).cell? ⟨S,0,none⟩=some (.slice (some ⟨b0,0,none⟩) 74 74):=t0
  replace t1:(World.drew (w4.alloc (.cells #[.string ⟨u.toArray⟩,.string ⟨v.toArray⟩] 23))).cell? ⟨S,1,none⟩=some (.slice (some ⟨b1,0,none⟩) 10 10):=t1
  replace t2:(World.drew (w4.alloc (.cells #[.string ⟨u.toArray⟩,.string ⟨v.toArray⟩] 23))).cell? ⟨S,2,none⟩=some (.slice (some ⟨b2,0,none⟩) 11 11):=t2
  replace t3:(World.drew (w4.alloc (.cells #[.string ⟨u.toArray⟩,.string ⟨v.toArray⟩] 23))).cell? ⟨S,3,none⟩=some (.slice (some ⟨b3,0,none⟩) 42 42):=t3
  replace c0:(World.drew (w4.alloc (.cells #[.string ⟨u.toArray⟩,.string ⟨v.toArray⟩] 23))).cell? ⟨C,0,none⟩=some (.string ⟨u.toArray⟩):=c0
  replace c1:(World.drew (w4.alloc (.cells #[.string ⟨u.toArray⟩,.string ⟨v.toArray⟩] 23))).cell? ⟨C,1,none⟩=some (.string ⟨v.toArray⟩):=c1
  replace K:=Lib.hid K.out.drew
  replace CB:=Lib.hid (CB.out.Ac (Below.refl _ _).drew)
  replace CC:=Lib.hid (CC.out.Ac (Below.refl _ _).drew)
  refine wp_region_held_drew (S:=(λw':World=>w'.cell? ⟨B,0,none⟩=some (.string x)/\w'.cell? ⟨B,1,none⟩=some (.string y)/\w'.cell? ⟨S,0,none⟩=some (.slice (some ⟨b0,0,none⟩) 74 74)/\w'.cell? ⟨S,1,none⟩=some (.slice (some ⟨b1,0,none⟩) 10 10)/\w'.cell? ⟨S,2,none⟩=some (.slice (some ⟨b2,0,none⟩) 11 11)/\w'.cell? ⟨S,3,none⟩=some (.slice (some ⟨b3,0,none⟩) 42 42)/\w'.cell? ⟨C,0,none⟩=some (.string ⟨u.toArray⟩)/\w'.cell? ⟨C,1,none⟩=some (.string ⟨v.toArray⟩))) (by kernel_rfl) ?_ (λhHeld=>?_)
  ·exact ⟨m0,m1,t0,t1,t2,t3,c0,c1⟩
  generalize hwd:(World.drew (w4.alloc (.cells #[.string ⟨u.toArray⟩,.string ⟨v.toArray⟩] 23)))=d5 at m0 m1 t0 t1 t2 t3 c0 c1 CB CC K hHeld ⊢
  clear hwd
  refine Ad 0 17 (v:=?_) rfl rfl (by kernel_rfl) (by kernel_rfl) (by kernel_rfl) (λ_ _ _ h=>h) (Or.inl ⟨by rfl,?_⟩) (by assumption) ?_
  rotate_left
  ·intro w hSw
   (try dsimp only at hSw)
   go_simp
   first | done | with_reducible rfl
  simp only [Act.put,Sa,Sb,Sc]
  refine Ad 1 18 (v:=?_) rfl rfl (by kernel_rfl) (by kernel_rfl) (by kernel_rfl) (λ_ _ _ h=>h) (Or.inl ⟨by rfl,?_⟩) (by assumption) ?_
  rotate_left
  ·intro w hSw
   (try dsimp only at hSw)
   go_simp
   first | done | with_reducible rfl
  simp only [Act.put,Sa,Sb,Sc]
  refine Ad 2 19 (v:=?_) rfl rfl (by kernel_rfl) (by kernel_rfl) (by kernel_rfl) (λ_ _ _ h=>h) (Or.inl ⟨by rfl,?_⟩) (by assumption) ?_
  rotate_left
  ·intro w hSw
   (try dsimp only at hSw)
   go_simp
   first | done | with_reducible rfl
  simp only [Act.put,Sa,Sb,Sc]
  refine Ad 3 20 (v:=?_) rfl rfl (by kernel_rfl) (by kernel_rfl) (by kernel_rfl) (λ_ _ _ h=>h) (Or.inl ⟨by rfl,?_⟩) (by assumption) ?_
  rotate_left
  ·intro w hSw
   (try dsimp only at hSw)
   go_simp
   first | done | with_reducible rfl
  simp only [Act.put,Sa,Sb,Sc]
  refine Ad 5 22 (v:=?_) rfl rfl (by kernel_rfl) (by kernel_rfl) (by kernel_rfl) (λ_ _ _ h=>h) (Or.inl ⟨by rfl,?_⟩) (by assumption) ?_
  rotate_left
  ·intro w hSw
   (try dsimp only at hSw)
   go_simp
   first | done | with_reducible rfl
  simp only [Act.put,Sa,Sb,Sc]
  refine wpAnyH_ready (rs:=[4]) (by kernel_rfl) (by simp) ?_
  refine AllReadyH.cons (o:={ dst:=some 21,op:=.call { callee:=.value (.func 19),args:=#[.tmp 19,.tmp 20],argTypes:=#[31,23] },type:=_,pos := "law.go:97", after:=_,guard:=some (1,true) }) rfl (λK_ hK=>?_) AllReadyH.nil
  (try go_simp)
  go_at_call 19
  refine (Dc (.agg #[.slice (some ⟨b0,0,none⟩) 74 74,.slice (some ⟨b1,0,none⟩) 10 10,.slice (some ⟨b2,0,none⟩) 11 11,.slice (some ⟨b3,0,none⟩) 42 42]) ⟨u.toArray⟩ ⟨v.toArray⟩ _ K.out.table LU.out LV.out HUU.out HVV.out).mono ?_
  rintro e w6 ⟨rfl,hb⟩
  replace m0:=Kc hb m0
  replace m1:=Kc hb m1
  replace t0:=Kc hb t0
  replace t1:=Kc hb t1
  replace t2:=Kc hb t2
  replace t3:=Kc hb t3
  replace c0:=Kc hb c0
  replace c1:=Kc hb c1
  replace CB:=Lib.hid (CB.out.Ac hb)
  replace CC:=Lib.hid (CC.out.Ac hb)
  replace K:=Lib.hid (K.out.next hb)
  clear hb
  go_wp2_with fail
  clear hHeld
  refine hK.out _ _ ?_ (λhHeld=>?_)
  ·exact ⟨m0,m1,t0,t1,t2,t3,c0,c1⟩
  clear hK K_
  refine Ad 6 23 (v:=?_) rfl rfl (by kernel_rfl) (by kernel_rfl) (by kernel_rfl) (λ_ _ _ h=>h) (Or.inl ⟨by rfl,?_⟩) (by assumption) ?_
  rotate_left
  ·intro w hSw
   (try dsimp only at hSw)
   go_simp
   first | done | with_reducible rfl
  simp only [Act.put,Sa,Sb,Sc]
  refine Ad 7 24 (v:=?_) rfl rfl (by kernel_rfl) (by kernel_rfl) (by kernel_rfl) (λ_ _ _ h=>h) (Or.inl ⟨by rfl,?_⟩) (by assumption) ?_
  rotate_left
  ·intro w hSw
   (try dsimp only at hSw)
   go_simp
   first | done | with_reducible rfl
  simp only [Act.put,Sa,Sb,Sc]
  refine Ad 8 25 (v:=?_) rfl rfl (by kernel_rfl) (by kernel_rfl) (by kernel_rfl) (λ_ _ _ h=>h) (Or.inl ⟨by rfl,?_⟩) (by assumption) ?_
  rotate_left
  ·intro w hSw
   (try dsimp only at hSw)
   go_simp
   first | done | with_reducible rfl
  simp only [Act.put,Sa,Sb,Sc]
  refine Ad 9 26 (v:=?_) rfl rfl (by kernel_rfl) (by kernel_rfl) (by kernel_rfl) (λ_ _ _ h=>h) (Or.inl ⟨by rfl,?_⟩) (by assumption) ?_
  rotate_left
  ·intro w hSw
   (try dsimp only at hSw)
   go_simp
   first | done | with_reducible rfl
  simp only [Act.put,Sa,Sb,Sc]
  refine Ad 10 27 (v:=?_) rfl rfl (by kernel_rfl) (by kernel_rfl) (by kernel_rfl) (λ_ _ _ h=>h) (Or.inl ⟨by rfl,?_⟩) (by assumption) ?_
  rotate_left
  ·intro w hSw
   (try dsimp only at hSw)
   go_simp
   first | done | with_reducible rfl
  simp only [Act.put,Sa,Sb,Sc]
  refine wpAnyH_ready (rs:=[11]) (by kernel_rfl) (by simp) ?_
  refine AllReadyH.cons (o:={ dst:=some 28,op:=.call { callee:=.value (.func 16),args:=#[.tmp 26,.tmp 27],argTypes:=#[31,23] },type:=_,pos := "law.go:97", after:=_,guard:=some (8,true) }) rfl (λK_ hK=>?_) AllReadyH.nil
  (try go_simp)
  go_at_call 16
  refine (Cg (.agg #[.slice (some ⟨b0,0,none⟩) 74 74,.slice (some ⟨b1,0,none⟩) 10 10,.slice (some ⟨b2,0,none⟩) 11 11,.slice (some ⟨b3,0,none⟩) 42 42]) x y _ K.out.table LX.out.1 LY.out HE.out).mono ?_
  rintro e w7 ⟨rfl,hb⟩
  replace m0:=Kc hb m0
  replace m1:=Kc hb m1
  replace t0:=Kc hb t0
  replace t1:=Kc hb t1
  replace t2:=Kc hb t2
  replace t3:=Kc hb t3
  replace c0:=Kc hb c0
  replace c1:=Kc hb c1
  replace CB:=Lib.hid (CB.out.Ac hb)
  replace CC:=Lib.hid (CC.out.Ac hb)
  replace K:=Lib.hid (K.out.next hb)
  clear hb
  go_wp2_with fail
  clear hHeld
  refine hK.out _ _ ?_ (λhHeld=>?_)
  ·exact ⟨m0,m1,t0,t1,t2,t3,c0,c1⟩
  clear hK K_
  refine Ad 12 29 (v:=?_) rfl rfl (by kernel_rfl) (by kernel_rfl) (by kernel_rfl) (λ_ _ _ h=>h) (Or.inl ⟨by rfl,?_⟩) (by assumption) ?_
  rotate_left
  ·intro w hSw
   (try dsimp only at hSw)
   go_simp
   first | done | with_reducible rfl
  simp only [Act.put,Sa,Sb,Sc]
  refine Ad 13 30 (v:=?_) rfl rfl (by kernel_rfl) (by kernel_rfl) (by kernel_rfl) (λ_ _ _ h=>h) (Or.inl ⟨by rfl,?_⟩) (by assumption) ?_
  rotate_left
  ·intro w hSw
   (try dsimp only at hSw)
   go_simp
   first | done | with_reducible rfl
  simp only [Act.put,Sa,Sb,Sc]
  refine Ad 14 31 (v:=?_) rfl rfl (by kernel_rfl) (by kernel_rfl) (by kernel_rfl) (λ_ _ _ h=>h) (Or.inl ⟨by rfl,?_⟩) (by assumption) ?_
  rotate_left
  ·intro w hSw
   (try dsimp only at hSw)
   go_simp
   first | done | with_reducible rfl
  simp only [Act.put,Sa,Sb,Sc]
  refine Ad 15 32 (v:=?_) rfl rfl (by kernel_rfl) (by kernel_rfl) (by kernel_rfl) (λ_ _ _ h=>h) (Or.inl ⟨by rfl,?_⟩) (by assumption) ?_
  rotate_left
  ·intro w hSw
   (try dsimp only at hSw)
   go_simp
   first | done | with_reducible rfl
  simp only [Act.put,Sa,Sb,Sc]
  refine wpAnyH_ready (rs:=[16]) (by kernel_rfl) (by simp) ?_
  refine AllReadyH.cons (o:={ dst:=some 33,op:=.call { callee:=.value (.func 25),args:=#[.tmp 32],argTypes:=#[9] },type:=_,pos := "law.go:97", after:=_,guard:=some (13,false) }) rfl (λK_ hK=>?_) AllReadyH.nil
  (try go_simp)
  go_at_call 25
  refine (KE.out _).mono ?_
  rintro e w_ ⟨rfl,rfl⟩
  go_wp2_with fail
  clear hHeld
  refine hK.out _ _ ?_ (λhHeld=>?_)
  ·exact ⟨m0,m1,t0,t1,t2,t3,c0,c1⟩
  clear hK K_
  refine Ad 17 34 (v:=?_) rfl rfl (by kernel_rfl) (by kernel_rfl) (by kernel_rfl) (λ_ _ _ h=>h) (Or.inl ⟨by rfl,?_⟩) (by assumption) ?_
  rotate_left
  ·intro w hSw
   (try dsimp only at hSw)
   go_simp
   first | done | with_reducible rfl
  simp only [Act.put,Sa,Sb,Sc]
  refine Ad 18 35 (v:=?_) rfl rfl (by kernel_rfl) (by kernel_rfl) (by kernel_rfl) (λ_ _ _ h=>h) (Or.inl ⟨by rfl,?_⟩) (by assumption) ?_
  rotate_left
  ·intro w hSw
   (try dsimp only at hSw)
   go_simp
   first | done | with_reducible rfl
  simp only [Act.put,Sa,Sb,Sc]
  refine Ad 19 36 (v:=?_) rfl rfl (by kernel_rfl) (by kernel_rfl) (by kernel_rfl) (λ_ _ _ h=>h) (Or.inl ⟨by rfl,?_⟩) (by assumption) ?_
  rotate_left
  ·intro w hSw
   (try dsimp only at hSw)
   go_simp
   first | done | with_reducible rfl
  simp only [Act.put,Sa,Sb,Sc]
  refine Ad 20 37 (v:=?_) rfl rfl (by kernel_rfl) (by kernel_rfl) (by kernel_rfl) (λ_ _ _ h=>h) (Or.inl ⟨by rfl,?_⟩) (by assumption) ?_
  rotate_left
  ·intro w hSw
   (try dsimp only at hSw)
   go_simp
   first | done | with_reducible rfl
  simp only [Act.put,Sa,Sb,Sc]
  refine Ad 21 38 (v:=?_) rfl rfl (by kernel_rfl) (by kernel_rfl) (by kernel_rfl) (λ_ _ _ h=>h) (Or.inl ⟨by rfl,?_⟩) (by assumption) ?_
  rotate_left
  ·intro w hSw
   (try dsimp only at hSw)
   go_simp
   first | done | with_reducible rfl
  simp only [Act.put,Sa,Sb,Sc]
  refine Ad 22 39 (v:=?_) rfl rfl (by kernel_rfl) (by kernel_rfl) (by kernel_rfl) (λ_ _ _ h=>h) (Or.inl ⟨by rfl,?_⟩) (by assumption) ?_
  rotate_left
  ·intro w hSw
   (try dsimp only at hSw)
   go_simp
   first | done | with_reducible rfl
  simp only [Act.put,Sa,Sb,Sc]
  refine Ad 23 40 (v:=?_) rfl rfl (by kernel_rfl) (by kernel_rfl) (by kernel_rfl) (λ_ _ _ h=>h) (Or.inl ⟨by rfl,?_⟩) (by assumption) ?_
  rotate_left
  ·intro w hSw
   (try dsimp only at hSw)
   go_simp
   first | done | with_reducible rfl
  simp only [Act.put,Sa,Sb,Sc]
  refine Ad 24 41 (v:=?_) rfl rfl (by kernel_rfl) (by kernel_rfl) (by kernel_rfl) (λ_ _ _ h=>h) (Or.inl ⟨by rfl,?_⟩) (by assumption) ?_
  rotate_left
  ·intro w hSw
   (try dsimp only at hSw)
   go_simp
   first | done | with_reducible rfl
  simp only [Act.put,Sa,Sb,Sc]
  refine Ad 25 42 (v:=?_) rfl rfl (by kernel_rfl) (by kernel_rfl) (by kernel_rfl) (λ_ _ _ h=>h) (Or.inl ⟨by rfl,?_⟩) (by assumption) ?_
  rotate_left
  ·intro w hSw
   (try dsimp only at hSw)
   go_simp
   first | done | with_reducible rfl
  simp only [Act.put,Sa,Sb,Sc]
  refine Ad 26 2 (v:=?_) rfl rfl (by kernel_rfl) (by kernel_rfl) (by kernel_rfl) (λ_ _ _ h=>h) (Or.inl ⟨by rfl,?_⟩) (by assumption) ?_
  rotate_left
  ·intro w hSw
   (try dsimp only at hSw)
   go_simp
   first | done | with_reducible rfl
  simp only [Act.put,Sa,Sb,Sc]
  refine wpAnyH_done (by kernel_rfl) ?_ _
  go_wp2
  go_ret
  exact ⟨rfl,K.out.below⟩
end Go.Proofs.YtppmbilonaflfaaGreatDoor
