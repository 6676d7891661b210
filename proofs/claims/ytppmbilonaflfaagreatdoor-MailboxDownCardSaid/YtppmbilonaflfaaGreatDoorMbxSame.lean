import Derived.Test.YtppmbilonaflfaaGreatDoorMbxOkB
namespace Go.Proofs.YtppmbilonaflfaaGreatDoor
open Go.RowKit Utf
structure Tc (B b0 b1 b2 b3:Nat) (x y u v:ByteArray) (W:World):Prop where
 m:Mk B b0 b1 b2 b3 x y W
 c:CAt (B+2) u v W
theorem Tc.Ac {B b0 b1 b2 b3:Nat} {x y u v:ByteArray} {W W':World} (h:Tc B b0 b1 b2 b3 x y u v W) (hb:Below W.heap.size W W'):Tc B b0 b1 b2 b3 x y u v W':=⟨h.m.Ac hb,h.c.Ac hb⟩
theorem Tc.all {B b0 b1 b2 b3:Nat} {x y u v:ByteArray} {W:World} (h:Tc B b0 b1 b2 b3 x y u v W):W.cell? ⟨B,0,none⟩=some (.slice (some ⟨b0,0,none⟩) 74 74)/\W.cell? ⟨B,1,none⟩=some (.slice (some ⟨b1,0,none⟩) 10 10)/\W.cell? ⟨B,2,none⟩=some (.slice (some ⟨b2,0,none⟩) 11 11)/\W.cell? ⟨B,3,none⟩=some (.slice (some ⟨b3,0,none⟩) 42 42)/\W.cell? ⟨B+1,0,none⟩=some (.string x)/\W.cell? ⟨B+1,1,none⟩=some (.string y)/\W.cell? ⟨B+2,0,none⟩=some (.string u)/\W.cell? ⟨B+2,1,none⟩=some (.string v):=⟨h.m.t0,h.m.t1,h.m.t2,h.m.t3,h.m.m0,h.m.m1,h.c.c0,h.c.c1⟩
set_option maxHeartbeats 4000000 in
set_option maxRecDepth 100000 in
theorem Ap1 (t:Value) (x y u v:ByteArray) (w:World) (hT:Table w t) (hx:Az x) (hy:Az y) (hu:Az u) (hv:Az v) :
  Calls Tryz.prog 20 #[t,.agg #[.string x,.string y],.agg #[.string u,.string v]] w λe w'=>e=.returned (.bool (Mbx.Ul x.data.toList y.data.toList u.data.toList v.data.toList))/\Below w.heap.size w w':=by
 have hT0:=hT
 obtain ⟨b0,b1,b2,b3,rfl,-,-,-,-⟩:=hT0
 obtain ⟨B,hB⟩:∃ B,w.heap.size=B:=⟨_,rfl⟩
 obtain ⟨W0,hW0⟩:∃ W0,W0=((w.alloc (.cells #[.slice (some ⟨b0,0,none⟩) 74 74,.slice (some ⟨b1,0,none⟩) 10 10,.slice (some ⟨b2,0,none⟩) 11 11,.slice (some ⟨b3,0,none⟩) 42 42] 31)).alloc (.cells #[.string x,.string y] 23)).alloc (.cells #[.string u,.string v] 23):=⟨_,rfl⟩
 have hs2:((w.alloc (.cells #[.slice (some ⟨b0,0,none⟩) 74 74,.slice (some ⟨b1,0,none⟩) 10 10,.slice (some ⟨b2,0,none⟩) 11 11,.slice (some ⟨b3,0,none⟩) 42 42] 31)).alloc (.cells #[.string x,.string y] 23)).heap.size=B+2:=by simp [hB]
 have S0:Hid (Tc B b0 b1 b2 b3 x y u v W0):=Lib.hid ⟨by rw [hW0];exact (Mk.new hB b0 b1 b2 b3 x y).Ac (Ab _ _),by rw [hW0,<- hs2];exact CAt.new _ _ _⟩
 have B0:Hid (Below w.heap.size w W0):=Lib.hid (by rw [hW0];exact (Bh w (.cells #[.slice (some ⟨b0,0,none⟩) 74 74,.slice (some ⟨b1,0,none⟩) 10 10,.slice (some ⟨b2,0,none⟩) 11 11,.slice (some ⟨b3,0,none⟩) 42 42] 31) (.cells #[.string x,.string y] 23)).trans ((Ab _ _).mono (by simp;omega)))
 have HW0:=Lib.hid hW0.symm
 clear hs2 hW0
 have R1:=λW (h:Below w.heap.size w W)=>Lg _ x y W (hT.below h) hx.1 hy
 have R2:=λW (h:Below w.heap.size w W)=>Lg _ u v W (hT.below h) hu.1 hv
 have K1:=Lib.hid (λW (h:Below w.heap.size w W)=>Ph _ x y W (hT.below h) hx hy)
 have K2:=Lib.hid (λW (h:Below w.heap.size w W)=>Ph _ u v W (hT.below h) hu hv)
 obtain ⟨z,hz⟩:∃ z,z=Mbx.Ul x.data.toList y.data.toList u.data.toList v.data.toList:=⟨_,rfl⟩
 rw [<- hz]
 unfold Mbx.Ul at hz
 generalize Mbx.Bo x.data.toList y.data.toList=F at R1 hz
 generalize Mbx.Bo u.data.toList v.data.toList=G at R2 hz
 generalize Mbx.Ek x.data.toList=nx at K1 hz
 generalize Mbx.Ek u.data.toList=nu at K2 hz
 generalize Mbx.Fl y.data.toList=dy at K1 hz
 generalize Mbx.Fl v.data.toList=dv at K2 hz
 have R1:=Lib.hid R1
 have R2:=Lib.hid R2
 clear hT hx hy hu hv
 have s0:=S0.out.all
 obtain ⟨d0,d1,d2,d3,m0,m1,c0,c1⟩:=s0
 by_cases hF:F=0
 case neg =>
  have e0:(F == 0)=false:=by simpa using hF
  have E:=Lib.hid (show z=false by rw [hz,e0];rfl)
  clear hF hz
  go_enter Tryz.func20,Tryz.ntmps20
  go_wp2
  rw [HW0.out]
  refine wp_region_held_drew (S:=(λw':World=>w'.cell? ⟨B,0,none⟩=some (.slice (some ⟨b0,0,none⟩) 74 74)/\w'.cell? ⟨B,1,none⟩=some (.slice (some ⟨b1,0,none⟩) 10 10)/\w'.cell? ⟨B,2,none⟩=some (.slice (some ⟨b2,0,none⟩) 11 11)/\w'.cell? ⟨B,3,none⟩=some (.slice (some ⟨b3,0,none⟩) 42 42)/\w'.cell? ⟨B+1,0,none⟩=some (.string x)/\w'.cell? ⟨B+1,1,none⟩=some (.string y)/\w'.cell? ⟨B+2,0,none⟩=some (.string u)/\w'.cell? ⟨B+2,1,none⟩=some (.string v))) (by kernel_rfl) ?_ (λhHeld=>?_)
  ·(try dsimp only)
   exact ⟨d0,d1,d2,d3,m0,m1,c0,c1⟩
  refine Ad 0 7 (v:=?_) rfl rfl (by kernel_rfl) (by kernel_rfl) (by kernel_rfl) (λ_ _ _ h=>h) (Or.inl ⟨by rfl,?_⟩) (by assumption) ?_
  rotate_left
  ·intro w hSw
   (try dsimp only at hSw)
   go_simp
   first | done | with_reducible rfl
  simp only [Act.put,List.setIfInBounds_toArray,List.set_cons_zero,List.set_cons_succ]
  refine Ad 1 8 (v:=?_) rfl rfl (by kernel_rfl) (by kernel_rfl) (by kernel_rfl) (λ_ _ _ h=>h) (Or.inl ⟨by rfl,?_⟩) (by assumption) ?_
  rotate_left
  ·intro w hSw
   (try dsimp only at hSw)
   go_simp
   first | done | with_reducible rfl
  simp only [Act.put,List.setIfInBounds_toArray,List.set_cons_zero,List.set_cons_succ]
  refine wpAnyH_ready (rs:=[2]) (by kernel_rfl) (by simp) ?_
  refine AllReadyH.cons (o:={ dst:=some 9,op:=.call { callee:=.value (.func 16),args:=#[.tmp 7,.tmp 8],argTypes:=#[31,23] },type:=_,pos := "mailbox.go:104", after:=_,guard:=none }) rfl (λK hK=>?_) AllReadyH.nil
  (try go_simp)
  go_at_call 16
  with_reducible refine (R1.out _ B0.out.drew).mono ?_
  rintro e w1 ⟨rfl,hb⟩
  have hb:=Ai hb
  have S1:=Lib.hid (S0.out.Ac hb)
  have B1:=Lib.hid (Aa B0.out hb)
  clear hb
  go_wp2_with fail
  clear hHeld
  refine hK.out _ _ ?_ (λhHeld=>?_)
  ·exact S1.out.all
  clear hK K
  refine Ad 3 10 (v:=?_) rfl rfl (by kernel_rfl) (by kernel_rfl) (by kernel_rfl) (λ_ _ _ h=>h) (Or.inl ⟨by rfl,?_⟩) (by assumption) ?_
  rotate_left
  ·intro w hSw
   (try dsimp only at hSw)
   go_simp
   first | done | with_reducible rfl
  simp only [Act.put,List.setIfInBounds_toArray,List.set_cons_zero,List.set_cons_succ]
  refine Ad 4 11 (v:=?_) rfl rfl (by kernel_rfl) (by kernel_rfl) (by kernel_rfl) (λ_ _ _ h=>h) (Or.inl ⟨by rfl,?_⟩) (by assumption) ?_
  rotate_left
  ·intro w hSw
   (try dsimp only at hSw)
   go_simp
   first | done | with_reducible rfl
  simp only [Act.put,List.setIfInBounds_toArray,List.set_cons_zero,List.set_cons_succ]
  refine Ad 5 12 (v:=undef) rfl rfl (by kernel_rfl) (by kernel_rfl) (by kernel_rfl) (λ_ _ _ h=>h) (Or.inr ⟨by rfl,rfl⟩) (by assumption) ?_
  simp only [Act.put,List.setIfInBounds_toArray,List.set_cons_zero,List.set_cons_succ]
  refine Ad 6 13 (v:=undef) rfl rfl (by kernel_rfl) (by kernel_rfl) (by kernel_rfl) (λ_ _ _ h=>h) (Or.inr ⟨by rfl,rfl⟩) (by assumption) ?_
  simp only [Act.put,List.setIfInBounds_toArray,List.set_cons_zero,List.set_cons_succ]
  refine Ad 7 14 (v:=undef) rfl rfl (by kernel_rfl) (by kernel_rfl) (by kernel_rfl) (λ_ _ _ h=>h) (Or.inr ⟨by rfl,rfl⟩) (by assumption) ?_
  simp only [Act.put,List.setIfInBounds_toArray,List.set_cons_zero,List.set_cons_succ]
  refine Ad 8 15 (v:=undef) rfl rfl (by kernel_rfl) (by kernel_rfl) (by kernel_rfl) (λ_ _ _ h=>h) (Or.inr ⟨by rfl,rfl⟩) (by assumption) ?_
  simp only [Act.put,List.setIfInBounds_toArray,List.set_cons_zero,List.set_cons_succ]
  refine Ad 9 16 (v:=?_) rfl rfl (by kernel_rfl) (by kernel_rfl) (by kernel_rfl) (λ_ _ _ h=>h) (Or.inl ⟨by rfl,?_⟩) (by assumption) ?_
  rotate_left
  ·intro w hSw
   (try dsimp only at hSw)
   go_simp
   first | done | with_reducible rfl
  simp only [Act.put,List.setIfInBounds_toArray,List.set_cons_zero,List.set_cons_succ]
  refine Ad 10 17 (v:=?_) rfl rfl (by kernel_rfl) (by kernel_rfl) (by kernel_rfl) (λ_ _ _ h=>h) (Or.inl ⟨by rfl,?_⟩) (by assumption) ?_
  rotate_left
  ·intro w hSw
   (try dsimp only at hSw)
   go_simp
   first | done | with_reducible rfl
  simp only [Act.put,List.setIfInBounds_toArray,List.set_cons_zero,List.set_cons_succ]
  refine Ad 11 18 (v:=undef) rfl rfl (by kernel_rfl) (by kernel_rfl) (by kernel_rfl) (λ_ _ _ h=>h) (Or.inr ⟨by rfl,rfl⟩) (by assumption) ?_
  simp only [Act.put,List.setIfInBounds_toArray,List.set_cons_zero,List.set_cons_succ]
  refine Ad 12 19 (v:=undef) rfl rfl (by kernel_rfl) (by kernel_rfl) (by kernel_rfl) (λ_ _ _ h=>h) (Or.inr ⟨by rfl,rfl⟩) (by assumption) ?_
  simp only [Act.put,List.setIfInBounds_toArray,List.set_cons_zero,List.set_cons_succ]
  refine Ad 13 20 (v:=undef) rfl rfl (by kernel_rfl) (by kernel_rfl) (by kernel_rfl) (λ_ _ _ h=>h) (Or.inr ⟨by rfl,rfl⟩) (by assumption) ?_
  simp only [Act.put,List.setIfInBounds_toArray,List.set_cons_zero,List.set_cons_succ]
  refine Ad 14 21 (v:=undef) rfl rfl (by kernel_rfl) (by kernel_rfl) (by kernel_rfl) (λ_ _ _ h=>h) (Or.inr ⟨by rfl,rfl⟩) (by assumption) ?_
  simp only [Act.put,List.setIfInBounds_toArray,List.set_cons_zero,List.set_cons_succ]
  refine Ad 15 22 (v:=undef) rfl rfl (by kernel_rfl) (by kernel_rfl) (by kernel_rfl) (λ_ _ _ h=>h) (Or.inr ⟨by rfl,rfl⟩) (by assumption) ?_
  simp only [Act.put,List.setIfInBounds_toArray,List.set_cons_zero,List.set_cons_succ]
  refine Ad 16 23 (v:=undef) rfl rfl (by kernel_rfl) (by kernel_rfl) (by kernel_rfl) (λ_ _ _ h=>h) (Or.inr ⟨by rfl,rfl⟩) (by assumption) ?_
  simp only [Act.put,List.setIfInBounds_toArray,List.set_cons_zero,List.set_cons_succ]
  refine Ad 17 24 (v:=undef) rfl rfl (by kernel_rfl) (by kernel_rfl) (by kernel_rfl) (λ_ _ _ h=>h) (Or.inr ⟨by rfl,rfl⟩) (by assumption) ?_
  simp only [Act.put,List.setIfInBounds_toArray,List.set_cons_zero,List.set_cons_succ]
  refine Ad 18 25 (v:=?_) rfl rfl (by kernel_rfl) (by kernel_rfl) (by kernel_rfl) (λ_ _ _ h=>h) (Or.inl ⟨by rfl,?_⟩) (by assumption) ?_
  rotate_left
  ·intro w hSw
   (try dsimp only at hSw)
   go_simp
   first | done | with_reducible rfl
  simp only [Act.put,List.setIfInBounds_toArray,List.set_cons_zero,List.set_cons_succ]
  refine Ad 19 6 (v:=?_) rfl rfl (by kernel_rfl) (by kernel_rfl) (by kernel_rfl) (λ_ _ _ h=>h) (Or.inl ⟨by rfl,?_⟩) (by assumption) ?_
  rotate_left
  ·intro w hSw
   (try dsimp only at hSw)
   go_simp
   first | done | with_reducible rfl
  simp only [Act.put,List.setIfInBounds_toArray,List.set_cons_zero,List.set_cons_succ]
  refine wpAnyH_done (by kernel_rfl) ?_ _
  go_wp2
  go_ret
  exact ⟨by rw [E.out];rfl,B1.out⟩
 subst hF
 by_cases hG:G=0
 case neg =>
  have e1:(G == 0)=false:=by simpa using hG
  have E:=Lib.hid (show z=false by rw [hz,e1];rfl)
  clear hG hz
  go_enter Tryz.func20,Tryz.ntmps20
  go_wp2
  rw [HW0.out]
  refine wp_region_held_drew (S:=(λw':World=>w'.cell? ⟨B,0,none⟩=some (.slice (some ⟨b0,0,none⟩) 74 74)/\w'.cell? ⟨B,1,none⟩=some (.slice (some ⟨b1,0,none⟩) 10 10)/\w'.cell? ⟨B,2,none⟩=some (.slice (some ⟨b2,0,none⟩) 11 11)/\w'.cell? ⟨B,3,none⟩=some (.slice (some ⟨b3,0,none⟩) 42 42)/\w'.cell? ⟨B+1,0,none⟩=some (.string x)/\w'.cell? ⟨B+1,1,none⟩=some (.string y)/\w'.cell? ⟨B+2,0,none⟩=some (.string u)/\w'.cell? ⟨B+2,1,none⟩=some (.string v))) (by kernel_rfl) ?_ (λhHeld=>?_)
  ·(try dsimp only)
   exact ⟨d0,d1,d2,d3,m0,m1,c0,c1⟩
  refine Ad 0 7 (v:=?_) rfl rfl (by kernel_rfl) (by kernel_rfl) (by kernel_rfl) (λ_ _ _ h=>h) (Or.inl ⟨by rfl,?_⟩) (by assumption) ?_
  rotate_left
  ·intro w hSw
   (try dsimp only at hSw)
   go_simp
   first | done | with_reducible rfl
  simp only [Act.put,List.setIfInBounds_toArray,List.set_cons_zero,List.set_cons_succ]
  refine Ad 1 8 (v:=?_) rfl rfl (by kernel_rfl) (by kernel_rfl) (by kernel_rfl) (λ_ _ _ h=>h) (Or.inl ⟨by rfl,?_⟩) (by assumption) ?_
  rotate_left
  ·intro w hSw
   (try dsimp only at hSw)
   go_simp
   first | done | with_reducible rfl
  simp only [Act.put,List.setIfInBounds_toArray,List.set_cons_zero,List.set_cons_succ]
  refine wpAnyH_ready (rs:=[2]) (by kernel_rfl) (by simp) ?_
  refine AllReadyH.cons (o:={ dst:=some 9,op:=.call { callee:=.value (.func 16),args:=#[.tmp 7,.tmp 8],argTypes:=#[31,23] },type:=_,pos := "mailbox.go:104", after:=_,guard:=none }) rfl (λK hK=>?_) AllReadyH.nil
  (try go_simp)
  go_at_call 16
  with_reducible refine (R1.out _ B0.out.drew).mono ?_
  rintro e w1 ⟨rfl,hb⟩
  have hb:=Ai hb
  have S1:=Lib.hid (S0.out.Ac hb)
  have B1:=Lib.hid (Aa B0.out hb)
  clear hb
  go_wp2_with fail
  clear hHeld
  refine hK.out _ _ ?_ (λhHeld=>?_)
  ·exact S1.out.all
  clear hK K
  refine Ad 3 10 (v:=?_) rfl rfl (by kernel_rfl) (by kernel_rfl) (by kernel_rfl) (λ_ _ _ h=>h) (Or.inl ⟨by rfl,?_⟩) (by assumption) ?_
  rotate_left
  ·intro w hSw
   (try dsimp only at hSw)
   go_simp
   first | done | with_reducible rfl
  simp only [Act.put,List.setIfInBounds_toArray,List.set_cons_zero,List.set_cons_succ]
  refine Ad 4 11 (v:=?_) rfl rfl (by kernel_rfl) (by kernel_rfl) (by kernel_rfl) (λ_ _ _ h=>h) (Or.inl ⟨by rfl,?_⟩) (by assumption) ?_
  rotate_left
  ·intro w hSw
   (try dsimp only at hSw)
   go_simp
   first | done | with_reducible rfl
  simp only [Act.put,List.setIfInBounds_toArray,List.set_cons_zero,List.set_cons_succ]
  refine Ad 5 12 (v:=?_) rfl rfl (by kernel_rfl) (by kernel_rfl) (by kernel_rfl) (λ_ _ _ h=>h) (Or.inl ⟨by rfl,?_⟩) (by assumption) ?_
  rotate_left
  ·intro w hSw
   (try dsimp only at hSw)
   go_simp
   first | done | with_reducible rfl
  simp only [Act.put,List.setIfInBounds_toArray,List.set_cons_zero,List.set_cons_succ]
  refine Ad 6 13 (v:=?_) rfl rfl (by kernel_rfl) (by kernel_rfl) (by kernel_rfl) (λ_ _ _ h=>h) (Or.inl ⟨by rfl,?_⟩) (by assumption) ?_
  rotate_left
  ·intro w hSw
   (try dsimp only at hSw)
   go_simp
   first | done | with_reducible rfl
  simp only [Act.put,List.setIfInBounds_toArray,List.set_cons_zero,List.set_cons_succ]
  refine wpAnyH_ready (rs:=[7]) (by kernel_rfl) (by simp) ?_
  refine AllReadyH.cons (o:={ dst:=some 14,op:=.call { callee:=.value (.func 16),args:=#[.tmp 12,.tmp 13],argTypes:=#[31,23] },type:=_,pos := "mailbox.go:104", after:=_,guard:=some (4,true) }) rfl (λK hK=>?_) AllReadyH.nil
  (try go_simp)
  go_at_call 16
  with_reducible refine (R2.out _ B1.out).mono ?_
  rintro e w2 ⟨rfl,hb⟩
  have S2:=Lib.hid (S1.out.Ac hb)
  have B2:=Lib.hid (Aa B1.out hb)
  clear hb
  go_wp2_with fail
  clear hHeld
  refine hK.out _ _ ?_ (λhHeld=>?_)
  ·exact S2.out.all
  clear hK K
  refine Ad 8 15 (v:=?_) rfl rfl (by kernel_rfl) (by kernel_rfl) (by kernel_rfl) (λ_ _ _ h=>h) (Or.inl ⟨by rfl,?_⟩) (by assumption) ?_
  rotate_left
  ·intro w hSw
   (try dsimp only at hSw)
   go_simp
   first | done | with_reducible rfl
  simp only [Act.put,List.setIfInBounds_toArray,List.set_cons_zero,List.set_cons_succ]
  refine Ad 9 16 (v:=?_) rfl rfl (by kernel_rfl) (by kernel_rfl) (by kernel_rfl) (λ_ _ _ h=>h) (Or.inl ⟨by rfl,?_⟩) (by assumption) ?_
  rotate_left
  ·intro w hSw
   (try dsimp only at hSw)
   go_simp
   first | done | with_reducible rfl
  simp only [Act.put,List.setIfInBounds_toArray,List.set_cons_zero,List.set_cons_succ]
  refine Ad 10 17 (v:=?_) rfl rfl (by kernel_rfl) (by kernel_rfl) (by kernel_rfl) (λ_ _ _ h=>h) (Or.inl ⟨by rfl,?_⟩) (by assumption) ?_
  rotate_left
  ·intro w hSw
   (try dsimp only at hSw)
   go_simp
   first | done | with_reducible rfl
  simp only [Act.put,List.setIfInBounds_toArray,List.set_cons_zero,List.set_cons_succ]
  refine Ad 11 18 (v:=undef) rfl rfl (by kernel_rfl) (by kernel_rfl) (by kernel_rfl) (λ_ _ _ h=>h) (Or.inr ⟨by rfl,rfl⟩) (by assumption) ?_
  simp only [Act.put,List.setIfInBounds_toArray,List.set_cons_zero,List.set_cons_succ]
  refine Ad 12 19 (v:=undef) rfl rfl (by kernel_rfl) (by kernel_rfl) (by kernel_rfl) (λ_ _ _ h=>h) (Or.inr ⟨by rfl,rfl⟩) (by assumption) ?_
  simp only [Act.put,List.setIfInBounds_toArray,List.set_cons_zero,List.set_cons_succ]
  refine Ad 13 20 (v:=undef) rfl rfl (by kernel_rfl) (by kernel_rfl) (by kernel_rfl) (λ_ _ _ h=>h) (Or.inr ⟨by rfl,rfl⟩) (by assumption) ?_
  simp only [Act.put,List.setIfInBounds_toArray,List.set_cons_zero,List.set_cons_succ]
  refine Ad 14 21 (v:=undef) rfl rfl (by kernel_rfl) (by kernel_rfl) (by kernel_rfl) (λ_ _ _ h=>h) (Or.inr ⟨by rfl,rfl⟩) (by assumption) ?_
  simp only [Act.put,List.setIfInBounds_toArray,List.set_cons_zero,List.set_cons_succ]
  refine Ad 15 22 (v:=undef) rfl rfl (by kernel_rfl) (by kernel_rfl) (by kernel_rfl) (λ_ _ _ h=>h) (Or.inr ⟨by rfl,rfl⟩) (by assumption) ?_
  simp only [Act.put,List.setIfInBounds_toArray,List.set_cons_zero,List.set_cons_succ]
  refine Ad 16 23 (v:=undef) rfl rfl (by kernel_rfl) (by kernel_rfl) (by kernel_rfl) (λ_ _ _ h=>h) (Or.inr ⟨by rfl,rfl⟩) (by assumption) ?_
  simp only [Act.put,List.setIfInBounds_toArray,List.set_cons_zero,List.set_cons_succ]
  refine Ad 17 24 (v:=undef) rfl rfl (by kernel_rfl) (by kernel_rfl) (by kernel_rfl) (λ_ _ _ h=>h) (Or.inr ⟨by rfl,rfl⟩) (by assumption) ?_
  simp only [Act.put,List.setIfInBounds_toArray,List.set_cons_zero,List.set_cons_succ]
  refine Ad 18 25 (v:=?_) rfl rfl (by kernel_rfl) (by kernel_rfl) (by kernel_rfl) (λ_ _ _ h=>h) (Or.inl ⟨by rfl,?_⟩) (by assumption) ?_
  rotate_left
  ·intro w hSw
   (try dsimp only at hSw)
   go_simp
   first | done | with_reducible rfl
  simp only [Act.put,List.setIfInBounds_toArray,List.set_cons_zero,List.set_cons_succ]
  refine Ad 19 6 (v:=?_) rfl rfl (by kernel_rfl) (by kernel_rfl) (by kernel_rfl) (λ_ _ _ h=>h) (Or.inl ⟨by rfl,?_⟩) (by assumption) ?_
  rotate_left
  ·intro w hSw
   (try dsimp only at hSw)
   go_simp
   first | done | with_reducible rfl
  simp only [Act.put,List.setIfInBounds_toArray,List.set_cons_zero,List.set_cons_succ]
  refine wpAnyH_done (by kernel_rfl) ?_ _
  go_wp2
  go_ret
  exact ⟨by rw [E.out];rfl,B2.out⟩
 subst hG
 have q1:((⟨nx.toArray⟩:ByteArray).toList == (⟨nu.toArray⟩:ByteArray).toList)=(nx == nu):=by rw [ByteArray.toList_eq,ByteArray.toList_eq]
 have q2:((⟨dy.toArray⟩:ByteArray).toList == (⟨dv.toArray⟩:ByteArray).toList)=(dy == dv):=by rw [ByteArray.toList_eq,ByteArray.toList_eq]
 have E:=Lib.hid (show z=((nx == nu) && (dy == dv)) by rw [hz];rfl)
 clear hz
 cases g1:(nx == nu)<;>cases g2:(dy == dv)
 all_goals
  rw [g1] at q1 E
  rw [g2] at q2 E
  go_enter Tryz.func20,Tryz.ntmps20
  go_wp2
  rw [HW0.out]
  refine wp_region_held_drew (S:=(λw':World=>w'.cell? ⟨B,0,none⟩=some (.slice (some ⟨b0,0,none⟩) 74 74)/\w'.cell? ⟨B,1,none⟩=some (.slice (some ⟨b1,0,none⟩) 10 10)/\w'.cell? ⟨B,2,none⟩=some (.slice (some ⟨b2,0,none⟩) 11 11)/\w'.cell? ⟨B,3,none⟩=some (.slice (some ⟨b3,0,none⟩) 42 42)/\w'.cell? ⟨B+1,0,none⟩=some (.string x)/\w'.cell? ⟨B+1,1,none⟩=some (.string y)/\w'.cell? ⟨B+2,0,none⟩=some (.string u)/\w'.cell? ⟨B+2,1,none⟩=some (.string v))) (by kernel_rfl) ?_ (λhHeld=>?_)
  ·(try dsimp only)
   exact ⟨d0,d1,d2,d3,m0,m1,c0,c1⟩
  refine Ad 0 7 (v:=?_) rfl rfl (by kernel_rfl) (by kernel_rfl) (by kernel_rfl) (λ_ _ _ h=>h) (Or.inl ⟨by rfl,?_⟩) (by assumption) ?_
  rotate_left
  ·intro w hSw
   (try dsimp only at hSw)
   go_simp
   first | done | with_reducible rfl
  simp only [Act.put,List.setIfInBounds_toArray,List.set_cons_zero,List.set_cons_succ]
  refine Ad 1 8 (v:=?_) rfl rfl (by kernel_rfl) (by kernel_rfl) (by kernel_rfl) (λ_ _ _ h=>h) (Or.inl ⟨by rfl,?_⟩) (by assumption) ?_
  rotate_left
  ·intro w hSw
   (try dsimp only at hSw)
   go_simp
   first | done | with_reducible rfl
  simp only [Act.put,List.setIfInBounds_toArray,List.set_cons_zero,List.set_cons_succ]
  refine wpAnyH_ready (rs:=[2]) (by kernel_rfl) (by simp) ?_
  refine AllReadyH.cons (o:={ dst:=some 9,op:=.call { callee:=.value (.func 16),args:=#[.tmp 7,.tmp 8],argTypes:=#[31,23] },type:=_,pos := "mailbox.go:104", after:=_,guard:=none }) rfl (λK hK=>?_) AllReadyH.nil
  (try go_simp)
  go_at_call 16
  with_reducible refine (R1.out _ B0.out.drew).mono ?_
  rintro e w1 ⟨rfl,hb⟩
  have hb:=Ai hb
  have S1:=Lib.hid (S0.out.Ac hb)
  have B1:=Lib.hid (Aa B0.out hb)
  clear hb
  go_wp2_with fail
  clear hHeld
  refine hK.out _ _ ?_ (λhHeld=>?_)
  ·exact S1.out.all
  clear hK K
  refine Ad 3 10 (v:=?_) rfl rfl (by kernel_rfl) (by kernel_rfl) (by kernel_rfl) (λ_ _ _ h=>h) (Or.inl ⟨by rfl,?_⟩) (by assumption) ?_
  rotate_left
  ·intro w hSw
   (try dsimp only at hSw)
   go_simp
   first | done | with_reducible rfl
  simp only [Act.put,List.setIfInBounds_toArray,List.set_cons_zero,List.set_cons_succ]
  refine Ad 4 11 (v:=?_) rfl rfl (by kernel_rfl) (by kernel_rfl) (by kernel_rfl) (λ_ _ _ h=>h) (Or.inl ⟨by rfl,?_⟩) (by assumption) ?_
  rotate_left
  ·intro w hSw
   (try dsimp only at hSw)
   go_simp
   first | done | with_reducible rfl
  simp only [Act.put,List.setIfInBounds_toArray,List.set_cons_zero,List.set_cons_succ]
  refine Ad 5 12 (v:=?_) rfl rfl (by kernel_rfl) (by kernel_rfl) (by kernel_rfl) (λ_ _ _ h=>h) (Or.inl ⟨by rfl,?_⟩) (by assumption) ?_
  rotate_left
  ·intro w hSw
   (try dsimp only at hSw)
   go_simp
   first | done | with_reducible rfl
  simp only [Act.put,List.setIfInBounds_toArray,List.set_cons_zero,List.set_cons_succ]
  refine Ad 6 13 (v:=?_) rfl rfl (by kernel_rfl) (by kernel_rfl) (by kernel_rfl) (λ_ _ _ h=>h) (Or.inl ⟨by rfl,?_⟩) (by assumption) ?_
  rotate_left
  ·intro w hSw
   (try dsimp only at hSw)
   go_simp
   first | done | with_reducible rfl
  simp only [Act.put,List.setIfInBounds_toArray,List.set_cons_zero,List.set_cons_succ]
  refine wpAnyH_ready (rs:=[7]) (by kernel_rfl) (by simp) ?_
  refine AllReadyH.cons (o:={ dst:=some 14,op:=.call { callee:=.value (.func 16),args:=#[.tmp 12,.tmp 13],argTypes:=#[31,23] },type:=_,pos := "mailbox.go:104", after:=_,guard:=some (4,true) }) rfl (λK hK=>?_) AllReadyH.nil
  (try go_simp)
  go_at_call 16
  with_reducible refine (R2.out _ B1.out).mono ?_
  rintro e w2 ⟨rfl,hb⟩
  have S2:=Lib.hid (S1.out.Ac hb)
  have B2:=Lib.hid (Aa B1.out hb)
  clear hb
  go_wp2_with fail
  clear hHeld
  refine hK.out _ _ ?_ (λhHeld=>?_)
  ·exact S2.out.all
  clear hK K
  refine Ad 8 15 (v:=?_) rfl rfl (by kernel_rfl) (by kernel_rfl) (by kernel_rfl) (λ_ _ _ h=>h) (Or.inl ⟨by rfl,?_⟩) (by assumption) ?_
  rotate_left
  ·intro w hSw
   (try dsimp only at hSw)
   go_simp
   first | done | with_reducible rfl
  simp only [Act.put,List.setIfInBounds_toArray,List.set_cons_zero,List.set_cons_succ]
  refine Ad 9 16 (v:=?_) rfl rfl (by kernel_rfl) (by kernel_rfl) (by kernel_rfl) (λ_ _ _ h=>h) (Or.inl ⟨by rfl,?_⟩) (by assumption) ?_
  rotate_left
  ·intro w hSw
   (try dsimp only at hSw)
   go_simp
   first | done | with_reducible rfl
  simp only [Act.put,List.setIfInBounds_toArray,List.set_cons_zero,List.set_cons_succ]
  refine Ad 10 17 (v:=?_) rfl rfl (by kernel_rfl) (by kernel_rfl) (by kernel_rfl) (λ_ _ _ h=>h) (Or.inl ⟨by rfl,?_⟩) (by assumption) ?_
  rotate_left
  ·intro w hSw
   (try dsimp only at hSw)
   go_simp
   first | done | with_reducible rfl
  simp only [Act.put,List.setIfInBounds_toArray,List.set_cons_zero,List.set_cons_succ]
  refine Ad 11 18 (v:=?_) rfl rfl (by kernel_rfl) (by kernel_rfl) (by kernel_rfl) (λ_ _ _ h=>h) (Or.inl ⟨by rfl,?_⟩) (by assumption) ?_
  rotate_left
  ·intro w hSw
   (try dsimp only at hSw)
   go_simp
   first | done | with_reducible rfl
  simp only [Act.put,List.setIfInBounds_toArray,List.set_cons_zero,List.set_cons_succ]
  refine Ad 12 19 (v:=?_) rfl rfl (by kernel_rfl) (by kernel_rfl) (by kernel_rfl) (λ_ _ _ h=>h) (Or.inl ⟨by rfl,?_⟩) (by assumption) ?_
  rotate_left
  ·intro w hSw
   (try dsimp only at hSw)
   go_simp
   first | done | with_reducible rfl
  simp only [Act.put,List.setIfInBounds_toArray,List.set_cons_zero,List.set_cons_succ]
  refine Ad 14 21 (v:=?_) rfl rfl (by kernel_rfl) (by kernel_rfl) (by kernel_rfl) (λ_ _ _ h=>h) (Or.inl ⟨by rfl,?_⟩) (by assumption) ?_
  rotate_left
  ·intro w hSw
   (try dsimp only at hSw)
   go_simp
   first | done | with_reducible rfl
  simp only [Act.put,List.setIfInBounds_toArray,List.set_cons_zero,List.set_cons_succ]
  refine Ad 15 22 (v:=?_) rfl rfl (by kernel_rfl) (by kernel_rfl) (by kernel_rfl) (λ_ _ _ h=>h) (Or.inl ⟨by rfl,?_⟩) (by assumption) ?_
  rotate_left
  ·intro w hSw
   (try dsimp only at hSw)
   go_simp
   first | done | with_reducible rfl
  simp only [Act.put,List.setIfInBounds_toArray,List.set_cons_zero,List.set_cons_succ]
  refine wpAnyH_ready (rs:=[13]) (by kernel_rfl) (by simp) ?_
  refine AllReadyH.cons (o:={ dst:=some 20,op:=.call { callee:=.value (.func 19),args:=#[.tmp 18,.tmp 19],argTypes:=#[31,23] },type:=_,pos := "mailbox.go:104", after:=_,guard:=some (10,true) }) rfl (λK hK=>?_) AllReadyH.nil
  (try go_simp)
  go_at_call 19
  with_reducible refine (K1.out _ B2.out).mono ?_
  rintro e w3 ⟨rfl,hb⟩
  have S3:=Lib.hid (S2.out.Ac hb)
  have B3:=Lib.hid (Aa B2.out hb)
  clear hb
  go_wp2_with fail
  clear hHeld
  refine hK.out _ _ ?_ (λhHeld=>?_)
  ·exact S3.out.all
  clear hK K
  refine wpAnyH_ready (rs:=[16]) (by kernel_rfl) (by simp) ?_
  refine AllReadyH.cons (o:={ dst:=some 23,op:=.call { callee:=.value (.func 19),args:=#[.tmp 21,.tmp 22],argTypes:=#[31,23] },type:=_,pos := "mailbox.go:104", after:=_,guard:=some (10,true) }) rfl (λK hK=>?_) AllReadyH.nil
  (try go_simp)
  go_at_call 19
  with_reducible refine (K2.out _ B3.out).mono ?_
  rintro e w4 ⟨rfl,hb⟩
  have S4:=Lib.hid (S3.out.Ac hb)
  have B4:=Lib.hid (Aa B3.out hb)
  clear hb
  go_wp2_with fail
  clear hHeld
  refine hK.out _ _ ?_ (λhHeld=>?_)
  ·exact S4.out.all
  clear hK K
  refine Ad 17 24 (v:=?_) rfl rfl (by kernel_rfl) (by kernel_rfl) (by kernel_rfl) (λ_ _ _ h=>h) (Or.inl ⟨by rfl,?_⟩) (by assumption) ?_
  rotate_left
  ·intro w hSw
   (try dsimp only at hSw)
   go_simp
   first | done | with_reducible rfl
  simp only [Act.put,List.setIfInBounds_toArray,List.set_cons_zero,List.set_cons_succ]
  refine Ad 18 25 (v:=?_) rfl rfl (by kernel_rfl) (by kernel_rfl) (by kernel_rfl) (λ_ _ _ h=>h) (Or.inl ⟨by rfl,?_⟩) (by assumption) ?_
  rotate_left
  ·intro w hSw
   (try dsimp only at hSw)
   go_simp
   first | done | with_reducible rfl
  simp only [Act.put,List.setIfInBounds_toArray,List.set_cons_zero,List.set_cons_succ]
  refine Ad 19 6 (v:=?_) rfl rfl (by kernel_rfl) (by kernel_rfl) (by kernel_rfl) (λ_ _ _ h=>h) (Or.inl ⟨by rfl,?_⟩) (by assumption) ?_
  rotate_left
  ·intro w hSw
   (try dsimp only at hSw)
   go_simp
   first | done | with_reducible rfl
  simp only [Act.put,List.setIfInBounds_toArray,List.set_cons_zero,List.set_cons_succ]
  refine wpAnyH_done (by kernel_rfl) ?_ _
  go_wp2
  go_ret
  exact ⟨by rw [E.out];rfl,B4.out⟩
end Go.Proofs.YtppmbilonaflfaaGreatDoor
