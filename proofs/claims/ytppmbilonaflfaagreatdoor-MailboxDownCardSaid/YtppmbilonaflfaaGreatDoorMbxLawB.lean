import Derived.Test.YtppmbilonaflfaaGreatDoorMbxSmall
import Derived.Test.YtppmbilonaflfaaGreatDoorMbxFits
namespace Go.Proofs.YtppmbilonaflfaaGreatDoor
open Go.RowKit Utf
set_option maxHeartbeats 16000000 in
set_option maxRecDepth 100000 in
theorem Aee (x y:ByteArray) (w:World):Calls Tryz.prog 7 #[.agg #[.string x,.string y]] w λe w'=>e=.returned (.bool true)/\Below w.heap.size w w':=by
 by_cases hf:x.size<=150/\y.size<=200
 case neg =>
  have BB:=Lib.hid (Below.refl w.heap.size w)
  go_enter Tryz.func7,Tryz.ntmps7
  obtain ⟨B,hB⟩:∃ N,w.heap.size=N:=⟨_,rfl⟩
  have hb:=Ab w (.cells #[.string x,.string y] 23)
  replace BB:=Lib.hid (Aa BB.out hb)
  clear hb
  have CB:=Lib.hid (show CAt B x y (w.alloc (.cells #[.string x,.string y] 23)) from hB ▸ CAt.new w x y)
  have m0:=CB.out.c0
  have m1:=CB.out.c1
  go_wp2_with fail
  refine (Ar _).mono ?_
  rintro e w1 ⟨rfl,hb⟩
  replace m0:=Kc hb m0
  replace m1:=Kc hb m1
  replace CB:=Lib.hid (CB.out.Ac hb)
  replace BB:=Lib.hid (Aa BB.out hb)
  clear hb
  go_wp2_with fail
  refine (Ade x y _ hf).mono ?_
  rintro e w2 ⟨rfl,hb⟩
  replace m0:=Kc hb m0
  replace m1:=Kc hb m1
  replace CB:=Lib.hid (CB.out.Ac hb)
  replace BB:=Lib.hid (Aa BB.out hb)
  clear hb
  go_wp2
  go_ret
  exact ⟨rfl,BB.out⟩
 obtain ⟨hx,hy⟩:=hf
 have LX:=Lib.hid (D5 (s:=x) (by omega))
 have LY:=Lib.hid (D5 (s:=y) (by omega))
 obtain ⟨⟨E,u,v⟩,hd⟩:∃ p,Mbx.Yr x.data.toList y.data.toList=p:=⟨_,rfl⟩
 have HD:=Lib.hid hd
 rcases Mbx.Awh hd with ⟨hE,rfl,rfl⟩ | ⟨rfl,rfl,d1,d2,d3,d4,d5,d6⟩
 ·have e0:(E != 0)=true:=by simpa using hE
  clear hd hE
  have BB:=Lib.hid (Below.refl w.heap.size w)
  go_enter Tryz.func7,Tryz.ntmps7
  obtain ⟨B,hB⟩:∃ N,w.heap.size=N:=⟨_,rfl⟩
  have hb:=Ab w (.cells #[.string x,.string y] 23)
  replace BB:=Lib.hid (Aa BB.out hb)
  clear hb
  have CB:=Lib.hid (show CAt B x y (w.alloc (.cells #[.string x,.string y] 23)) from hB ▸ CAt.new w x y)
  have m0:=CB.out.c0
  have m1:=CB.out.c1
  go_wp2_with fail
  refine (Ar _).mono ?_
  rintro e w1 ⟨rfl,hb⟩
  replace m0:=Kc hb m0
  replace m1:=Kc hb m1
  replace CB:=Lib.hid (CB.out.Ac hb)
  replace BB:=Lib.hid (Aa BB.out hb)
  clear hb
  go_wp2_with fail
  refine (Di x y _ hx hy).mono ?_
  rintro e w2 ⟨rfl,hb⟩
  replace m0:=Kc hb m0
  replace m1:=Kc hb m1
  replace CB:=Lib.hid (CB.out.Ac hb)
  replace BB:=Lib.hid (Aa BB.out hb)
  clear hb
  go_wp2_with fail
  refine (Dz _).mono ?_
  rintro e w3 ⟨tt,rfl,hT,hb⟩
  obtain ⟨b0,b1,b2,b3,rfl,-,-,-,-⟩:=id hT
  replace m0:=Kc hb m0
  replace m1:=Kc hb m1
  replace CB:=Lib.hid (CB.out.Ac hb)
  replace BB:=Lib.hid (Aa BB.out hb)
  have K:=Lib.hid (Cw (b0:=b0) (b1:=b1) (b2:=b2) (b3:=b3) BB.out hT 31)
  clear hT hb BB
  obtain ⟨S,hS⟩:∃ N,w3.heap.size=N:=⟨_,rfl⟩
  rw [hS] at K
  have hb:=Ab w3 (.cells #[.slice (some ⟨b0,0,none⟩) 74 74,.slice (some ⟨b1,0,none⟩) 10 10,.slice (some ⟨b2,0,none⟩) 11 11,.slice (some ⟨b3,0,none⟩) 42 42] 31)
  replace m0:=Kc hb m0
  replace m1:=Kc hb m1
  replace CB:=Lib.hid (CB.out.Ac hb)
  clear hb
  obtain ⟨-,t0,t1,t2,t3⟩:=K.out.held
  go_wp2_with fail
  refine (Nk (.agg #[.slice (some ⟨b0,0,none⟩) 74 74,.slice (some ⟨b1,0,none⟩) 10 10,.slice (some ⟨b2,0,none⟩) 11 11,.slice (some ⟨b3,0,none⟩) 42 42]) x y _ K.out.table LX.out.1 LY.out HD.out).mono ?_
  rintro e w4 ⟨rfl,hb⟩
  replace m0:=Kc hb m0
  replace m1:=Kc hb m1
  replace t0:=Kc hb t0
  replace t1:=Kc hb t1
  replace t2:=Kc hb t2
  replace t3:=Kc hb t3
  replace CB:=Lib.hid (CB.out.Ac hb)
  replace K:=Lib.hid (K.out.next hb)
  clear hb
  obtain ⟨D,hD⟩:∃ N,w4.heap.size=N:=⟨_,rfl⟩
  have ltDB:B<D:=by have h_:=World.block_lt_of_cell? _ _ m0;simp only [hD] at h_;exact h_
  have ltDS:S<D:=by have h_:=World.block_lt_of_cell? _ _ t0;simp only [hD] at h_;exact h_
  have hb:=Ab w4 (.cells #[.string ⟨#[]⟩,.string ⟨#[]⟩] 23)
  replace m0:=Kc hb m0
  replace m1:=Kc hb m1
  replace t0:=Kc hb t0
  replace t1:=Kc hb t1
  replace t2:=Kc hb t2
  replace t3:=Kc hb t3
  replace CB:=Lib.hid (CB.out.Ac hb)
  replace K:=Lib.hid (K.out.next hb)
  clear hb
  have CD:=Lib.hid (show CAt D ⟨#[]⟩ ⟨#[]⟩ (w4.alloc (.cells #[.string ⟨#[]⟩,.string ⟨#[]⟩] 23)) from hD ▸ CAt.new w4 ⟨#[]⟩ ⟨#[]⟩)
  have e0_:=CD.out.c0
  have e1_:=CD.out.c1
  go_wp2
  go_ret
  exact ⟨rfl,K.out.below⟩
 ·have hyl:y.data.toList.length=y.size:=by simp
  have LV:=Lib.hid (Ho (l:=v) (by rcases d6 with h | h;(rw [h];omega);omega))
  obtain ⟨R,hR⟩:∃ R,Mbx.Bo x.data.toList y.data.toList=R:=⟨_,rfl⟩
  have HR:=Lib.hid hR
  obtain ⟨c,hc⟩:∃ c,Mbx.Fl y.data.toList=c:=⟨_,rfl⟩
  obtain ⟨n,hn⟩:∃ n,Mbx.Ek x.data.toList=n:=⟨_,rfl⟩
  have HS:Hid (R=0->Mbx.Ul x.data.toList (⟨v.toArray⟩:ByteArray).data.toList x.data.toList y.data.toList=true):=Lib.hid λh =>
   Mbx.Abe (d5 (by rw [hR];exact h)) (by rw [hR];exact h) rfl d4
  have HC:=Lib.hid hc
  have HN:=Lib.hid hn
  have HV:Hid (Mbx.Fl (⟨v.toArray⟩:ByteArray).data.toList=c):=Lib.hid (by rw [<- hc,<- d4])
  have KX:=λW=>D1 x W LX.out.1
  have KY:=λW=>D1 y W LY.out.1
  have KV:=λW=>D1 ⟨v.toArray⟩ W LV.out.1
  rw [d1] at KX
  rw [show (⟨v.toArray⟩:ByteArray).data.toList=v from rfl,d2] at KV
  have hye:=Lab.C8 y.data.toList
  have hye:Ao y.data.toList=-1\/0<=Ao y.data.toList:=by rcases hye with ⟨-,h⟩ | ⟨-,h⟩<;>omega
  obtain ⟨ey,hey⟩:∃ ey,Ao y.data.toList=ey:=⟨_,rfl⟩
  have hvy:ey=-1->(⟨v.toArray⟩:ByteArray)=y:=λh=>by rw [d3 (by rw [hey];exact h)]
  rw [hey] at hye KY
  have KX:=Lib.hid KX
  have KY:=Lib.hid KY
  have KV:=Lib.hid KV
  obtain ⟨V,hV⟩:∃ V:ByteArray,V=⟨v.toArray⟩:=⟨_,rfl⟩
  have KD:Hid (∀ t W,Table W t->Calls Tryz.prog 12 #[t,.agg #[.string x,.string y]] W λe w'=>e=.returned (.tuple #[.agg #[.string x,.string V],.int .i64 0])/\Below W.heap.size W w'):=Lib.hid λt W hT=>by rw [hV];exact Nk t x y W hT LX.out.1 LY.out hd
  rw [<- hV] at LV HV KV hvy HS
  clear hd d1 d2 d3 d4 d5 d6 hR hc hn hey hV HD
  by_cases hR0:R=0
  ·subst hR0
   replace HS:=Lib.hid (HS.out rfl)
   by_cases h8:ey=-1
   ·obtain rfl:y=V:=(hvy h8).symm
    subst h8
    clear hye hvy
    have BB:=Lib.hid (Below.refl w.heap.size w)
    go_enter Tryz.func7,Tryz.ntmps7
    obtain ⟨B,hB⟩:∃ N,w.heap.size=N:=⟨_,rfl⟩
    have hb:=Ab w (.cells #[.string x,.string y] 23)
    replace BB:=Lib.hid (Aa BB.out hb)
    clear hb
    have CB:=Lib.hid (show CAt B x y (w.alloc (.cells #[.string x,.string y] 23)) from hB ▸ CAt.new w x y)
    have m0:=CB.out.c0
    have m1:=CB.out.c1
    go_wp2_with fail
    refine (Ar _).mono ?_
    rintro e w1 ⟨rfl,hb⟩
    replace m0:=Kc hb m0
    replace m1:=Kc hb m1
    replace CB:=Lib.hid (CB.out.Ac hb)
    replace BB:=Lib.hid (Aa BB.out hb)
    clear hb
    go_wp2_with fail
    refine (Di x y _ hx hy).mono ?_
    rintro e w2 ⟨rfl,hb⟩
    replace m0:=Kc hb m0
    replace m1:=Kc hb m1
    replace CB:=Lib.hid (CB.out.Ac hb)
    replace BB:=Lib.hid (Aa BB.out hb)
    clear hb
    go_wp2_with fail
    refine (Dz _).mono ?_
    rintro e w3 ⟨tt,rfl,hT,hb⟩
    obtain ⟨b0,b1,b2,b3,rfl,-,-,-,-⟩:=id hT
    replace m0:=Kc hb m0
    replace m1:=Kc hb m1
    replace CB:=Lib.hid (CB.out.Ac hb)
    replace BB:=Lib.hid (Aa BB.out hb)
    have K:=Lib.hid (Cw (b0:=b0) (b1:=b1) (b2:=b2) (b3:=b3) BB.out hT 31)
    clear hT hb BB
    obtain ⟨S,hS⟩:∃ N,w3.heap.size=N:=⟨_,rfl⟩
    rw [hS] at K
    have hb:=Ab w3 (.cells #[.slice (some ⟨b0,0,none⟩) 74 74,.slice (some ⟨b1,0,none⟩) 10 10,.slice (some ⟨b2,0,none⟩) 11 11,.slice (some ⟨b3,0,none⟩) 42 42] 31)
    replace m0:=Kc hb m0
    replace m1:=Kc hb m1
    replace CB:=Lib.hid (CB.out.Ac hb)
    clear hb
    obtain ⟨-,t0,t1,t2,t3⟩:=K.out.held
    go_wp2_with fail
    refine (KD.out _ _ K.out.table).mono ?_
    rintro e w4 ⟨rfl,hb⟩
    replace m0:=Kc hb m0
    replace m1:=Kc hb m1
    replace t0:=Kc hb t0
    replace t1:=Kc hb t1
    replace t2:=Kc hb t2
    replace t3:=Kc hb t3
    replace CB:=Lib.hid (CB.out.Ac hb)
    replace K:=Lib.hid (K.out.next hb)
    clear hb
    obtain ⟨D,hD⟩:∃ N,w4.heap.size=N:=⟨_,rfl⟩
    have ltDB:B<D:=by have h_:=World.block_lt_of_cell? _ _ m0;simp only [hD] at h_;exact h_
    have ltDS:S<D:=by have h_:=World.block_lt_of_cell? _ _ t0;simp only [hD] at h_;exact h_
    have hb:=Ab w4 (.cells #[.string x,.string y] 23)
    replace m0:=Kc hb m0
    replace m1:=Kc hb m1
    replace t0:=Kc hb t0
    replace t1:=Kc hb t1
    replace t2:=Kc hb t2
    replace t3:=Kc hb t3
    replace CB:=Lib.hid (CB.out.Ac hb)
    replace K:=Lib.hid (K.out.next hb)
    clear hb
    have CD:=Lib.hid (show CAt D x y (w4.alloc (.cells #[.string x,.string y] 23)) from hD ▸ CAt.new w4 x y)
    have e0_:=CD.out.c0
    have e1_:=CD.out.c1
    go_wp2_with fail
    refine (KX.out _).mono ?_
    rintro e w_ ⟨rfl,rfl⟩
    go_wp2_with fail
    refine (KV.out _).mono ?_
    rintro e w_ ⟨rfl,rfl⟩
    go_wp2_with fail
    refine (KY.out _).mono ?_
    rintro e w_ ⟨rfl,rfl⟩
    go_wp2
    replace m0:(World.drew (w4.alloc (.cells #[.string x,.string y] 23))).cell? ⟨B,0,none⟩=some (.string x):=m0
    replace m1:(World.drew (w4.alloc (.cells #[.string x,.string y] 23))).cell? ⟨B,1,none⟩=some (.string y):=m1
    replace t0:(World.drew (w4.alloc (.cells #[.string x,.string y] 23))).cell? ⟨S,0,none⟩=some (.slice (some ⟨b0,0,none⟩) 74 74):=t0
    replace t1:(World.drew (w4.alloc (.cells #[.string x,.string y] 23))).cell? ⟨S,1,none⟩=some (.slice (some ⟨b1,0,none⟩) 10 10):=t1
    replace t2:(World.drew (w4.alloc (.cells #[.string x,.string y] 23))).cell? ⟨S,2,none⟩=some (.slice (some ⟨b2,0,none⟩) 11 11):=t2
    replace t3:(World.drew (w4.alloc (.cells #[.string x,.string y] 23))).cell? ⟨S,3,none⟩=some (.slice (some ⟨b3,0,none⟩) 42 42):=t3
    replace e0_:(World.drew (w4.alloc (.cells #[.string x,.string y] 23))).cell? ⟨D,0,none⟩=some (.string x):=e0_
    replace e1_:(World.drew (w4.alloc (.cells #[.string x,.string y] 23))).cell? ⟨D,1,none⟩=some (.string y):=e1_
    replace K:=Lib.hid K.out.drew
    replace CB:=Lib.hid (CB.out.Ac (Below.refl _ _).drew)
    replace CD:=Lib.hid (CD.out.Ac (Below.refl _ _).drew)
    refine wp_region_held_drew (S:=(λw':World=>w'.cell? ⟨B,0,none⟩=some (.string x)/\w'.cell? ⟨B,1,none⟩=some (.string y)/\w'.cell? ⟨S,0,none⟩=some (.slice (some ⟨b0,0,none⟩) 74 74)/\w'.cell? ⟨S,1,none⟩=some (.slice (some ⟨b1,0,none⟩) 10 10)/\w'.cell? ⟨S,2,none⟩=some (.slice (some ⟨b2,0,none⟩) 11 11)/\w'.cell? ⟨S,3,none⟩=some (.slice (some ⟨b3,0,none⟩) 42 42)/\w'.cell? ⟨D,0,none⟩=some (.string x)/\w'.cell? ⟨D,1,none⟩=some (.string y))) (by kernel_rfl) ?_ (λhHeld=>?_)
    ·exact ⟨m0,m1,t0,t1,t2,t3,e0_,e1_⟩
    generalize hwd:(World.drew (w4.alloc (.cells #[.string x,.string y] 23)))=d5 at m0 m1 t0 t1 t2 t3 e0_ e1_ CB CD K hHeld ⊢
    clear hwd
    refine Ad 0 59 (v:=?_) rfl rfl (by kernel_rfl) (by kernel_rfl) (by kernel_rfl) (λ_ _ _ h=>h) (Or.inl ⟨by rfl,?_⟩) (by assumption) ?_
    rotate_left
    ·intro w hSw
     (try dsimp only at hSw)
     go_simp
     first | done | with_reducible rfl
    simp only [Act.put,Sa,Sb,Sc]
    refine Ad 1 60 (v:=?_) rfl rfl (by kernel_rfl) (by kernel_rfl) (by kernel_rfl) (λ_ _ _ h=>h) (Or.inl ⟨by rfl,?_⟩) (by assumption) ?_
    rotate_left
    ·intro w hSw
     (try dsimp only at hSw)
     go_simp
     first | done | with_reducible rfl
    simp only [Act.put,Sa,Sb,Sc]
    refine Ad 2 61 (v:=?_) rfl rfl (by kernel_rfl) (by kernel_rfl) (by kernel_rfl) (λ_ _ _ h=>h) (Or.inl ⟨by rfl,?_⟩) (by assumption) ?_
    rotate_left
    ·intro w hSw
     (try dsimp only at hSw)
     go_simp
     first | done | with_reducible rfl
    simp only [Act.put,Sa,Sb,Sc]
    refine Ad 3 62 (v:=?_) rfl rfl (by kernel_rfl) (by kernel_rfl) (by kernel_rfl) (λ_ _ _ h=>h) (Or.inl ⟨by rfl,?_⟩) (by assumption) ?_
    rotate_left
    ·intro w hSw
     (try dsimp only at hSw)
     go_simp
     first | done | with_reducible rfl
    simp only [Act.put,Sa,Sb,Sc]
    refine Ad 5 64 (v:=?_) rfl rfl (by kernel_rfl) (by kernel_rfl) (by kernel_rfl) (λ_ _ _ h=>h) (Or.inl ⟨by rfl,?_⟩) (by assumption) ?_
    rotate_left
    ·intro w hSw
     (try dsimp only at hSw)
     go_simp
     first | done | with_reducible rfl
    simp only [Act.put,Sa,Sb,Sc]
    refine Ad 6 65 (v:=?_) rfl rfl (by kernel_rfl) (by kernel_rfl) (by kernel_rfl) (λ_ _ _ h=>h) (Or.inl ⟨by rfl,?_⟩) (by assumption) ?_
    rotate_left
    ·intro w hSw
     (try dsimp only at hSw)
     go_simp
     first | done | with_reducible rfl
    simp only [Act.put,Sa,Sb,Sc]
    refine wpAnyH_ready (rs:=[4]) (by kernel_rfl) (by simp) ?_
    refine AllReadyH.cons (o:={ dst:=some 63,op:=.call { callee:=.value (.func 19),args:=#[.tmp 61,.tmp 62],argTypes:=#[31,23] },type:=_,pos := "law.go:115", after:=_,guard:=some (1,true) }) rfl (λK_ hK=>?_) AllReadyH.nil
    (try go_simp)
    go_at_call 19
    refine (Dc (.agg #[.slice (some ⟨b0,0,none⟩) 74 74,.slice (some ⟨b1,0,none⟩) 10 10,.slice (some ⟨b2,0,none⟩) 11 11,.slice (some ⟨b3,0,none⟩) 42 42]) x y _ K.out.table LX.out LV.out HN.out HV.out).mono ?_
    rintro e w6 ⟨rfl,hb⟩
    replace m0:=Kc hb m0
    replace m1:=Kc hb m1
    replace t0:=Kc hb t0
    replace t1:=Kc hb t1
    replace t2:=Kc hb t2
    replace t3:=Kc hb t3
    replace e0_:=(hb.cell (p:=⟨D,0,none⟩) (World.block_lt_of_cell? _ _ e0_)).trans e0_
    replace e1_:=(hb.cell (p:=⟨D,1,none⟩) (World.block_lt_of_cell? _ _ e1_)).trans e1_
    replace CB:=Lib.hid (CB.out.Ac hb)
    replace CD:=Lib.hid (CD.out.Ac hb)
    replace K:=Lib.hid (K.out.next hb)
    clear hb
    go_wp2_with fail
    clear hHeld
    refine hK.out _ _ ?_ (λhHeld=>?_)
    ·exact ⟨m0,m1,t0,t1,t2,t3,e0_,e1_⟩
    clear hK K_
    refine wpAnyH_ready (rs:=[7]) (by kernel_rfl) (by simp) ?_
    refine AllReadyH.cons (o:={ dst:=some 66,op:=.call { callee:=.value (.func 19),args:=#[.tmp 64,.tmp 65],argTypes:=#[31,23] },type:=_,pos := "law.go:115", after:=_,guard:=some (1,true) }) rfl (λK_ hK=>?_) AllReadyH.nil
    (try go_simp)
    go_at_call 19
    refine (Dc (.agg #[.slice (some ⟨b0,0,none⟩) 74 74,.slice (some ⟨b1,0,none⟩) 10 10,.slice (some ⟨b2,0,none⟩) 11 11,.slice (some ⟨b3,0,none⟩) 42 42]) x y _ K.out.table LX.out LY.out HN.out HC.out).mono ?_
    rintro e w7 ⟨rfl,hb⟩
    replace m0:=Kc hb m0
    replace m1:=Kc hb m1
    replace t0:=Kc hb t0
    replace t1:=Kc hb t1
    replace t2:=Kc hb t2
    replace t3:=Kc hb t3
    replace e0_:=(hb.cell (p:=⟨D,0,none⟩) (World.block_lt_of_cell? _ _ e0_)).trans e0_
    replace e1_:=(hb.cell (p:=⟨D,1,none⟩) (World.block_lt_of_cell? _ _ e1_)).trans e1_
    replace CB:=Lib.hid (CB.out.Ac hb)
    replace CD:=Lib.hid (CD.out.Ac hb)
    replace K:=Lib.hid (K.out.next hb)
    clear hb
    go_wp2_with fail
    clear hHeld
    refine hK.out _ _ ?_ (λhHeld=>?_)
    ·exact ⟨m0,m1,t0,t1,t2,t3,e0_,e1_⟩
    clear hK K_
    refine Ad 8 67 (v:=?_) rfl rfl (by kernel_rfl) (by kernel_rfl) (by kernel_rfl) (λ_ _ _ h=>h) (Or.inl ⟨by rfl,?_⟩) (by assumption) ?_
    rotate_left
    ·intro w hSw
     (try dsimp only at hSw)
     go_simp
     first | done | with_reducible rfl
    simp only [Act.put,Sa,Sb,Sc]
    refine Ad 9 68 (v:=?_) rfl rfl (by kernel_rfl) (by kernel_rfl) (by kernel_rfl) (λ_ _ _ h=>h) (Or.inl ⟨by rfl,?_⟩) (by assumption) ?_
    rotate_left
    ·intro w hSw
     (try dsimp only at hSw)
     go_simp
     first | done | with_reducible rfl
    simp only [Act.put,Sa,Sb,Sc]
    refine Ad 10 69 (v:=?_) rfl rfl (by kernel_rfl) (by kernel_rfl) (by kernel_rfl) (λ_ _ _ h=>h) (Or.inl ⟨by rfl,?_⟩) (by assumption) ?_
    rotate_left
    ·intro w hSw
     (try dsimp only at hSw)
     go_simp
     first | done | with_reducible rfl
    simp only [Act.put,Sa,Sb,Sc]
    refine Ad 11 70 (v:=?_) rfl rfl (by kernel_rfl) (by kernel_rfl) (by kernel_rfl) (λ_ _ _ h=>h) (Or.inl ⟨by rfl,?_⟩) (by assumption) ?_
    rotate_left
    ·intro w hSw
     (try dsimp only at hSw)
     go_simp
     first | done | with_reducible rfl
    simp only [Act.put,Sa,Sb,Sc]
    refine Ad 12 71 (v:=?_) rfl rfl (by kernel_rfl) (by kernel_rfl) (by kernel_rfl) (λ_ _ _ h=>h) (Or.inl ⟨by rfl,?_⟩) (by assumption) ?_
    rotate_left
    ·intro w hSw
     (try dsimp only at hSw)
     go_simp
     first | done | with_reducible rfl
    simp only [Act.put,Sa,Sb,Sc]
    refine wpAnyH_ready (rs:=[13]) (by kernel_rfl) (by simp) ?_
    refine AllReadyH.cons (o:={ dst:=some 72,op:=.call { callee:=.value (.func 16),args:=#[.tmp 70,.tmp 71],argTypes:=#[31,23] },type:=_,pos := "law.go:115", after:=_,guard:=some (10,true) }) rfl (λK_ hK=>?_) AllReadyH.nil
    (try go_simp)
    go_at_call 16
    refine (Cg (.agg #[.slice (some ⟨b0,0,none⟩) 74 74,.slice (some ⟨b1,0,none⟩) 10 10,.slice (some ⟨b2,0,none⟩) 11 11,.slice (some ⟨b3,0,none⟩) 42 42]) x y _ K.out.table LX.out.1 LY.out HR.out).mono ?_
    rintro e w8 ⟨rfl,hb⟩
    replace m0:=Kc hb m0
    replace m1:=Kc hb m1
    replace t0:=Kc hb t0
    replace t1:=Kc hb t1
    replace t2:=Kc hb t2
    replace t3:=Kc hb t3
    replace e0_:=(hb.cell (p:=⟨D,0,none⟩) (World.block_lt_of_cell? _ _ e0_)).trans e0_
    replace e1_:=(hb.cell (p:=⟨D,1,none⟩) (World.block_lt_of_cell? _ _ e1_)).trans e1_
    replace CB:=Lib.hid (CB.out.Ac hb)
    replace CD:=Lib.hid (CD.out.Ac hb)
    replace K:=Lib.hid (K.out.next hb)
    clear hb
    go_wp2_with fail
    clear hHeld
    refine hK.out _ _ ?_ (λhHeld=>?_)
    ·exact ⟨m0,m1,t0,t1,t2,t3,e0_,e1_⟩
    clear hK K_
    refine Ad 14 73 (v:=?_) rfl rfl (by kernel_rfl) (by kernel_rfl) (by kernel_rfl) (λ_ _ _ h=>h) (Or.inl ⟨by rfl,?_⟩) (by assumption) ?_
    rotate_left
    ·intro w hSw
     (try dsimp only at hSw)
     go_simp
     first | done | with_reducible rfl
    simp only [Act.put,Sa,Sb,Sc]
    refine Ad 15 74 (v:=?_) rfl rfl (by kernel_rfl) (by kernel_rfl) (by kernel_rfl) (λ_ _ _ h=>h) (Or.inl ⟨by rfl,?_⟩) (by assumption) ?_
    rotate_left
    ·intro w hSw
     (try dsimp only at hSw)
     go_simp
     first | done | with_reducible rfl
    simp only [Act.put,Sa,Sb,Sc]
    refine Ad 16 75 (v:=?_) rfl rfl (by kernel_rfl) (by kernel_rfl) (by kernel_rfl) (λ_ _ _ h=>h) (Or.inl ⟨by rfl,?_⟩) (by assumption) ?_
    rotate_left
    ·intro w hSw
     (try dsimp only at hSw)
     go_simp
     first | done | with_reducible rfl
    simp only [Act.put,Sa,Sb,Sc]
    refine Ad 17 76 (v:=?_) rfl rfl (by kernel_rfl) (by kernel_rfl) (by kernel_rfl) (λ_ _ _ h=>h) (Or.inl ⟨by rfl,?_⟩) (by assumption) ?_
    rotate_left
    ·intro w hSw
     (try dsimp only at hSw)
     go_simp
     first | done | with_reducible rfl
    simp only [Act.put,Sa,Sb,Sc]
    refine Ad 18 77 (v:=?_) rfl rfl (by kernel_rfl) (by kernel_rfl) (by kernel_rfl) (λ_ _ _ h=>h) (Or.inl ⟨by rfl,?_⟩) (by assumption) ?_
    rotate_left
    ·intro w hSw
     (try dsimp only at hSw)
     go_simp
     first | done | with_reducible rfl
    simp only [Act.put,Sa,Sb,Sc]
    refine wpAnyH_ready (rs:=[19]) (by kernel_rfl) (by simp) ?_
    refine AllReadyH.cons (o:={ dst:=some 78,op:=.call { callee:=.value (.func 20),args:=#[.tmp 75,.tmp 76,.tmp 77],argTypes:=#[31,23,23] },type:=_,pos := "law.go:115", after:=_,guard:=some (15,false) }) rfl (λK_ hK=>?_) AllReadyH.nil
    (try go_simp)
    go_at_call 20
    refine (Qx (.agg #[.slice (some ⟨b0,0,none⟩) 74 74,.slice (some ⟨b1,0,none⟩) 10 10,.slice (some ⟨b2,0,none⟩) 11 11,.slice (some ⟨b3,0,none⟩) 42 42]) x y x y _ K.out.table LX.out LV.out LX.out LY.out HS.out).mono ?_
    rintro e w9 ⟨rfl,hb⟩
    replace m0:=Kc hb m0
    replace m1:=Kc hb m1
    replace t0:=Kc hb t0
    replace t1:=Kc hb t1
    replace t2:=Kc hb t2
    replace t3:=Kc hb t3
    replace e0_:=(hb.cell (p:=⟨D,0,none⟩) (World.block_lt_of_cell? _ _ e0_)).trans e0_
    replace e1_:=(hb.cell (p:=⟨D,1,none⟩) (World.block_lt_of_cell? _ _ e1_)).trans e1_
    replace CB:=Lib.hid (CB.out.Ac hb)
    replace CD:=Lib.hid (CD.out.Ac hb)
    replace K:=Lib.hid (K.out.next hb)
    clear hb
    go_wp2_with fail
    clear hHeld
    refine hK.out _ _ ?_ (λhHeld=>?_)
    ·exact ⟨m0,m1,t0,t1,t2,t3,e0_,e1_⟩
    clear hK K_
    refine Ad 20 79 (v:=?_) rfl rfl (by kernel_rfl) (by kernel_rfl) (by kernel_rfl) (λ_ _ _ h=>h) (Or.inl ⟨by rfl,?_⟩) (by assumption) ?_
    rotate_left
    ·intro w hSw
     (try dsimp only at hSw)
     go_simp
     first | done | with_reducible rfl
    simp only [Act.put,Sa,Sb,Sc]
    refine Ad 21 80 (v:=?_) rfl rfl (by kernel_rfl) (by kernel_rfl) (by kernel_rfl) (λ_ _ _ h=>h) (Or.inl ⟨by rfl,?_⟩) (by assumption) ?_
    rotate_left
    ·intro w hSw
     (try dsimp only at hSw)
     go_simp
     first | done | with_reducible rfl
    simp only [Act.put,Sa,Sb,Sc]
    refine Ad 22 2 (v:=?_) rfl rfl (by kernel_rfl) (by kernel_rfl) (by kernel_rfl) (λ_ _ _ h=>h) (Or.inl ⟨by rfl,?_⟩) (by assumption) ?_
    rotate_left
    ·intro w hSw
     (try dsimp only at hSw)
     go_simp
     first | done | with_reducible rfl
    simp only [Act.put,Sa,Sb,Sc]
    refine wpAnyH_done (by kernel_rfl) ?_ _
    go_wp2
    go_ret
    exact ⟨rfl,K.out.below⟩
   ·have hz:¬ ey<0:=by omega
    clear hye h8 hvy
    have BB:=Lib.hid (Below.refl w.heap.size w)
    go_enter Tryz.func7,Tryz.ntmps7
    obtain ⟨B,hB⟩:∃ N,w.heap.size=N:=⟨_,rfl⟩
    have hb:=Ab w (.cells #[.string x,.string y] 23)
    replace BB:=Lib.hid (Aa BB.out hb)
    clear hb
    have CB:=Lib.hid (show CAt B x y (w.alloc (.cells #[.string x,.string y] 23)) from hB ▸ CAt.new w x y)
    have m0:=CB.out.c0
    have m1:=CB.out.c1
    go_wp2_with fail
    refine (Ar _).mono ?_
    rintro e w1 ⟨rfl,hb⟩
    replace m0:=Kc hb m0
    replace m1:=Kc hb m1
    replace CB:=Lib.hid (CB.out.Ac hb)
    replace BB:=Lib.hid (Aa BB.out hb)
    clear hb
    go_wp2_with fail
    refine (Di x y _ hx hy).mono ?_
    rintro e w2 ⟨rfl,hb⟩
    replace m0:=Kc hb m0
    replace m1:=Kc hb m1
    replace CB:=Lib.hid (CB.out.Ac hb)
    replace BB:=Lib.hid (Aa BB.out hb)
    clear hb
    go_wp2_with fail
    refine (Dz _).mono ?_
    rintro e w3 ⟨tt,rfl,hT,hb⟩
    obtain ⟨b0,b1,b2,b3,rfl,-,-,-,-⟩:=id hT
    replace m0:=Kc hb m0
    replace m1:=Kc hb m1
    replace CB:=Lib.hid (CB.out.Ac hb)
    replace BB:=Lib.hid (Aa BB.out hb)
    have K:=Lib.hid (Cw (b0:=b0) (b1:=b1) (b2:=b2) (b3:=b3) BB.out hT 31)
    clear hT hb BB
    obtain ⟨S,hS⟩:∃ N,w3.heap.size=N:=⟨_,rfl⟩
    rw [hS] at K
    have hb:=Ab w3 (.cells #[.slice (some ⟨b0,0,none⟩) 74 74,.slice (some ⟨b1,0,none⟩) 10 10,.slice (some ⟨b2,0,none⟩) 11 11,.slice (some ⟨b3,0,none⟩) 42 42] 31)
    replace m0:=Kc hb m0
    replace m1:=Kc hb m1
    replace CB:=Lib.hid (CB.out.Ac hb)
    clear hb
    obtain ⟨-,t0,t1,t2,t3⟩:=K.out.held
    go_wp2_with fail
    refine (KD.out _ _ K.out.table).mono ?_
    rintro e w4 ⟨rfl,hb⟩
    replace m0:=Kc hb m0
    replace m1:=Kc hb m1
    replace t0:=Kc hb t0
    replace t1:=Kc hb t1
    replace t2:=Kc hb t2
    replace t3:=Kc hb t3
    replace CB:=Lib.hid (CB.out.Ac hb)
    replace K:=Lib.hid (K.out.next hb)
    clear hb
    obtain ⟨D,hD⟩:∃ N,w4.heap.size=N:=⟨_,rfl⟩
    have ltDB:B<D:=by have h_:=World.block_lt_of_cell? _ _ m0;simp only [hD] at h_;exact h_
    have ltDS:S<D:=by have h_:=World.block_lt_of_cell? _ _ t0;simp only [hD] at h_;exact h_
    have hb:=Ab w4 (.cells #[.string x,.string V] 23)
    replace m0:=Kc hb m0
    replace m1:=Kc hb m1
    replace t0:=Kc hb t0
    replace t1:=Kc hb t1
    replace t2:=Kc hb t2
    replace t3:=Kc hb t3
    replace CB:=Lib.hid (CB.out.Ac hb)
    replace K:=Lib.hid (K.out.next hb)
    clear hb
    have CD:=Lib.hid (show CAt D x V (w4.alloc (.cells #[.string x,.string V] 23)) from hD ▸ CAt.new w4 x V)
    have e0_:=CD.out.c0
    have e1_:=CD.out.c1
    go_wp2_with fail
    refine (KX.out _).mono ?_
    rintro e w_ ⟨rfl,rfl⟩
    go_wp2_with fail
    refine (KV.out _).mono ?_
    rintro e w_ ⟨rfl,rfl⟩
    go_wp2_with fail
    refine (KY.out _).mono ?_
    rintro e w_ ⟨rfl,rfl⟩
    go_wp2
    replace m0:(World.drew (w4.alloc (.cells #[.string x,.string V] 23))).cell? ⟨B,0,none⟩=some (.string x):=m0
    replace m1:(World.drew (w4.alloc (.cells #[.string x,.string V] 23))).cell? ⟨B,1,none⟩=some (.string y):=m1
    replace t0:(World.drew (w4.alloc (.cells #[.string x,.string V] 23))).cell? ⟨S,0,none⟩=some (.slice (some ⟨b0,0,none⟩) 74 74):=t0
    replace t1:(World.drew (w4.alloc (.cells #[.string x,.string V] 23))).cell? ⟨S,1,none⟩=some (.slice (some ⟨b1,0,none⟩) 10 10):=t1
    replace t2:(World.drew (w4.alloc (.cells #[.string x,.string V] 23))).cell? ⟨S,2,none⟩=some (.slice (some ⟨b2,0,none⟩) 11 11):=t2
    replace t3:(World.drew (w4.alloc (.cells #[.string x,.string V] 23))).cell? ⟨S,3,none⟩=some (.slice (some ⟨b3,0,none⟩) 42 42):=t3
    replace e0_:(World.drew (w4.alloc (.cells #[.string x,.string V] 23))).cell? ⟨D,0,none⟩=some (.string x):=e0_
    replace e1_:(World.drew (w4.alloc (.cells #[.string x,.string V] 23))).cell? ⟨D,1,none⟩=some (.string V):=e1_
    replace K:=Lib.hid K.out.drew
    replace CB:=Lib.hid (CB.out.Ac (Below.refl _ _).drew)
    replace CD:=Lib.hid (CD.out.Ac (Below.refl _ _).drew)
    refine wp_region_held_drew (S:=(λw':World=>w'.cell? ⟨B,0,none⟩=some (.string x)/\w'.cell? ⟨B,1,none⟩=some (.string y)/\w'.cell? ⟨S,0,none⟩=some (.slice (some ⟨b0,0,none⟩) 74 74)/\w'.cell? ⟨S,1,none⟩=some (.slice (some ⟨b1,0,none⟩) 10 10)/\w'.cell? ⟨S,2,none⟩=some (.slice (some ⟨b2,0,none⟩) 11 11)/\w'.cell? ⟨S,3,none⟩=some (.slice (some ⟨b3,0,none⟩) 42 42)/\w'.cell? ⟨D,0,none⟩=some (.string x)/\w'.cell? ⟨D,1,none⟩=some (.string V))) (by kernel_rfl) ?_ (λhHeld=>?_)
    ·exact ⟨m0,m1,t0,t1,t2,t3,e0_,e1_⟩
    generalize hwd:(World.drew (w4.alloc (.cells #[.string x,.string V] 23)))=d5 at m0 m1 t0 t1 t2 t3 e0_ e1_ CB CD K hHeld ⊢
    clear hwd
    refine Ad 0 59 (v:=?_) rfl rfl (by kernel_rfl) (by kernel_rfl) (by kernel_rfl) (λ_ _ _ h=>h) (Or.inl ⟨by rfl,?_⟩) (by assumption) ?_
    rotate_left
    ·intro w hSw
     (try dsimp only at hSw)
     go_simp
     first | done | with_reducible rfl
    simp only [Act.put,Sa,Sb,Sc]
    refine Ad 1 60 (v:=?_) rfl rfl (by kernel_rfl) (by kernel_rfl) (by kernel_rfl) (λ_ _ _ h=>h) (Or.inl ⟨by rfl,?_⟩) (by assumption) ?_
    rotate_left
    ·intro w hSw
     (try dsimp only at hSw)
     go_simp
     first | done | with_reducible rfl
    simp only [Act.put,Sa,Sb,Sc]
    refine Ad 2 61 (v:=?_) rfl rfl (by kernel_rfl) (by kernel_rfl) (by kernel_rfl) (λ_ _ _ h=>h) (Or.inl ⟨by rfl,?_⟩) (by assumption) ?_
    rotate_left
    ·intro w hSw
     (try dsimp only at hSw)
     go_simp
     first | done | with_reducible rfl
    simp only [Act.put,Sa,Sb,Sc]
    refine Ad 3 62 (v:=?_) rfl rfl (by kernel_rfl) (by kernel_rfl) (by kernel_rfl) (λ_ _ _ h=>h) (Or.inl ⟨by rfl,?_⟩) (by assumption) ?_
    rotate_left
    ·intro w hSw
     (try dsimp only at hSw)
     go_simp
     first | done | with_reducible rfl
    simp only [Act.put,Sa,Sb,Sc]
    refine Ad 5 64 (v:=?_) rfl rfl (by kernel_rfl) (by kernel_rfl) (by kernel_rfl) (λ_ _ _ h=>h) (Or.inl ⟨by rfl,?_⟩) (by assumption) ?_
    rotate_left
    ·intro w hSw
     (try dsimp only at hSw)
     go_simp
     first | done | with_reducible rfl
    simp only [Act.put,Sa,Sb,Sc]
    refine Ad 6 65 (v:=?_) rfl rfl (by kernel_rfl) (by kernel_rfl) (by kernel_rfl) (λ_ _ _ h=>h) (Or.inl ⟨by rfl,?_⟩) (by assumption) ?_
    rotate_left
    ·intro w hSw
     (try dsimp only at hSw)
     go_simp
     first | done | with_reducible rfl
    simp only [Act.put,Sa,Sb,Sc]
    refine wpAnyH_ready (rs:=[4]) (by kernel_rfl) (by simp) ?_
    refine AllReadyH.cons (o:={ dst:=some 63,op:=.call { callee:=.value (.func 19),args:=#[.tmp 61,.tmp 62],argTypes:=#[31,23] },type:=_,pos := "law.go:115", after:=_,guard:=some (1,true) }) rfl (λK_ hK=>?_) AllReadyH.nil
    (try go_simp)
    go_at_call 19
    refine (Dc (.agg #[.slice (some ⟨b0,0,none⟩) 74 74,.slice (some ⟨b1,0,none⟩) 10 10,.slice (some ⟨b2,0,none⟩) 11 11,.slice (some ⟨b3,0,none⟩) 42 42]) x V _ K.out.table LX.out LV.out HN.out HV.out).mono ?_
    rintro e w6 ⟨rfl,hb⟩
    replace m0:=Kc hb m0
    replace m1:=Kc hb m1
    replace t0:=Kc hb t0
    replace t1:=Kc hb t1
    replace t2:=Kc hb t2
    replace t3:=Kc hb t3
    replace e0_:=(hb.cell (p:=⟨D,0,none⟩) (World.block_lt_of_cell? _ _ e0_)).trans e0_
    replace e1_:=(hb.cell (p:=⟨D,1,none⟩) (World.block_lt_of_cell? _ _ e1_)).trans e1_
    replace CB:=Lib.hid (CB.out.Ac hb)
    replace CD:=Lib.hid (CD.out.Ac hb)
    replace K:=Lib.hid (K.out.next hb)
    clear hb
    go_wp2_with fail
    clear hHeld
    refine hK.out _ _ ?_ (λhHeld=>?_)
    ·exact ⟨m0,m1,t0,t1,t2,t3,e0_,e1_⟩
    clear hK K_
    refine wpAnyH_ready (rs:=[7]) (by kernel_rfl) (by simp) ?_
    refine AllReadyH.cons (o:={ dst:=some 66,op:=.call { callee:=.value (.func 19),args:=#[.tmp 64,.tmp 65],argTypes:=#[31,23] },type:=_,pos := "law.go:115", after:=_,guard:=some (1,true) }) rfl (λK_ hK=>?_) AllReadyH.nil
    (try go_simp)
    go_at_call 19
    refine (Dc (.agg #[.slice (some ⟨b0,0,none⟩) 74 74,.slice (some ⟨b1,0,none⟩) 10 10,.slice (some ⟨b2,0,none⟩) 11 11,.slice (some ⟨b3,0,none⟩) 42 42]) x y _ K.out.table LX.out LY.out HN.out HC.out).mono ?_
    rintro e w7 ⟨rfl,hb⟩
    replace m0:=Kc hb m0
    replace m1:=Kc hb m1
    replace t0:=Kc hb t0
    replace t1:=Kc hb t1
    replace t2:=Kc hb t2
    replace t3:=Kc hb t3
    replace e0_:=(hb.cell (p:=⟨D,0,none⟩) (World.block_lt_of_cell? _ _ e0_)).trans e0_
    replace e1_:=(hb.cell (p:=⟨D,1,none⟩) (World.block_lt_of_cell? _ _ e1_)).trans e1_
    replace CB:=Lib.hid (CB.out.Ac hb)
    replace CD:=Lib.hid (CD.out.Ac hb)
    replace K:=Lib.hid (K.out.next hb)
    clear hb
    go_wp2_with fail
    clear hHeld
    refine hK.out _ _ ?_ (λhHeld=>?_)
    ·exact ⟨m0,m1,t0,t1,t2,t3,e0_,e1_⟩
    clear hK K_
    refine Ad 8 67 (v:=?_) rfl rfl (by kernel_rfl) (by kernel_rfl) (by kernel_rfl) (λ_ _ _ h=>h) (Or.inl ⟨by rfl,?_⟩) (by assumption) ?_
    rotate_left
    ·intro w hSw
     (try dsimp only at hSw)
     go_simp
     first | done | with_reducible rfl
    simp only [Act.put,Sa,Sb,Sc]
    refine Ad 9 68 (v:=?_) rfl rfl (by kernel_rfl) (by kernel_rfl) (by kernel_rfl) (λ_ _ _ h=>h) (Or.inl ⟨by rfl,?_⟩) (by assumption) ?_
    rotate_left
    ·intro w hSw
     (try dsimp only at hSw)
     go_simp
     first | done | with_reducible rfl
    simp only [Act.put,Sa,Sb,Sc]
    refine Ad 10 69 (v:=?_) rfl rfl (by kernel_rfl) (by kernel_rfl) (by kernel_rfl) (λ_ _ _ h=>h) (Or.inl ⟨by rfl,?_⟩) (by assumption) ?_
    rotate_left
    ·intro w hSw
     (try dsimp only at hSw)
     go_simp
     first | done | with_reducible rfl
    simp only [Act.put,Sa,Sb,Sc]
    refine Ad 11 70 (v:=?_) rfl rfl (by kernel_rfl) (by kernel_rfl) (by kernel_rfl) (λ_ _ _ h=>h) (Or.inl ⟨by rfl,?_⟩) (by assumption) ?_
    rotate_left
    ·intro w hSw
     (try dsimp only at hSw)
     go_simp
     first | done | with_reducible rfl
    simp only [Act.put,Sa,Sb,Sc]
    refine Ad 12 71 (v:=?_) rfl rfl (by kernel_rfl) (by kernel_rfl) (by kernel_rfl) (λ_ _ _ h=>h) (Or.inl ⟨by rfl,?_⟩) (by assumption) ?_
    rotate_left
    ·intro w hSw
     (try dsimp only at hSw)
     go_simp
     first | done | with_reducible rfl
    simp only [Act.put,Sa,Sb,Sc]
    refine wpAnyH_ready (rs:=[13]) (by kernel_rfl) (by simp) ?_
    refine AllReadyH.cons (o:={ dst:=some 72,op:=.call { callee:=.value (.func 16),args:=#[.tmp 70,.tmp 71],argTypes:=#[31,23] },type:=_,pos := "law.go:115", after:=_,guard:=some (10,true) }) rfl (λK_ hK=>?_) AllReadyH.nil
    (try go_simp)
    go_at_call 16
    refine (Cg (.agg #[.slice (some ⟨b0,0,none⟩) 74 74,.slice (some ⟨b1,0,none⟩) 10 10,.slice (some ⟨b2,0,none⟩) 11 11,.slice (some ⟨b3,0,none⟩) 42 42]) x y _ K.out.table LX.out.1 LY.out HR.out).mono ?_
    rintro e w8 ⟨rfl,hb⟩
    replace m0:=Kc hb m0
    replace m1:=Kc hb m1
    replace t0:=Kc hb t0
    replace t1:=Kc hb t1
    replace t2:=Kc hb t2
    replace t3:=Kc hb t3
    replace e0_:=(hb.cell (p:=⟨D,0,none⟩) (World.block_lt_of_cell? _ _ e0_)).trans e0_
    replace e1_:=(hb.cell (p:=⟨D,1,none⟩) (World.block_lt_of_cell? _ _ e1_)).trans e1_
    replace CB:=Lib.hid (CB.out.Ac hb)
    replace CD:=Lib.hid (CD.out.Ac hb)
    replace K:=Lib.hid (K.out.next hb)
    clear hb
    go_wp2_with fail
    clear hHeld
    refine hK.out _ _ ?_ (λhHeld=>?_)
    ·exact ⟨m0,m1,t0,t1,t2,t3,e0_,e1_⟩
    clear hK K_
    refine Ad 14 73 (v:=?_) rfl rfl (by kernel_rfl) (by kernel_rfl) (by kernel_rfl) (λ_ _ _ h=>h) (Or.inl ⟨by rfl,?_⟩) (by assumption) ?_
    rotate_left
    ·intro w hSw
     (try dsimp only at hSw)
     go_simp
     first | done | with_reducible rfl
    simp only [Act.put,Sa,Sb,Sc]
    refine Ad 15 74 (v:=?_) rfl rfl (by kernel_rfl) (by kernel_rfl) (by kernel_rfl) (λ_ _ _ h=>h) (Or.inl ⟨by rfl,?_⟩) (by assumption) ?_
    rotate_left
    ·intro w hSw
     (try dsimp only at hSw)
     go_simp
     first | done | with_reducible rfl
    simp only [Act.put,Sa,Sb,Sc]
    refine Ad 16 75 (v:=?_) rfl rfl (by kernel_rfl) (by kernel_rfl) (by kernel_rfl) (λ_ _ _ h=>h) (Or.inl ⟨by rfl,?_⟩) (by assumption) ?_
    rotate_left
    ·intro w hSw
     (try dsimp only at hSw)
     go_simp
     first | done | with_reducible rfl
    simp only [Act.put,Sa,Sb,Sc]
    refine Ad 17 76 (v:=?_) rfl rfl (by kernel_rfl) (by kernel_rfl) (by kernel_rfl) (λ_ _ _ h=>h) (Or.inl ⟨by rfl,?_⟩) (by assumption) ?_
    rotate_left
    ·intro w hSw
     (try dsimp only at hSw)
     go_simp
     first | done | with_reducible rfl
    simp only [Act.put,Sa,Sb,Sc]
    refine Ad 18 77 (v:=?_) rfl rfl (by kernel_rfl) (by kernel_rfl) (by kernel_rfl) (λ_ _ _ h=>h) (Or.inl ⟨by rfl,?_⟩) (by assumption) ?_
    rotate_left
    ·intro w hSw
     (try dsimp only at hSw)
     go_simp
     first | done | with_reducible rfl
    simp only [Act.put,Sa,Sb,Sc]
    refine wpAnyH_ready (rs:=[19]) (by kernel_rfl) (by simp) ?_
    refine AllReadyH.cons (o:={ dst:=some 78,op:=.call { callee:=.value (.func 20),args:=#[.tmp 75,.tmp 76,.tmp 77],argTypes:=#[31,23,23] },type:=_,pos := "law.go:115", after:=_,guard:=some (15,false) }) rfl (λK_ hK=>?_) AllReadyH.nil
    (try go_simp)
    go_at_call 20
    refine (Qx (.agg #[.slice (some ⟨b0,0,none⟩) 74 74,.slice (some ⟨b1,0,none⟩) 10 10,.slice (some ⟨b2,0,none⟩) 11 11,.slice (some ⟨b3,0,none⟩) 42 42]) x V x y _ K.out.table LX.out LV.out LX.out LY.out HS.out).mono ?_
    rintro e w9 ⟨rfl,hb⟩
    replace m0:=Kc hb m0
    replace m1:=Kc hb m1
    replace t0:=Kc hb t0
    replace t1:=Kc hb t1
    replace t2:=Kc hb t2
    replace t3:=Kc hb t3
    replace e0_:=(hb.cell (p:=⟨D,0,none⟩) (World.block_lt_of_cell? _ _ e0_)).trans e0_
    replace e1_:=(hb.cell (p:=⟨D,1,none⟩) (World.block_lt_of_cell? _ _ e1_)).trans e1_
    replace CB:=Lib.hid (CB.out.Ac hb)
    replace CD:=Lib.hid (CD.out.Ac hb)
    replace K:=Lib.hid (K.out.next hb)
    clear hb
    go_wp2_with fail
    clear hHeld
    refine hK.out _ _ ?_ (λhHeld=>?_)
    ·exact ⟨m0,m1,t0,t1,t2,t3,e0_,e1_⟩
    clear hK K_
    refine Ad 20 79 (v:=?_) rfl rfl (by kernel_rfl) (by kernel_rfl) (by kernel_rfl) (λ_ _ _ h=>h) (Or.inl ⟨by rfl,?_⟩) (by assumption) ?_
    rotate_left
    ·intro w hSw
     (try dsimp only at hSw)
     go_simp
     first | done | with_reducible rfl
    simp only [Act.put,Sa,Sb,Sc]
    refine Ad 21 80 (v:=?_) rfl rfl (by kernel_rfl) (by kernel_rfl) (by kernel_rfl) (λ_ _ _ h=>h) (Or.inl ⟨by rfl,?_⟩) (by assumption) ?_
    rotate_left
    ·intro w hSw
     (try dsimp only at hSw)
     go_simp
     first | done | with_reducible rfl
    simp only [Act.put,Sa,Sb,Sc]
    refine Ad 22 2 (v:=?_) rfl rfl (by kernel_rfl) (by kernel_rfl) (by kernel_rfl) (λ_ _ _ h=>h) (Or.inl ⟨by rfl,?_⟩) (by assumption) ?_
    rotate_left
    ·intro w hSw
     (try dsimp only at hSw)
     go_simp
     first | done | with_reducible rfl
    simp only [Act.put,Sa,Sb,Sc]
    refine wpAnyH_done (by kernel_rfl) ?_ _
    go_wp2
    go_ret
    exact ⟨rfl,K.out.below⟩
  ·have r1:(R != 0)=true:=by simpa using hR0
   clear hR0
   by_cases h8:ey=-1
   ·obtain rfl:y=V:=(hvy h8).symm
    subst h8
    clear hye hvy
    have BB:=Lib.hid (Below.refl w.heap.size w)
    go_enter Tryz.func7,Tryz.ntmps7
    obtain ⟨B,hB⟩:∃ N,w.heap.size=N:=⟨_,rfl⟩
    have hb:=Ab w (.cells #[.string x,.string y] 23)
    replace BB:=Lib.hid (Aa BB.out hb)
    clear hb
    have CB:=Lib.hid (show CAt B x y (w.alloc (.cells #[.string x,.string y] 23)) from hB ▸ CAt.new w x y)
    have m0:=CB.out.c0
    have m1:=CB.out.c1
    go_wp2_with fail
    refine (Ar _).mono ?_
    rintro e w1 ⟨rfl,hb⟩
    replace m0:=Kc hb m0
    replace m1:=Kc hb m1
    replace CB:=Lib.hid (CB.out.Ac hb)
    replace BB:=Lib.hid (Aa BB.out hb)
    clear hb
    go_wp2_with fail
    refine (Di x y _ hx hy).mono ?_
    rintro e w2 ⟨rfl,hb⟩
    replace m0:=Kc hb m0
    replace m1:=Kc hb m1
    replace CB:=Lib.hid (CB.out.Ac hb)
    replace BB:=Lib.hid (Aa BB.out hb)
    clear hb
    go_wp2_with fail
    refine (Dz _).mono ?_
    rintro e w3 ⟨tt,rfl,hT,hb⟩
    obtain ⟨b0,b1,b2,b3,rfl,-,-,-,-⟩:=id hT
    replace m0:=Kc hb m0
    replace m1:=Kc hb m1
    replace CB:=Lib.hid (CB.out.Ac hb)
    replace BB:=Lib.hid (Aa BB.out hb)
    have K:=Lib.hid (Cw (b0:=b0) (b1:=b1) (b2:=b2) (b3:=b3) BB.out hT 31)
    clear hT hb BB
    obtain ⟨S,hS⟩:∃ N,w3.heap.size=N:=⟨_,rfl⟩
    rw [hS] at K
    have hb:=Ab w3 (.cells #[.slice (some ⟨b0,0,none⟩) 74 74,.slice (some ⟨b1,0,none⟩) 10 10,.slice (some ⟨b2,0,none⟩) 11 11,.slice (some ⟨b3,0,none⟩) 42 42] 31)
    replace m0:=Kc hb m0
    replace m1:=Kc hb m1
    replace CB:=Lib.hid (CB.out.Ac hb)
    clear hb
    obtain ⟨-,t0,t1,t2,t3⟩:=K.out.held
    go_wp2_with fail
    refine (KD.out _ _ K.out.table).mono ?_
    rintro e w4 ⟨rfl,hb⟩
    replace m0:=Kc hb m0
    replace m1:=Kc hb m1
    replace t0:=Kc hb t0
    replace t1:=Kc hb t1
    replace t2:=Kc hb t2
    replace t3:=Kc hb t3
    replace CB:=Lib.hid (CB.out.Ac hb)
    replace K:=Lib.hid (K.out.next hb)
    clear hb
    obtain ⟨D,hD⟩:∃ N,w4.heap.size=N:=⟨_,rfl⟩
    have ltDB:B<D:=by have h_:=World.block_lt_of_cell? _ _ m0;simp only [hD] at h_;exact h_
    have ltDS:S<D:=by have h_:=World.block_lt_of_cell? _ _ t0;simp only [hD] at h_;exact h_
    have hb:=Ab w4 (.cells #[.string x,.string y] 23)
    replace m0:=Kc hb m0
    replace m1:=Kc hb m1
    replace t0:=Kc hb t0
    replace t1:=Kc hb t1
    replace t2:=Kc hb t2
    replace t3:=Kc hb t3
    replace CB:=Lib.hid (CB.out.Ac hb)
    replace K:=Lib.hid (K.out.next hb)
    clear hb
    have CD:=Lib.hid (show CAt D x y (w4.alloc (.cells #[.string x,.string y] 23)) from hD ▸ CAt.new w4 x y)
    have e0_:=CD.out.c0
    have e1_:=CD.out.c1
    go_wp2_with fail
    refine (KX.out _).mono ?_
    rintro e w_ ⟨rfl,rfl⟩
    go_wp2_with fail
    refine (KV.out _).mono ?_
    rintro e w_ ⟨rfl,rfl⟩
    go_wp2_with fail
    refine (KY.out _).mono ?_
    rintro e w_ ⟨rfl,rfl⟩
    go_wp2
    replace m0:(World.drew (w4.alloc (.cells #[.string x,.string y] 23))).cell? ⟨B,0,none⟩=some (.string x):=m0
    replace m1:(World.drew (w4.alloc (.cells #[.string x,.string y] 23))).cell? ⟨B,1,none⟩=some (.string y):=m1
    replace t0:(World.drew (w4.alloc (.cells #[.string x,.string y] 23))).cell? ⟨S,0,none⟩=some (.slice (some ⟨b0,0,none⟩) 74 74):=t0
    replace t1:(World.drew (w4.alloc (.cells #[.string x,.string y] 23))).cell? ⟨S,1,none⟩=some (.slice (some ⟨b1,0,none⟩) 10 10):=t1
    replace t2:(World.drew (w4.alloc (.cells #[.string x,.string y] 23))).cell? ⟨S,2,none⟩=some (.slice (some ⟨b2,0,none⟩) 11 11):=t2
    replace t3:(World.drew (w4.alloc (.cells #[.string x,.string y] 23))).cell? ⟨S,3,none⟩=some (.slice (some ⟨b3,0,none⟩) 42 42):=t3
    replace e0_:(World.drew (w4.alloc (.cells #[.string x,.string y] 23))).cell? ⟨D,0,none⟩=some (.string x):=e0_
    replace e1_:(World.drew (w4.alloc (.cells #[.string x,.string y] 23))).cell? ⟨D,1,none⟩=some (.string y):=e1_
    replace K:=Lib.hid K.out.drew
    replace CB:=Lib.hid (CB.out.Ac (Below.refl _ _).drew)
    replace CD:=Lib.hid (CD.out.Ac (Below.refl _ _).drew)
    refine wp_region_held_drew (S:=(λw':World=>w'.cell? ⟨B,0,none⟩=some (.string x)/\w'.cell? ⟨B,1,none⟩=some (.string y)/\w'.cell? ⟨S,0,none⟩=some (.slice (some ⟨b0,0,none⟩) 74 74)/\w'.cell? ⟨S,1,none⟩=some (.slice (some ⟨b1,0,none⟩) 10 10)/\w'.cell? ⟨S,2,none⟩=some (.slice (some ⟨b2,0,none⟩) 11 11)/\w'.cell? ⟨S,3,none⟩=some (.slice (some ⟨b3,0,none⟩) 42 42)/\w'.cell? ⟨D,0,none⟩=some (.string x)/\w'.cell? ⟨D,1,none⟩=some (.string y))) (by kernel_rfl) ?_ (λhHeld=>?_)
    ·exact ⟨m0,m1,t0,t1,t2,t3,e0_,e1_⟩
    generalize hwd:(World.drew (w4.alloc (.cells #[.string x,.string y] 23)))=d5 at m0 m1 t0 t1 t2 t3 e0_ e1_ CB CD K hHeld ⊢
    clear hwd
    refine Ad 0 59 (v:=?_) rfl rfl (by kernel_rfl) (by kernel_rfl) (by kernel_rfl) (λ_ _ _ h=>h) (Or.inl ⟨by rfl,?_⟩) (by assumption) ?_
    rotate_left
    ·intro w hSw
     (try dsimp only at hSw)
     go_simp
     first | done | with_reducible rfl
    simp only [Act.put,Sa,Sb,Sc]
    refine Ad 1 60 (v:=?_) rfl rfl (by kernel_rfl) (by kernel_rfl) (by kernel_rfl) (λ_ _ _ h=>h) (Or.inl ⟨by rfl,?_⟩) (by assumption) ?_
    rotate_left
    ·intro w hSw
     (try dsimp only at hSw)
     go_simp
     first | done | with_reducible rfl
    simp only [Act.put,Sa,Sb,Sc]
    refine Ad 2 61 (v:=?_) rfl rfl (by kernel_rfl) (by kernel_rfl) (by kernel_rfl) (λ_ _ _ h=>h) (Or.inl ⟨by rfl,?_⟩) (by assumption) ?_
    rotate_left
    ·intro w hSw
     (try dsimp only at hSw)
     go_simp
     first | done | with_reducible rfl
    simp only [Act.put,Sa,Sb,Sc]
    refine Ad 3 62 (v:=?_) rfl rfl (by kernel_rfl) (by kernel_rfl) (by kernel_rfl) (λ_ _ _ h=>h) (Or.inl ⟨by rfl,?_⟩) (by assumption) ?_
    rotate_left
    ·intro w hSw
     (try dsimp only at hSw)
     go_simp
     first | done | with_reducible rfl
    simp only [Act.put,Sa,Sb,Sc]
    refine Ad 5 64 (v:=?_) rfl rfl (by kernel_rfl) (by kernel_rfl) (by kernel_rfl) (λ_ _ _ h=>h) (Or.inl ⟨by rfl,?_⟩) (by assumption) ?_
    rotate_left
    ·intro w hSw
     (try dsimp only at hSw)
     go_simp
     first | done | with_reducible rfl
    simp only [Act.put,Sa,Sb,Sc]
    refine Ad 6 65 (v:=?_) rfl rfl (by kernel_rfl) (by kernel_rfl) (by kernel_rfl) (λ_ _ _ h=>h) (Or.inl ⟨by rfl,?_⟩) (by assumption) ?_
    rotate_left
    ·intro w hSw
     (try dsimp only at hSw)
     go_simp
     first | done | with_reducible rfl
    simp only [Act.put,Sa,Sb,Sc]
    refine wpAnyH_ready (rs:=[4]) (by kernel_rfl) (by simp) ?_
    refine AllReadyH.cons (o:={ dst:=some 63,op:=.call { callee:=.value (.func 19),args:=#[.tmp 61,.tmp 62],argTypes:=#[31,23] },type:=_,pos := "law.go:115", after:=_,guard:=some (1,true) }) rfl (λK_ hK=>?_) AllReadyH.nil
    (try go_simp)
    go_at_call 19
    refine (Dc (.agg #[.slice (some ⟨b0,0,none⟩) 74 74,.slice (some ⟨b1,0,none⟩) 10 10,.slice (some ⟨b2,0,none⟩) 11 11,.slice (some ⟨b3,0,none⟩) 42 42]) x y _ K.out.table LX.out LV.out HN.out HV.out).mono ?_
    rintro e w6 ⟨rfl,hb⟩
    replace m0:=Kc hb m0
    replace m1:=Kc hb m1
    replace t0:=Kc hb t0
    replace t1:=Kc hb t1
    replace t2:=Kc hb t2
    replace t3:=Kc hb t3
    replace e0_:=(hb.cell (p:=⟨D,0,none⟩) (World.block_lt_of_cell? _ _ e0_)).trans e0_
    replace e1_:=(hb.cell (p:=⟨D,1,none⟩) (World.block_lt_of_cell? _ _ e1_)).trans e1_
    replace CB:=Lib.hid (CB.out.Ac hb)
    replace CD:=Lib.hid (CD.out.Ac hb)
    replace K:=Lib.hid (K.out.next hb)
    clear hb
    go_wp2_with fail
    clear hHeld
    refine hK.out _ _ ?_ (λhHeld=>?_)
    ·exact ⟨m0,m1,t0,t1,t2,t3,e0_,e1_⟩
    clear hK K_
    refine wpAnyH_ready (rs:=[7]) (by kernel_rfl) (by simp) ?_
    refine AllReadyH.cons (o:={ dst:=some 66,op:=.call { callee:=.value (.func 19),args:=#[.tmp 64,.tmp 65],argTypes:=#[31,23] },type:=_,pos := "law.go:115", after:=_,guard:=some (1,true) }) rfl (λK_ hK=>?_) AllReadyH.nil
    (try go_simp)
    go_at_call 19
    refine (Dc (.agg #[.slice (some ⟨b0,0,none⟩) 74 74,.slice (some ⟨b1,0,none⟩) 10 10,.slice (some ⟨b2,0,none⟩) 11 11,.slice (some ⟨b3,0,none⟩) 42 42]) x y _ K.out.table LX.out LY.out HN.out HC.out).mono ?_
    rintro e w7 ⟨rfl,hb⟩
    replace m0:=Kc hb m0
    replace m1:=Kc hb m1
    replace t0:=Kc hb t0
    replace t1:=Kc hb t1
    replace t2:=Kc hb t2
    replace t3:=Kc hb t3
    replace e0_:=(hb.cell (p:=⟨D,0,none⟩) (World.block_lt_of_cell? _ _ e0_)).trans e0_
    replace e1_:=(hb.cell (p:=⟨D,1,none⟩) (World.block_lt_of_cell? _ _ e1_)).trans e1_
    replace CB:=Lib.hid (CB.out.Ac hb)
    replace CD:=Lib.hid (CD.out.Ac hb)
    replace K:=Lib.hid (K.out.next hb)
    clear hb
    go_wp2_with fail
    clear hHeld
    refine hK.out _ _ ?_ (λhHeld=>?_)
    ·exact ⟨m0,m1,t0,t1,t2,t3,e0_,e1_⟩
    clear hK K_
    refine Ad 8 67 (v:=?_) rfl rfl (by kernel_rfl) (by kernel_rfl) (by kernel_rfl) (λ_ _ _ h=>h) (Or.inl ⟨by rfl,?_⟩) (by assumption) ?_
    rotate_left
    ·intro w hSw
     (try dsimp only at hSw)
     go_simp
     first | done | with_reducible rfl
    simp only [Act.put,Sa,Sb,Sc]
    refine Ad 9 68 (v:=?_) rfl rfl (by kernel_rfl) (by kernel_rfl) (by kernel_rfl) (λ_ _ _ h=>h) (Or.inl ⟨by rfl,?_⟩) (by assumption) ?_
    rotate_left
    ·intro w hSw
     (try dsimp only at hSw)
     go_simp
     first | done | with_reducible rfl
    simp only [Act.put,Sa,Sb,Sc]
    refine Ad 10 69 (v:=?_) rfl rfl (by kernel_rfl) (by kernel_rfl) (by kernel_rfl) (λ_ _ _ h=>h) (Or.inl ⟨by rfl,?_⟩) (by assumption) ?_
    rotate_left
    ·intro w hSw
     (try dsimp only at hSw)
     go_simp
     first | done | with_reducible rfl
    simp only [Act.put,Sa,Sb,Sc]
    refine Ad 11 70 (v:=?_) rfl rfl (by kernel_rfl) (by kernel_rfl) (by kernel_rfl) (λ_ _ _ h=>h) (Or.inl ⟨by rfl,?_⟩) (by assumption) ?_
    rotate_left
    ·intro w hSw
     (try dsimp only at hSw)
     go_simp
     first | done | with_reducible rfl
    simp only [Act.put,Sa,Sb,Sc]
    refine Ad 12 71 (v:=?_) rfl rfl (by kernel_rfl) (by kernel_rfl) (by kernel_rfl) (λ_ _ _ h=>h) (Or.inl ⟨by rfl,?_⟩) (by assumption) ?_
    rotate_left
    ·intro w hSw
     (try dsimp only at hSw)
     go_simp
     first | done | with_reducible rfl
    simp only [Act.put,Sa,Sb,Sc]
    refine wpAnyH_ready (rs:=[13]) (by kernel_rfl) (by simp) ?_
    refine AllReadyH.cons (o:={ dst:=some 72,op:=.call { callee:=.value (.func 16),args:=#[.tmp 70,.tmp 71],argTypes:=#[31,23] },type:=_,pos := "law.go:115", after:=_,guard:=some (10,true) }) rfl (λK_ hK=>?_) AllReadyH.nil
    (try go_simp)
    go_at_call 16
    refine (Cg (.agg #[.slice (some ⟨b0,0,none⟩) 74 74,.slice (some ⟨b1,0,none⟩) 10 10,.slice (some ⟨b2,0,none⟩) 11 11,.slice (some ⟨b3,0,none⟩) 42 42]) x y _ K.out.table LX.out.1 LY.out HR.out).mono ?_
    rintro e w8 ⟨rfl,hb⟩
    replace m0:=Kc hb m0
    replace m1:=Kc hb m1
    replace t0:=Kc hb t0
    replace t1:=Kc hb t1
    replace t2:=Kc hb t2
    replace t3:=Kc hb t3
    replace e0_:=(hb.cell (p:=⟨D,0,none⟩) (World.block_lt_of_cell? _ _ e0_)).trans e0_
    replace e1_:=(hb.cell (p:=⟨D,1,none⟩) (World.block_lt_of_cell? _ _ e1_)).trans e1_
    replace CB:=Lib.hid (CB.out.Ac hb)
    replace CD:=Lib.hid (CD.out.Ac hb)
    replace K:=Lib.hid (K.out.next hb)
    clear hb
    go_wp2_with fail
    clear hHeld
    refine hK.out _ _ ?_ (λhHeld=>?_)
    ·exact ⟨m0,m1,t0,t1,t2,t3,e0_,e1_⟩
    clear hK K_
    refine Ad 14 73 (v:=?_) rfl rfl (by kernel_rfl) (by kernel_rfl) (by kernel_rfl) (λ_ _ _ h=>h) (Or.inl ⟨by rfl,?_⟩) (by assumption) ?_
    rotate_left
    ·intro w hSw
     (try dsimp only at hSw)
     go_simp
     first | done | with_reducible rfl
    simp only [Act.put,Sa,Sb,Sc]
    refine Ad 15 74 (v:=?_) rfl rfl (by kernel_rfl) (by kernel_rfl) (by kernel_rfl) (λ_ _ _ h=>h) (Or.inl ⟨by rfl,?_⟩) (by assumption) ?_
    rotate_left
    ·intro w hSw
     (try dsimp only at hSw)
     go_simp
     first | done | with_reducible rfl
    simp only [Act.put,Sa,Sb,Sc]
    refine Ad 16 75 (v:=undef) rfl rfl (by kernel_rfl) (by kernel_rfl) (by kernel_rfl) (λ_ _ _ h=>h) (Or.inr ⟨by rfl,rfl⟩) (by assumption) ?_
    simp only [Act.put,Sa,Sb,Sc]
    refine Ad 17 76 (v:=undef) rfl rfl (by kernel_rfl) (by kernel_rfl) (by kernel_rfl) (λ_ _ _ h=>h) (Or.inr ⟨by rfl,rfl⟩) (by assumption) ?_
    simp only [Act.put,Sa,Sb,Sc]
    refine Ad 18 77 (v:=undef) rfl rfl (by kernel_rfl) (by kernel_rfl) (by kernel_rfl) (λ_ _ _ h=>h) (Or.inr ⟨by rfl,rfl⟩) (by assumption) ?_
    simp only [Act.put,Sa,Sb,Sc]
    refine Ad 19 78 (v:=undef) rfl rfl (by kernel_rfl) (by kernel_rfl) (by kernel_rfl) (λ_ _ _ h=>h) (Or.inr ⟨by rfl,rfl⟩) (by assumption) ?_
    simp only [Act.put,Sa,Sb,Sc]
    refine Ad 20 79 (v:=?_) rfl rfl (by kernel_rfl) (by kernel_rfl) (by kernel_rfl) (λ_ _ _ h=>h) (Or.inl ⟨by rfl,?_⟩) (by assumption) ?_
    rotate_left
    ·intro w hSw
     (try dsimp only at hSw)
     go_simp
     first | done | with_reducible rfl
    simp only [Act.put,Sa,Sb,Sc]
    refine Ad 21 80 (v:=?_) rfl rfl (by kernel_rfl) (by kernel_rfl) (by kernel_rfl) (λ_ _ _ h=>h) (Or.inl ⟨by rfl,?_⟩) (by assumption) ?_
    rotate_left
    ·intro w hSw
     (try dsimp only at hSw)
     go_simp
     first | done | with_reducible rfl
    simp only [Act.put,Sa,Sb,Sc]
    refine Ad 22 2 (v:=?_) rfl rfl (by kernel_rfl) (by kernel_rfl) (by kernel_rfl) (λ_ _ _ h=>h) (Or.inl ⟨by rfl,?_⟩) (by assumption) ?_
    rotate_left
    ·intro w hSw
     (try dsimp only at hSw)
     go_simp
     first | done | with_reducible rfl
    simp only [Act.put,Sa,Sb,Sc]
    refine wpAnyH_done (by kernel_rfl) ?_ _
    go_wp2
    go_ret
    exact ⟨rfl,K.out.below⟩
   ·have hz:¬ ey<0:=by omega
    clear hye h8 hvy
    have BB:=Lib.hid (Below.refl w.heap.size w)
    go_enter Tryz.func7,Tryz.ntmps7
    obtain ⟨B,hB⟩:∃ N,w.heap.size=N:=⟨_,rfl⟩
    have hb:=Ab w (.cells #[.string x,.string y] 23)
    replace BB:=Lib.hid (Aa BB.out hb)
    clear hb
    have CB:=Lib.hid (show CAt B x y (w.alloc (.cells #[.string x,.string y] 23)) from hB ▸ CAt.new w x y)
    have m0:=CB.out.c0
    have m1:=CB.out.c1
    go_wp2_with fail
    refine (Ar _).mono ?_
    rintro e w1 ⟨rfl,hb⟩
    replace m0:=Kc hb m0
    replace m1:=Kc hb m1
    replace CB:=Lib.hid (CB.out.Ac hb)
    replace BB:=Lib.hid (Aa BB.out hb)
    clear hb
    go_wp2_with fail
    refine (Di x y _ hx hy).mono ?_
    rintro e w2 ⟨rfl,hb⟩
    replace m0:=Kc hb m0
    replace m1:=Kc hb m1
    replace CB:=Lib.hid (CB.out.Ac hb)
    replace BB:=Lib.hid (Aa BB.out hb)
    clear hb
    go_wp2_with fail
    refine (Dz _).mono ?_
    rintro e w3 ⟨tt,rfl,hT,hb⟩
    obtain ⟨b0,b1,b2,b3,rfl,-,-,-,-⟩:=id hT
    replace m0:=Kc hb m0
    replace m1:=Kc hb m1
    replace CB:=Lib.hid (CB.out.Ac hb)
    replace BB:=Lib.hid (Aa BB.out hb)
    have K:=Lib.hid (Cw (b0:=b0) (b1:=b1) (b2:=b2) (b3:=b3) BB.out hT 31)
    clear hT hb BB
    obtain ⟨S,hS⟩:∃ N,w3.heap.size=N:=⟨_,rfl⟩
    rw [hS] at K
    have hb:=Ab w3 (.cells #[.slice (some ⟨b0,0,none⟩) 74 74,.slice (some ⟨b1,0,none⟩) 10 10,.slice (some ⟨b2,0,none⟩) 11 11,.slice (some ⟨b3,0,none⟩) 42 42] 31)
    replace m0:=Kc hb m0
    replace m1:=Kc hb m1
    replace CB:=Lib.hid (CB.out.Ac hb)
    clear hb
    obtain ⟨-,t0,t1,t2,t3⟩:=K.out.held
    go_wp2_with fail
    refine (KD.out _ _ K.out.table).mono ?_
    rintro e w4 ⟨rfl,hb⟩
    replace m0:=Kc hb m0
    replace m1:=Kc hb m1
    replace t0:=Kc hb t0
    replace t1:=Kc hb t1
    replace t2:=Kc hb t2
    replace t3:=Kc hb t3
    replace CB:=Lib.hid (CB.out.Ac hb)
    replace K:=Lib.hid (K.out.next hb)
    clear hb
    obtain ⟨D,hD⟩:∃ N,w4.heap.size=N:=⟨_,rfl⟩
    have ltDB:B<D:=by have h_:=World.block_lt_of_cell? _ _ m0;simp only [hD] at h_;exact h_
    have ltDS:S<D:=by have h_:=World.block_lt_of_cell? _ _ t0;simp only [hD] at h_;exact h_
    have hb:=Ab w4 (.cells #[.string x,.string V] 23)
    replace m0:=Kc hb m0
    replace m1:=Kc hb m1
    replace t0:=Kc hb t0
    replace t1:=Kc hb t1
    replace t2:=Kc hb t2
    replace t3:=Kc hb t3
    replace CB:=Lib.hid (CB.out.Ac hb)
    replace K:=Lib.hid (K.out.next hb)
    clear hb
    have CD:=Lib.hid (show CAt D x V (w4.alloc (.cells #[.string x,.string V] 23)) from hD ▸ CAt.new w4 x V)
    have e0_:=CD.out.c0
    have e1_:=CD.out.c1
    go_wp2_with fail
    refine (KX.out _).mono ?_
    rintro e w_ ⟨rfl,rfl⟩
    go_wp2_with fail
    refine (KV.out _).mono ?_
    rintro e w_ ⟨rfl,rfl⟩
    go_wp2_with fail
    refine (KY.out _).mono ?_
    rintro e w_ ⟨rfl,rfl⟩
    go_wp2
    replace m0:(World.drew (w4.alloc (.cells #[.string x,.string V] 23))).cell? ⟨B,0,none⟩=some (.string x):=m0
    replace m1:(World.drew (w4.alloc (.cells #[.string x,.string V] 23))).cell? ⟨B,1,none⟩=some (.string y):=m1
    replace t0:(World.drew (w4.alloc (.cells #[.string x,.string V] 23))).cell? ⟨S,0,none⟩=some (.slice (some ⟨b0,0,none⟩) 74 74):=t0
    replace t1:(World.drew (w4.alloc (.cells #[.string x,.string V] 23))).cell? ⟨S,1,none⟩=some (.slice (some ⟨b1,0,none⟩) 10 10):=t1
    replace t2:(World.drew (w4.alloc (.cells #[.string x,.string V] 23))).cell? ⟨S,2,none⟩=some (.slice (some ⟨b2,0,none⟩) 11 11):=t2
    replace t3:(World.drew (w4.alloc (.cells #[.string x,.string V] 23))).cell? ⟨S,3,none⟩=some (.slice (some ⟨b3,0,none⟩) 42 42):=t3
    replace e0_:(World.drew (w4.alloc (.cells #[.string x,.string V] 23))).cell? ⟨D,0,none⟩=some (.string x):=e0_
    replace e1_:(World.drew (w4.alloc (.cells #[.string x,.string V] 23))).cell? ⟨D,1,none⟩=some (.string V):=e1_
    replace K:=Lib.hid K.out.drew
    replace CB:=Lib.hid (CB.out.Ac (Below.refl _ _).drew)
    replace CD:=Lib.hid (CD.out.Ac (Below.refl _ _).drew)
    refine wp_region_held_drew (S:=(λw':World=>w'.cell? ⟨B,0,none⟩=some (.string x)/\w'.cell? ⟨B,1,none⟩=some (.string y)/\w'.cell? ⟨S,0,none⟩=some (.slice (some ⟨b0,0,none⟩) 74 74)/\w'.cell? ⟨S,1,none⟩=some (.slice (some ⟨b1,0,none⟩) 10 10)/\w'.cell? ⟨S,2,none⟩=some (.slice (some ⟨b2,0,none⟩) 11 11)/\w'.cell? ⟨S,3,none⟩=some (.slice (some ⟨b3,0,none⟩) 42 42)/\w'.cell? ⟨D,0,none⟩=some (.string x)/\w'.cell? ⟨D,1,none⟩=some (.string V))) (by kernel_rfl) ?_ (λhHeld=>?_)
    ·exact ⟨m0,m1,t0,t1,t2,t3,e0_,e1_⟩
    generalize hwd:(World.drew (w4.alloc (.cells #[.string x,.string V] 23)))=d5 at m0 m1 t0 t1 t2 t3 e0_ e1_ CB CD K hHeld ⊢
    clear hwd
    refine Ad 0 59 (v:=?_) rfl rfl (by kernel_rfl) (by kernel_rfl) (by kernel_rfl) (λ_ _ _ h=>h) (Or.inl ⟨by rfl,?_⟩) (by assumption) ?_
    rotate_left
    ·intro w hSw
     (try dsimp only at hSw)
     go_simp
     first | done | with_reducible rfl
    simp only [Act.put,Sa,Sb,Sc]
    refine Ad 1 60 (v:=?_) rfl rfl (by kernel_rfl) (by kernel_rfl) (by kernel_rfl) (λ_ _ _ h=>h) (Or.inl ⟨by rfl,?_⟩) (by assumption) ?_
    rotate_left
    ·intro w hSw
     (try dsimp only at hSw)
     go_simp
     first | done | with_reducible rfl
    simp only [Act.put,Sa,Sb,Sc]
    refine Ad 2 61 (v:=?_) rfl rfl (by kernel_rfl) (by kernel_rfl) (by kernel_rfl) (λ_ _ _ h=>h) (Or.inl ⟨by rfl,?_⟩) (by assumption) ?_
    rotate_left
    ·intro w hSw
     (try dsimp only at hSw)
     go_simp
     first | done | with_reducible rfl
    simp only [Act.put,Sa,Sb,Sc]
    refine Ad 3 62 (v:=?_) rfl rfl (by kernel_rfl) (by kernel_rfl) (by kernel_rfl) (λ_ _ _ h=>h) (Or.inl ⟨by rfl,?_⟩) (by assumption) ?_
    rotate_left
    ·intro w hSw
     (try dsimp only at hSw)
     go_simp
     first | done | with_reducible rfl
    simp only [Act.put,Sa,Sb,Sc]
    refine Ad 5 64 (v:=?_) rfl rfl (by kernel_rfl) (by kernel_rfl) (by kernel_rfl) (λ_ _ _ h=>h) (Or.inl ⟨by rfl,?_⟩) (by assumption) ?_
    rotate_left
    ·intro w hSw
     (try dsimp only at hSw)
     go_simp
     first | done | with_reducible rfl
    simp only [Act.put,Sa,Sb,Sc]
    refine Ad 6 65 (v:=?_) rfl rfl (by kernel_rfl) (by kernel_rfl) (by kernel_rfl) (λ_ _ _ h=>h) (Or.inl ⟨by rfl,?_⟩) (by assumption) ?_
    rotate_left
    ·intro w hSw
     (try dsimp only at hSw)
     go_simp
     first | done | with_reducible rfl
    simp only [Act.put,Sa,Sb,Sc]
    refine wpAnyH_ready (rs:=[4]) (by kernel_rfl) (by simp) ?_
    refine AllReadyH.cons (o:={ dst:=some 63,op:=.call { callee:=.value (.func 19),args:=#[.tmp 61,.tmp 62],argTypes:=#[31,23] },type:=_,pos := "law.go:115", after:=_,guard:=some (1,true) }) rfl (λK_ hK=>?_) AllReadyH.nil
    (try go_simp)
    go_at_call 19
    refine (Dc (.agg #[.slice (some ⟨b0,0,none⟩) 74 74,.slice (some ⟨b1,0,none⟩) 10 10,.slice (some ⟨b2,0,none⟩) 11 11,.slice (some ⟨b3,0,none⟩) 42 42]) x V _ K.out.table LX.out LV.out HN.out HV.out).mono ?_
    rintro e w6 ⟨rfl,hb⟩
    replace m0:=Kc hb m0
    replace m1:=Kc hb m1
    replace t0:=Kc hb t0
    replace t1:=Kc hb t1
    replace t2:=Kc hb t2
    replace t3:=Kc hb t3
    replace e0_:=(hb.cell (p:=⟨D,0,none⟩) (World.block_lt_of_cell? _ _ e0_)).trans e0_
    replace e1_:=(hb.cell (p:=⟨D,1,none⟩) (World.block_lt_of_cell? _ _ e1_)).trans e1_
    replace CB:=Lib.hid (CB.out.Ac hb)
    replace CD:=Lib.hid (CD.out.Ac hb)
    replace K:=Lib.hid (K.out.next hb)
    clear hb
    go_wp2_with fail
    clear hHeld
    refine hK.out _ _ ?_ (λhHeld=>?_)
    ·exact ⟨m0,m1,t0,t1,t2,t3,e0_,e1_⟩
    clear hK K_
    refine wpAnyH_ready (rs:=[7]) (by kernel_rfl) (by simp) ?_
    refine AllReadyH.cons (o:={ dst:=some 66,op:=.call { callee:=.value (.func 19),args:=#[.tmp 64,.tmp 65],argTypes:=#[31,23] },type:=_,pos := "law.go:115", after:=_,guard:=some (1,true) }) rfl (λK_ hK=>?_) AllReadyH.nil
    (try go_simp)
    go_at_call 19
    refine (Dc (.agg #[.slice (some ⟨b0,0,none⟩) 74 74,.slice (some ⟨b1,0,none⟩) 10 10,.slice (some ⟨b2,0,none⟩) 11 11,.slice (some ⟨b3,0,none⟩) 42 42]) x y _ K.out.table LX.out LY.out HN.out HC.out).mono ?_
    rintro e w7 ⟨rfl,hb⟩
    replace m0:=Kc hb m0
    replace m1:=Kc hb m1
    replace t0:=Kc hb t0
    replace t1:=Kc hb t1
    replace t2:=Kc hb t2
    replace t3:=Kc hb t3
    replace e0_:=(hb.cell (p:=⟨D,0,none⟩) (World.block_lt_of_cell? _ _ e0_)).trans e0_
    replace e1_:=(hb.cell (p:=⟨D,1,none⟩) (World.block_lt_of_cell? _ _ e1_)).trans e1_
    replace CB:=Lib.hid (CB.out.Ac hb)
    replace CD:=Lib.hid (CD.out.Ac hb)
    replace K:=Lib.hid (K.out.next hb)
    clear hb
    go_wp2_with fail
    clear hHeld
    refine hK.out _ _ ?_ (λhHeld=>?_)
    ·exact ⟨m0,m1,t0,t1,t2,t3,e0_,e1_⟩
    clear hK K_
    refine Ad 8 67 (v:=?_) rfl rfl (by kernel_rfl) (by kernel_rfl) (by kernel_rfl) (λ_ _ _ h=>h) (Or.inl ⟨by rfl,?_⟩) (by assumption) ?_
    rotate_left
    ·intro w hSw
     (try dsimp only at hSw)
     go_simp
     first | done | with_reducible rfl
    simp only [Act.put,Sa,Sb,Sc]
    refine Ad 9 68 (v:=?_) rfl rfl (by kernel_rfl) (by kernel_rfl) (by kernel_rfl) (λ_ _ _ h=>h) (Or.inl ⟨by rfl,?_⟩) (by assumption) ?_
    rotate_left
    ·intro w hSw
     (try dsimp only at hSw)
     go_simp
     first | done | with_reducible rfl
    simp only [Act.put,Sa,Sb,Sc]
    refine Ad 10 69 (v:=?_) rfl rfl (by kernel_rfl) (by kernel_rfl) (by kernel_rfl) (λ_ _ _ h=>h) (Or.inl ⟨by rfl,?_⟩) (by assumption) ?_
    rotate_left
    ·intro w hSw
     (try dsimp only at hSw)
     go_simp
     first | done | with_reducible rfl
    simp only [Act.put,Sa,Sb,Sc]
    refine Ad 11 70 (v:=?_) rfl rfl (by kernel_rfl) (by kernel_rfl) (by kernel_rfl) (λ_ _ _ h=>h) (Or.inl ⟨by rfl,?_⟩) (by assumption) ?_
    rotate_left
    ·intro w hSw
     (try dsimp only at hSw)
     go_simp
     first | done | with_reducible rfl
    simp only [Act.put,Sa,Sb,Sc]
    refine Ad 12 71 (v:=?_) rfl rfl (by kernel_rfl) (by kernel_rfl) (by kernel_rfl) (λ_ _ _ h=>h) (Or.inl ⟨by rfl,?_⟩) (by assumption) ?_
    rotate_left
    ·intro w hSw
     (try dsimp only at hSw)
     go_simp
     first | done | with_reducible rfl
    simp only [Act.put,Sa,Sb,Sc]
    refine wpAnyH_ready (rs:=[13]) (by kernel_rfl) (by simp) ?_
    refine AllReadyH.cons (o:={ dst:=some 72,op:=.call { callee:=.value (.func 16),args:=#[.tmp 70,.tmp 71],argTypes:=#[31,23] },type:=_,pos := "law.go:115", after:=_,guard:=some (10,true) }) rfl (λK_ hK=>?_) AllReadyH.nil
    (try go_simp)
    go_at_call 16
    refine (Cg (.agg #[.slice (some ⟨b0,0,none⟩) 74 74,.slice (some ⟨b1,0,none⟩) 10 10,.slice (some ⟨b2,0,none⟩) 11 11,.slice (some ⟨b3,0,none⟩) 42 42]) x y _ K.out.table LX.out.1 LY.out HR.out).mono ?_
    rintro e w8 ⟨rfl,hb⟩
    replace m0:=Kc hb m0
    replace m1:=Kc hb m1
    replace t0:=Kc hb t0
    replace t1:=Kc hb t1
    replace t2:=Kc hb t2
    replace t3:=Kc hb t3
    replace e0_:=(hb.cell (p:=⟨D,0,none⟩) (World.block_lt_of_cell? _ _ e0_)).trans e0_
    replace e1_:=(hb.cell (p:=⟨D,1,none⟩) (World.block_lt_of_cell? _ _ e1_)).trans e1_
    replace CB:=Lib.hid (CB.out.Ac hb)
    replace CD:=Lib.hid (CD.out.Ac hb)
    replace K:=Lib.hid (K.out.next hb)
    clear hb
    go_wp2_with fail
    clear hHeld
    refine hK.out _ _ ?_ (λhHeld=>?_)
    ·exact ⟨m0,m1,t0,t1,t2,t3,e0_,e1_⟩
    clear hK K_
    refine Ad 14 73 (v:=?_) rfl rfl (by kernel_rfl) (by kernel_rfl) (by kernel_rfl) (λ_ _ _ h=>h) (Or.inl ⟨by rfl,?_⟩) (by assumption) ?_
    rotate_left
    ·intro w hSw
     (try dsimp only at hSw)
     go_simp
     first | done | with_reducible rfl
    simp only [Act.put,Sa,Sb,Sc]
    refine Ad 15 74 (v:=?_) rfl rfl (by kernel_rfl) (by kernel_rfl) (by kernel_rfl) (λ_ _ _ h=>h) (Or.inl ⟨by rfl,?_⟩) (by assumption) ?_
    rotate_left
    ·intro w hSw
     (try dsimp only at hSw)
     go_simp
     first | done | with_reducible rfl
    simp only [Act.put,Sa,Sb,Sc]
    refine Ad 16 75 (v:=undef) rfl rfl (by kernel_rfl) (by kernel_rfl) (by kernel_rfl) (λ_ _ _ h=>h) (Or.inr ⟨by rfl,rfl⟩) (by assumption) ?_
    simp only [Act.put,Sa,Sb,Sc]
    refine Ad 17 76 (v:=undef) rfl rfl (by kernel_rfl) (by kernel_rfl) (by kernel_rfl) (λ_ _ _ h=>h) (Or.inr ⟨by rfl,rfl⟩) (by assumption) ?_
    simp only [Act.put,Sa,Sb,Sc]
    refine Ad 18 77 (v:=undef) rfl rfl (by kernel_rfl) (by kernel_rfl) (by kernel_rfl) (λ_ _ _ h=>h) (Or.inr ⟨by rfl,rfl⟩) (by assumption) ?_
    simp only [Act.put,Sa,Sb,Sc]
    refine Ad 19 78 (v:=undef) rfl rfl (by kernel_rfl) (by kernel_rfl) (by kernel_rfl) (λ_ _ _ h=>h) (Or.inr ⟨by rfl,rfl⟩) (by assumption) ?_
    simp only [Act.put,Sa,Sb,Sc]
    refine Ad 20 79 (v:=?_) rfl rfl (by kernel_rfl) (by kernel_rfl) (by kernel_rfl) (λ_ _ _ h=>h) (Or.inl ⟨by rfl,?_⟩) (by assumption) ?_
    rotate_left
    ·intro w hSw
     (try dsimp only at hSw)
     go_simp
     first | done | with_reducible rfl
    simp only [Act.put,Sa,Sb,Sc]
    refine Ad 21 80 (v:=?_) rfl rfl (by kernel_rfl) (by kernel_rfl) (by kernel_rfl) (λ_ _ _ h=>h) (Or.inl ⟨by rfl,?_⟩) (by assumption) ?_
    rotate_left
    ·intro w hSw
     (try dsimp only at hSw)
     go_simp
     first | done | with_reducible rfl
    simp only [Act.put,Sa,Sb,Sc]
    refine Ad 22 2 (v:=?_) rfl rfl (by kernel_rfl) (by kernel_rfl) (by kernel_rfl) (λ_ _ _ h=>h) (Or.inl ⟨by rfl,?_⟩) (by assumption) ?_
    rotate_left
    ·intro w hSw
     (try dsimp only at hSw)
     go_simp
     first | done | with_reducible rfl
    simp only [Act.put,Sa,Sb,Sc]
    refine wpAnyH_done (by kernel_rfl) ?_ _
    go_wp2
    go_ret
    exact ⟨rfl,K.out.below⟩
end Go.Proofs.YtppmbilonaflfaaGreatDoor
