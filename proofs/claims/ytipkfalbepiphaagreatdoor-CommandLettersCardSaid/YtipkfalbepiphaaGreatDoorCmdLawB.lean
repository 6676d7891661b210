import Derived.Test.YtipkfalbepiphaaGreatDoorCmdLaw
namespace Go.Proofs.YtipkfalbepiphaaGreatDoor
open Tryz
open Go.RowKit Utf
set_option maxHeartbeats 16000000 in
set_option maxRecDepth 100000 in
theorem Zc (F:Ahl) (s:ByteArray) (w:World) (CT:Ha w):Calls prog 4 #[.string s] w λe w'=>e=.returned (.bool true)/\Below w.heap.size w w':=by
 by_cases hs:s.size<=600
 case neg =>
  have hz:(600:Int)<(s.size:Int):=jO
  have BB:=jH (jan w.heap.size w);go_enter func4,ntmps4;go_wp2_with fail;refine (Fj F _ (CT)).mono ?_;rintro e w1 ⟨rfl,hb⟩;replace BB:=jH (Aa BB.out hb);clear hb;go_wp2;go_ret;exact ⟨rfl,BB.out⟩
 have hz:¬ (600:Int)<(s.size:Int):=jO
 have hsl:s.data.toList.length=s.size:=by simp
 have KE:=λW=>Hi s W jO;rcases Lab.Gg s.data.toList with ⟨ha,h8⟩ | ⟨-,h8⟩
 case inr =>
  generalize Ao s.data.toList=g at KE h8;have h9:¬ g<0:=jO
  have BB:=jH (jan w.heap.size w);go_enter func4,ntmps4;go_wp2_with fail;refine (Fj F _ (CT)).mono ?_;rintro e w1 ⟨rfl,hb⟩;replace BB:=jH (Aa BB.out hb);clear hb;go_wp2_with fail;refine (KE _).mono ?_;rintro e w_ ⟨rfl,rfl⟩;go_wp2;go_ret;exact ⟨rfl,BB.out⟩
 have hlow:=Lab.Du.1 ha;rw [h8] at KE;obtain ⟨⟨E,⟨v,nm,k,x,y,z,e8,d8⟩⟩,hp⟩:∃ q,Cmd.parse s.data.toList=q:=⟨_,rfl⟩
 obtain ⟨l1,-,-⟩:=Cmd.Ad4 hp;replace l1:nm.length<=600:=by have h_:nm.length<=s.data.toList.length:=l1;omega
 obtain ⟨T,hT⟩:∃ T:ByteArray,⟨(s.data.toList.map Af).toArray⟩=T:=⟨_,rfl⟩
 obtain ⟨NM,hNM⟩:∃ T:ByteArray,⟨nm.toArray⟩=T:=⟨_,rfl⟩
 obtain ⟨X,hX⟩:∃ T:ByteArray,⟨x.toArray⟩=T:=⟨_,rfl⟩
 obtain ⟨Y,hY⟩:∃ T:ByteArray,⟨y.toArray⟩=T:=⟨_,rfl⟩
 obtain ⟨NL,hNL⟩:∃ T:ByteArray,⟨(Lex.sl nm).toArray⟩=T:=⟨_,rfl⟩
 obtain ⟨XL,hXL⟩:∃ T:ByteArray,⟨(Lex.sl x).toArray⟩=T:=⟨_,rfl⟩
 obtain ⟨YL,hYL⟩:∃ T:ByteArray,⟨(Lex.sl y).toArray⟩=T:=⟨_,rfl⟩
 have hq:Cmd.parse T.data.toList=(E,⟨v,Lex.sl nm,k,Lex.sl x,Lex.sl y,z,e8,d8⟩):=by
  rw [<- hT];exact (Cmd.U3 hlow).trans (by rw [hp];rfl)
 have hTs:T.size=s.size:=by rw [<- hT];show (s.data.toList.map Af).toArray.size=_;rw [List.size_toArray,jai,hsl]
 have KT:∀ W,Calls prog 13 #[.string s] W λe w'=>e=.returned (.string T)/\Below W.heap.size W w':=λW=>by rw [<- hT];exact Hm s W jO
 have KN:∀ W,Calls prog 13 #[.string NM] W λe w'=>e=.returned (.string NL)/\Below W.heap.size W w':=λW=>by
  rw [<- hNM,<- hNL];exact Hm ⟨nm.toArray⟩ W (by show nm.toArray.size<=_;rw [List.size_toArray];omega)
 have KP:=λt W (h:D3 W t)=>F.parse t s W h jO hp;have KQ:=λt W (h:D3 W t)=>F.parse t T W h jO hq;rw [hNM,hX,hY] at KP;rw [hNL,hXL,hYL] at KQ;replace KT:=jH KT;replace KN:=jH KN;replace KP:=jH KP;replace KQ:=jH KQ;clear hlow hp l1 hT hNM hX hY hNL hXL hYL hq hTs ha h8 hsl hs;have BB:=jH (jan w.heap.size w);go_enter func4,ntmps4;go_wp2_with fail;refine (Fj F _ (CT)).mono ?_;rintro e w1 ⟨rfl,hb⟩;replace BB:=jH (Aa BB.out hb);clear hb;go_wp2_with fail;refine (KE _).mono ?_;rintro e w_ ⟨rfl,rfl⟩;clear KE;go_wp2_with fail;refine (Xe _).mono ?_;rintro e w2 ⟨tt,rfl,hT,hb⟩;obtain ⟨b0,b1,b2,b3,rfl,-,-,-,-⟩:=id hT;replace BB:=jH (Aa BB.out hb);have K:=jH (Pc (b0:=b0) (b1:=b1) (b2:=b2) (b3:=b3) BB.out hT CT 35);clear hT hb BB;obtain ⟨S,hS⟩:∃ N,w2.heap.size=N:=⟨_,rfl⟩
 rw [hS] at K;have hb:=Ab w2 (.cells #[.slice (some ⟨b0,0,none⟩) 74 74,.slice (some ⟨b1,0,none⟩) 10 10,.slice (some ⟨b2,0,none⟩) 11 11,.slice (some ⟨b3,0,none⟩) 42 42] 35);clear hb;obtain ⟨-,t0,t1,t2,t3⟩:=K.out.held;go_wp2_with fail;refine (KP.out _ _ K.out.table).mono ?_;rintro e w3 ⟨rfl,hb⟩;replace t0:=Kc hb t0;replace t1:=Kc hb t1;replace t2:=Kc hb t2;replace t3:=Kc hb t3;replace K:=jH (K.out.next hb);clear hb;obtain ⟨A,hA⟩:∃ N,w3.heap.size=N:=⟨_,rfl⟩
 have ltAS:S<A:=by have h_:=jam _ _ t0;simp only [hA] at h_;exact h_
 have hb:=Ab w3 (.cells #[.int .i64 v,.string NM,.bool k,.string X,.string Y,.int .i64 z,.bool e8,.bool d8] 27);replace t0:=Kc hb t0;replace t1:=Kc hb t1;replace t2:=Kc hb t2;replace t3:=Kc hb t3;replace K:=jH (K.out.next hb);clear hb;have CA:=jH (show Ai A v NM k X Y z e8 d8 (w3.alloc (.cells #[.int .i64 v,.string NM,.bool k,.string X,.string Y,.int .i64 z,.bool e8,.bool d8] 27)) from hA ▸ Ai.new w3 v NM k X Y z e8 d8);go_upto_region 6 with (fail)
 go_cut [7,8] (λs7 s8 wx=>∃ N,s7=.pointer (some ⟨N,0,none⟩)/\s8=.int .i64 E/\Hid (Is w S b0 b1 b2 b3 wx/\Ai A v NM k X Y z e8 d8 wx/\Ai N v NL k XL YL z e8 d8 wx))
 case first =>
  replace t0:(World.drew (w3.alloc (.cells #[.int .i64 v,.string NM,.bool k,.string X,.string Y,.int .i64 z,.bool e8,.bool d8] 27))).cell? ⟨S,0,none⟩=some (.slice (some ⟨b0,0,none⟩) 74 74):=t0;replace t1:(World.drew (w3.alloc (.cells #[.int .i64 v,.string NM,.bool k,.string X,.string Y,.int .i64 z,.bool e8,.bool d8] 27))).cell? ⟨S,1,none⟩=some (.slice (some ⟨b1,0,none⟩) 10 10):=t1;replace t2:(World.drew (w3.alloc (.cells #[.int .i64 v,.string NM,.bool k,.string X,.string Y,.int .i64 z,.bool e8,.bool d8] 27))).cell? ⟨S,2,none⟩=some (.slice (some ⟨b2,0,none⟩) 11 11):=t2;replace t3:(World.drew (w3.alloc (.cells #[.int .i64 v,.string NM,.bool k,.string X,.string Y,.int .i64 z,.bool e8,.bool d8] 27))).cell? ⟨S,3,none⟩=some (.slice (some ⟨b3,0,none⟩) 42 42):=t3;replace K:=jH K.out.drew;replace CA:=jH (CA.out.Ac (jan _ _).drew);refine wp_region_held_drew (S:=(λw':World=>w'.cell? ⟨S,0,none⟩=some (.slice (some ⟨b0,0,none⟩) 74 74)/\w'.cell? ⟨S,1,none⟩=some (.slice (some ⟨b1,0,none⟩) 10 10)/\w'.cell? ⟨S,2,none⟩=some (.slice (some ⟨b2,0,none⟩) 11 11)/\w'.cell? ⟨S,3,none⟩=some (.slice (some ⟨b3,0,none⟩) 42 42))) jK ?_ (λhHeld=>?_)
  ·exact ⟨t0,t1,t2,t3⟩
  generalize hwd:(World.drew (w3.alloc (.cells #[.int .i64 v,.string NM,.bool k,.string X,.string Y,.int .i64 z,.bool e8,.bool d8] 27)))=d4 at t0 t1 t2 t3 CA K hHeld ⊢;clear hwd;refine Ay 0 27 (v:=?_) rfl rfl jK jK jK (λ_ _ _ h=>h) (Or.inl ⟨by rfl,?_⟩) jA ?_;rotate_left
  ·intro w hSw
   (try dsimp only at hSw)
   go_simp
   first | done | with_reducible rfl
  simp only [Act.put,jad,jae,jaf];refine Ay 1 28 (v:=?_) rfl rfl jK jK jK (λ_ _ _ h=>h) (Or.inl ⟨by rfl,?_⟩) jA ?_;rotate_left
  ·intro w hSw
   (try dsimp only at hSw)
   go_simp
   first | done | with_reducible rfl
  simp only [Act.put,jad,jae,jaf];refine wpAnyH_ready (rs:=[2,7]) jK jS ?_;refine AllReadyH.cons (o:={ dst:=some 29,op:=.call { callee:=.value (.func 13),args:=#[.tmp 28],argTypes:=#[9] },type:=_,pos := "law.go:90", after:=_,guard:=none }) rfl (λK_ hK=>?_) (AllReadyH.cons (o:={ dst:=some 7,op:=.alloc 27,type:=_,pos := "law.go:90", after:=_,guard:=none }) rfl (λK_ hK=>?_) AllReadyH.nil)
  ·skip
   (try go_simp)
   go_at_call 13;refine (KT.out _).mono ?_;rintro e w5 ⟨rfl,hb⟩;replace t0:=Kc hb t0;replace t1:=Kc hb t1;replace t2:=Kc hb t2;replace t3:=Kc hb t3;replace CA:=jH (CA.out.Ac hb);replace K:=jH (K.out.next hb);clear hb;go_wp2_with fail;clear hHeld;refine hK.out _ _ ?_ (λhHeld=>?_)
   ·exact ⟨t0,t1,t2,t3⟩
   clear hK K_;refine wpAnyH_ready (rs:=[3,7]) jK jS ?_;refine AllReadyH.cons (o:={ dst:=some 30,op:=.call { callee:=.value (.func 12),args:=#[.tmp 27,.tmp 29],argTypes:=#[35,9] },type:=_,pos := "law.go:90", after:=_,guard:=none }) rfl (λK_ hK=>?_) (AllReadyH.cons (o:={ dst:=some 7,op:=.alloc 27,type:=_,pos := "law.go:90", after:=_,guard:=none }) rfl (λK_ hK=>?_) AllReadyH.nil)
   ·skip
    (try go_simp)
    go_at_call 12;refine (KQ.out _ _ K.out.table).mono ?_;rintro e w6 ⟨rfl,hb⟩;replace t0:=Kc hb t0;replace t1:=Kc hb t1;replace t2:=Kc hb t2;replace t3:=Kc hb t3;replace CA:=jH (CA.out.Ac hb);replace K:=jH (K.out.next hb);clear hb;go_wp2_with fail;clear hHeld;refine hK.out _ _ ?_ (λhHeld=>?_)
    ·exact ⟨t0,t1,t2,t3⟩
    clear hK K_;refine Ay 4 26 (v:=?_) rfl rfl jK jK jK (λ_ _ _ h=>h) (Or.inl ⟨by rfl,?_⟩) jA ?_;rotate_left
    ·intro w hSw
     (try dsimp only at hSw)
     go_simp
     first | done | with_reducible rfl
    simp only [Act.put,jad,jae,jaf];refine Ay 5 31 (v:=?_) rfl rfl jK jK jK (λ_ _ _ h=>h) (Or.inl ⟨by rfl,?_⟩) jA ?_;rotate_left
    ·intro w hSw
     (try dsimp only at hSw)
     go_simp
     first | done | with_reducible rfl
    simp only [Act.put,jad,jae,jaf];refine Ay 6 32 (v:=?_) rfl rfl jK jK jK (λ_ _ _ h=>h) (Or.inl ⟨by rfl,?_⟩) jA ?_;rotate_left
    ·intro w hSw
     (try dsimp only at hSw)
     go_simp
     first | done | with_reducible rfl
    simp only [Act.put,jad,jae,jaf];refine wpAnyH_ready (rs:=[7]) jK jS ?_;refine AllReadyH.cons (o:={ dst:=some 7,op:=.alloc 27,type:=_,pos := "law.go:90", after:=_,guard:=none }) rfl (λK_ hK=>?_) AllReadyH.nil
    (try go_simp)
    go_wp2_with fail;obtain ⟨D,hD⟩:∃ N,w6.heap.size=N:=⟨_,rfl⟩
    have ltDS:S<D:=by have h_:=jam _ _ t0;simp only [hD] at h_;exact h_
    have ltDA:A<D:=by have h_:=CA.out.lt;simp only [hD] at h_;exact h_
    have YD:=K;have hb:=Ab w6 (.cells #[.int .i64 0,.string ⟨#[]⟩,.bool false,.string ⟨#[]⟩,.string ⟨#[]⟩,.int .i64 0,.bool false,.bool false] 27);replace t0:=Kc hb t0;replace t1:=Kc hb t1;replace t2:=Kc hb t2;replace t3:=Kc hb t3;replace CA:=jH (CA.out.Ac hb);replace K:=jH (K.out.next hb);have ZD:=jH hb;clear hb;have CD:=jH (show Ai D 0 ⟨#[]⟩ false ⟨#[]⟩ ⟨#[]⟩ 0 false false (w6.alloc (.cells #[.int .i64 0,.string ⟨#[]⟩,.bool false,.string ⟨#[]⟩,.string ⟨#[]⟩,.int .i64 0,.bool false,.bool false] 27)) from hD ▸ Ai.new w6 0 ⟨#[]⟩ false ⟨#[]⟩ ⟨#[]⟩ 0 false false);clear hHeld;refine hK.out _ _ ?_ (λhHeld=>?_)
    ·exact ⟨t0,t1,t2,t3⟩
    clear hK K_;refine wpAnyH_ready (rs:=[8]) jK jS ?_;refine AllReadyH.cons (o:={ dst:=none,op:=.store 27 (.tmp 7) (.tmp 31),type:=_,pos := "law.go:90", after:=_,guard:=none }) rfl (λK_ hK=>?_) AllReadyH.nil
    obtain ⟨a0,a1,a2,a3,a4,a5,a6,a7⟩:=CD.out.all;have f0:=CD.out.fr 0;have f1:=CD.out.fr 1;have f2:=CD.out.fr 2;have f3:=CD.out.fr 3;have f4:=CD.out.fr 4;have f5:=CD.out.fr 5;have f6:=CD.out.fr 6;have f7:=CD.out.fr 7
    (try go_simp)
    go_wp2_with fail;clear a0 a1 a2 a3 a4 a5 a6 a7 f0 f1 f2 f3 f4 f5 f6 f7;have hb:=Ab w6 (.cells #[.int .i64 v,.string NL,.bool k,.string XL,.string YL,.int .i64 z,.bool e8,.bool d8] 27);have hb0:=Ab w6 (.cells #[.int .i64 0,.string ⟨#[]⟩,.bool false,.string ⟨#[]⟩,.string ⟨#[]⟩,.int .i64 0,.bool false,.bool false] 27);replace t0:=(hb.cell (p:=⟨S,0,none⟩) (show S<w6.heap.size by rw [hD];exact ltDS)).trans (((hb0.cell (p:=⟨S,0,none⟩) (show S<w6.heap.size by rw [hD];exact ltDS)).symm).trans t0);replace t1:=(hb.cell (p:=⟨S,1,none⟩) (show S<w6.heap.size by rw [hD];exact ltDS)).trans (((hb0.cell (p:=⟨S,1,none⟩) (show S<w6.heap.size by rw [hD];exact ltDS)).symm).trans t1);replace t2:=(hb.cell (p:=⟨S,2,none⟩) (show S<w6.heap.size by rw [hD];exact ltDS)).trans (((hb0.cell (p:=⟨S,2,none⟩) (show S<w6.heap.size by rw [hD];exact ltDS)).symm).trans t2);replace t3:=(hb.cell (p:=⟨S,3,none⟩) (show S<w6.heap.size by rw [hD];exact ltDS)).trans (((hb0.cell (p:=⟨S,3,none⟩) (show S<w6.heap.size by rw [hD];exact ltDS)).symm).trans t3);replace CA:=jH (show Ai _ _ _ _ _ _ _ _ _ _ from ⟨(hb.block A (by rw [hD];exact ltDA)).trans ((hb0.block A (by rw [hD];exact ltDA)).symm.trans CA.out.blk)⟩);replace CD:=jH (show Ai D v NL k XL YL z e8 d8 (w6.alloc (.cells #[.int .i64 v,.string NL,.bool k,.string XL,.string YL,.int .i64 z,.bool e8,.bool d8] 27)) from hD ▸ Ai.new w6 v NL k XL YL z e8 d8);replace K:=jH (YD.out.next hb);clear hb hb0 ZD;clear hHeld;refine hK.out _ _ ?_ (λhHeld=>?_)
    ·exact ⟨t0,t1,t2,t3⟩
    clear hK K_;refine Ay 9 8 (v:=?_) rfl rfl jK jK jK (λ_ _ _ h=>h) (Or.inl ⟨by rfl,?_⟩) jA ?_;rotate_left
    ·intro w hSw
     (try dsimp only at hSw)
     go_simp
     first | done | with_reducible rfl
    simp only [Act.put,jad,jae,jaf];refine wpAnyH_done jK ?_ _;go_wp2_with fail;go_meet;exact ⟨D,rfl,rfl,jH ⟨K.out,CA.out,CD.out⟩⟩
   ·skip
    (try go_simp)
    go_wp2_with fail;obtain ⟨D,hD⟩:∃ N,w5.heap.size=N:=⟨_,rfl⟩
    have ltDS:S<D:=by have h_:=jam _ _ t0;simp only [hD] at h_;exact h_
    have ltDA:A<D:=by have h_:=CA.out.lt;simp only [hD] at h_;exact h_
    have YD:=K;have hb:=Ab w5 (.cells #[.int .i64 0,.string ⟨#[]⟩,.bool false,.string ⟨#[]⟩,.string ⟨#[]⟩,.int .i64 0,.bool false,.bool false] 27);replace t0:=Kc hb t0;replace t1:=Kc hb t1;replace t2:=Kc hb t2;replace t3:=Kc hb t3;replace CA:=jH (CA.out.Ac hb);replace K:=jH (K.out.next hb);have ZD:=jH hb;clear hb;have CD:=jH (show Ai D 0 ⟨#[]⟩ false ⟨#[]⟩ ⟨#[]⟩ 0 false false (w5.alloc (.cells #[.int .i64 0,.string ⟨#[]⟩,.bool false,.string ⟨#[]⟩,.string ⟨#[]⟩,.int .i64 0,.bool false,.bool false] 27)) from hD ▸ Ai.new w5 0 ⟨#[]⟩ false ⟨#[]⟩ ⟨#[]⟩ 0 false false);clear hHeld;refine hK.out _ _ ?_ (λhHeld=>?_)
    ·exact ⟨t0,t1,t2,t3⟩
    clear hK K_;refine wpAnyH_ready (rs:=[3]) jK jS ?_;refine AllReadyH.cons (o:={ dst:=some 30,op:=.call { callee:=.value (.func 12),args:=#[.tmp 27,.tmp 29],argTypes:=#[35,9] },type:=_,pos := "law.go:90", after:=_,guard:=none }) rfl (λK_ hK=>?_) AllReadyH.nil
    (try go_simp)
    go_at_call 12;refine (KQ.out _ _ K.out.table).mono ?_;rintro e w6 ⟨rfl,hb⟩;replace t0:=Kc hb t0;replace t1:=Kc hb t1;replace t2:=Kc hb t2;replace t3:=Kc hb t3;replace CA:=jH (CA.out.Ac hb);replace CD:=jH (CD.out.Ac hb);replace ZD:=jH (Aa ZD.out hb);replace K:=jH (K.out.next hb);clear hb;go_wp2_with fail;clear hHeld;refine hK.out _ _ ?_ (λhHeld=>?_)
    ·exact ⟨t0,t1,t2,t3⟩
    clear hK K_;refine Ay 4 26 (v:=?_) rfl rfl jK jK jK (λ_ _ _ h=>h) (Or.inl ⟨by rfl,?_⟩) jA ?_;rotate_left
    ·intro w hSw
     (try dsimp only at hSw)
     go_simp
     first | done | with_reducible rfl
    simp only [Act.put,jad,jae,jaf];refine Ay 5 31 (v:=?_) rfl rfl jK jK jK (λ_ _ _ h=>h) (Or.inl ⟨by rfl,?_⟩) jA ?_;rotate_left
    ·intro w hSw
     (try dsimp only at hSw)
     go_simp
     first | done | with_reducible rfl
    simp only [Act.put,jad,jae,jaf];refine Ay 6 32 (v:=?_) rfl rfl jK jK jK (λ_ _ _ h=>h) (Or.inl ⟨by rfl,?_⟩) jA ?_;rotate_left
    ·intro w hSw
     (try dsimp only at hSw)
     go_simp
     first | done | with_reducible rfl
    simp only [Act.put,jad,jae,jaf];refine wpAnyH_ready (rs:=[8]) jK jS ?_;refine AllReadyH.cons (o:={ dst:=none,op:=.store 27 (.tmp 7) (.tmp 31),type:=_,pos := "law.go:90", after:=_,guard:=none }) rfl (λK_ hK=>?_) AllReadyH.nil
    obtain ⟨a0,a1,a2,a3,a4,a5,a6,a7⟩:=CD.out.all;have f0:=CD.out.fr 0;have f1:=CD.out.fr 1;have f2:=CD.out.fr 2;have f3:=CD.out.fr 3;have f4:=CD.out.fr 4;have f5:=CD.out.fr 5;have f6:=CD.out.fr 6;have f7:=CD.out.fr 7
    (try go_simp)
    go_wp2_with fail;clear a0 a1 a2 a3 a4 a5 a6 a7 f0 f1 f2 f3 f4 f5 f6 f7;have hs:=Hg (jan D w6) (jaa D) (.int .i64 v) (.string NL) (.bool k) (.string XL) (.string YL) (.int .i64 z) (.bool e8) (.bool d8);replace t0:=(hs.cell (p:=⟨S,0,none⟩) ltDS).trans t0;replace t1:=(hs.cell (p:=⟨S,1,none⟩) ltDS).trans t1;replace t2:=(hs.cell (p:=⟨S,2,none⟩) ltDS).trans t2;replace t3:=(hs.cell (p:=⟨S,3,none⟩) ltDS).trans t3;replace CA:=jH (CA.out.apart hs ltDA);clear hs;replace CD:=jH (CD.out.put v NL k XL YL z e8 d8);replace ZD:=jH (Hg ZD.out (show _<=D by omega) (.int .i64 v) (.string NL) (.bool k) (.string XL) (.string YL) (.int .i64 z) (.bool e8) (.bool d8));replace K:=jH (YD.out.next ZD.out);clear ZD;clear hHeld;refine hK.out _ _ ?_ (λhHeld=>?_)
    ·exact ⟨t0,t1,t2,t3⟩
    clear hK K_;refine Ay 9 8 (v:=?_) rfl rfl jK jK jK (λ_ _ _ h=>h) (Or.inl ⟨by rfl,?_⟩) jA ?_;rotate_left
    ·intro w hSw
     (try dsimp only at hSw)
     go_simp
     first | done | with_reducible rfl
    simp only [Act.put,jad,jae,jaf];refine wpAnyH_done jK ?_ _;go_wp2_with fail;go_meet;exact ⟨D,rfl,rfl,jH ⟨K.out,CA.out,CD.out⟩⟩
  ·skip
   (try go_simp)
   go_wp2_with fail;obtain ⟨D,hD⟩:∃ N,d4.heap.size=N:=⟨_,rfl⟩
   have ltDS:S<D:=by have h_:=jam _ _ t0;simp only [hD] at h_;exact h_
   have ltDA:A<D:=by have h_:=CA.out.lt;simp only [hD] at h_;exact h_
   have YD:=K;have hb:=Ab d4 (.cells #[.int .i64 0,.string ⟨#[]⟩,.bool false,.string ⟨#[]⟩,.string ⟨#[]⟩,.int .i64 0,.bool false,.bool false] 27);replace t0:=Kc hb t0;replace t1:=Kc hb t1;replace t2:=Kc hb t2;replace t3:=Kc hb t3;replace CA:=jH (CA.out.Ac hb);replace K:=jH (K.out.next hb);have ZD:=jH hb;clear hb;have CD:=jH (show Ai D 0 ⟨#[]⟩ false ⟨#[]⟩ ⟨#[]⟩ 0 false false (d4.alloc (.cells #[.int .i64 0,.string ⟨#[]⟩,.bool false,.string ⟨#[]⟩,.string ⟨#[]⟩,.int .i64 0,.bool false,.bool false] 27)) from hD ▸ Ai.new d4 0 ⟨#[]⟩ false ⟨#[]⟩ ⟨#[]⟩ 0 false false);clear hHeld;refine hK.out _ _ ?_ (λhHeld=>?_)
   ·exact ⟨t0,t1,t2,t3⟩
   clear hK K_;refine wpAnyH_ready (rs:=[2]) jK jS ?_;refine AllReadyH.cons (o:={ dst:=some 29,op:=.call { callee:=.value (.func 13),args:=#[.tmp 28],argTypes:=#[9] },type:=_,pos := "law.go:90", after:=_,guard:=none }) rfl (λK_ hK=>?_) AllReadyH.nil
   (try go_simp)
   go_at_call 13;refine (KT.out _).mono ?_;rintro e w5 ⟨rfl,hb⟩;replace t0:=Kc hb t0;replace t1:=Kc hb t1;replace t2:=Kc hb t2;replace t3:=Kc hb t3;replace CA:=jH (CA.out.Ac hb);replace CD:=jH (CD.out.Ac hb);replace ZD:=jH (Aa ZD.out hb);replace K:=jH (K.out.next hb);clear hb;go_wp2_with fail;clear hHeld;refine hK.out _ _ ?_ (λhHeld=>?_)
   ·exact ⟨t0,t1,t2,t3⟩
   clear hK K_;refine wpAnyH_ready (rs:=[3]) jK jS ?_;refine AllReadyH.cons (o:={ dst:=some 30,op:=.call { callee:=.value (.func 12),args:=#[.tmp 27,.tmp 29],argTypes:=#[35,9] },type:=_,pos := "law.go:90", after:=_,guard:=none }) rfl (λK_ hK=>?_) AllReadyH.nil
   (try go_simp)
   go_at_call 12;refine (KQ.out _ _ K.out.table).mono ?_;rintro e w6 ⟨rfl,hb⟩;replace t0:=Kc hb t0;replace t1:=Kc hb t1;replace t2:=Kc hb t2;replace t3:=Kc hb t3;replace CA:=jH (CA.out.Ac hb);replace CD:=jH (CD.out.Ac hb);replace ZD:=jH (Aa ZD.out hb);replace K:=jH (K.out.next hb);clear hb;go_wp2_with fail;clear hHeld;refine hK.out _ _ ?_ (λhHeld=>?_)
   ·exact ⟨t0,t1,t2,t3⟩
   clear hK K_;refine Ay 4 26 (v:=?_) rfl rfl jK jK jK (λ_ _ _ h=>h) (Or.inl ⟨by rfl,?_⟩) jA ?_;rotate_left
   ·intro w hSw
    (try dsimp only at hSw)
    go_simp
    first | done | with_reducible rfl
   simp only [Act.put,jad,jae,jaf];refine Ay 5 31 (v:=?_) rfl rfl jK jK jK (λ_ _ _ h=>h) (Or.inl ⟨by rfl,?_⟩) jA ?_;rotate_left
   ·intro w hSw
    (try dsimp only at hSw)
    go_simp
    first | done | with_reducible rfl
   simp only [Act.put,jad,jae,jaf];refine Ay 6 32 (v:=?_) rfl rfl jK jK jK (λ_ _ _ h=>h) (Or.inl ⟨by rfl,?_⟩) jA ?_;rotate_left
   ·intro w hSw
    (try dsimp only at hSw)
    go_simp
    first | done | with_reducible rfl
   simp only [Act.put,jad,jae,jaf];refine wpAnyH_ready (rs:=[8]) jK jS ?_;refine AllReadyH.cons (o:={ dst:=none,op:=.store 27 (.tmp 7) (.tmp 31),type:=_,pos := "law.go:90", after:=_,guard:=none }) rfl (λK_ hK=>?_) AllReadyH.nil
   obtain ⟨a0,a1,a2,a3,a4,a5,a6,a7⟩:=CD.out.all;have f0:=CD.out.fr 0;have f1:=CD.out.fr 1;have f2:=CD.out.fr 2;have f3:=CD.out.fr 3;have f4:=CD.out.fr 4;have f5:=CD.out.fr 5;have f6:=CD.out.fr 6;have f7:=CD.out.fr 7
   (try go_simp)
   go_wp2_with fail;clear a0 a1 a2 a3 a4 a5 a6 a7 f0 f1 f2 f3 f4 f5 f6 f7;have hs:=Hg (jan D w6) (jaa D) (.int .i64 v) (.string NL) (.bool k) (.string XL) (.string YL) (.int .i64 z) (.bool e8) (.bool d8);replace t0:=(hs.cell (p:=⟨S,0,none⟩) ltDS).trans t0;replace t1:=(hs.cell (p:=⟨S,1,none⟩) ltDS).trans t1;replace t2:=(hs.cell (p:=⟨S,2,none⟩) ltDS).trans t2;replace t3:=(hs.cell (p:=⟨S,3,none⟩) ltDS).trans t3;replace CA:=jH (CA.out.apart hs ltDA);clear hs;replace CD:=jH (CD.out.put v NL k XL YL z e8 d8);replace ZD:=jH (Hg ZD.out (show _<=D by omega) (.int .i64 v) (.string NL) (.bool k) (.string XL) (.string YL) (.int .i64 z) (.bool e8) (.bool d8));replace K:=jH (YD.out.next ZD.out);clear ZD;clear hHeld;refine hK.out _ _ ?_ (λhHeld=>?_)
   ·exact ⟨t0,t1,t2,t3⟩
   clear hK K_;refine Ay 9 8 (v:=?_) rfl rfl jK jK jK (λ_ _ _ h=>h) (Or.inl ⟨by rfl,?_⟩) jA ?_;rotate_left
   ·intro w hSw
    (try dsimp only at hSw)
    go_simp
    first | done | with_reducible rfl
   simp only [Act.put,jad,jae,jaf];refine wpAnyH_done jK ?_ _;go_wp2_with fail;go_meet;exact ⟨D,rfl,rfl,jH ⟨K.out,CA.out,CD.out⟩⟩
 case rest =>
  obtain ⟨D,rfl,rfl,HX⟩:=hcut;clear t0 t1 t2 t3 K CA;have K:=jH HX.out.1;have CA:=jH HX.out.2.1;have CD:=jH HX.out.2.2;clear HX;obtain ⟨-,t0,t1,t2,t3⟩:=K.out.held;clear t0 t1 t2 t3 KT KQ KP;obtain ⟨a0,a1,a2,a3,a4,a5,a6,a7⟩:=CA.out.all;obtain ⟨d0,d1,d2,d3,d4,d5,d6,d7⟩:=CD.out.all;go_wp2;go_region_held3 (λw'=>w'.cell? ⟨A,0,none⟩=some (.int .i64 v)/\w'.cell? ⟨A,1,none⟩=some (.string NM)/\w'.cell? ⟨A,2,none⟩=some (.bool k)/\w'.cell? ⟨A,3,none⟩=some (.string X)/\w'.cell? ⟨A,4,none⟩=some (.string Y)/\w'.cell? ⟨A,5,none⟩=some (.int .i64 z)/\w'.cell? ⟨A,6,none⟩=some (.bool e8)/\w'.cell? ⟨A,7,none⟩=some (.bool d8)/\w'.cell? ⟨D,0,none⟩=some (.int .i64 v)/\w'.cell? ⟨D,1,none⟩=some (.string NL)/\w'.cell? ⟨D,2,none⟩=some (.bool k)/\w'.cell? ⟨D,3,none⟩=some (.string XL)/\w'.cell? ⟨D,4,none⟩=some (.string YL)/\w'.cell? ⟨D,5,none⟩=some (.int .i64 z)/\w'.cell? ⟨D,6,none⟩=some (.bool e8)/\w'.cell? ⟨D,7,none⟩=some (.bool d8)) (go_keep) ((go_at_call 13;(with_reducible refine (KN.out _).mono ?_);rintro e w5 ⟨rfl,hb5⟩;have hB5:=Ag hb5;have CA5:=jH (CA.out.Ac hB5);have CD5:=jH (CD.out.Ac hB5);have K5:=jH (K.out.next hB5);obtain ⟨a0',a1',a2',a3',a4',a5',a6',a7'⟩:=CA5.out.all;obtain ⟨d0',d1',d2',d3',d4',d5',d6',d7'⟩:=CD5.out.all;clear hb5 hB5))
  go_wp2;go_ret;exact ⟨by simp,K5.out.below⟩
