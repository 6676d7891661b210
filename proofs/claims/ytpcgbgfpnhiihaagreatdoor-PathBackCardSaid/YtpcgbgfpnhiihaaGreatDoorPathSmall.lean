import Derived.Test.YtpcgbgfpnhiihaaGreatDoorPathB
namespace Go.Proofs.YtpcgbgfpnhiihaaGreatDoor
open Go.RowKit Utf
theorem Kc {w w':World} (h:Below w.heap.size w w') {p:Addr} {v:Value} (t:w.cell? p=some v):w'.cell? p=some v:=(h.cell (World.block_lt_of_cell? _ _ t)).trans t
theorem Aws:Pth.Dv (⟨#[60,62]⟩:ByteArray).data.toList=(0,true,[],[]):=by kernel_rfl
theorem Awt:Pth.Dv (⟨#[60,80,111,115,116,77,97,115,116,101,114,62]⟩:ByteArray).data.toList=(0,false,[80,111,115,116,77,97,115,116,101,114],[]):=by kernel_rfl
theorem Awu:Pth.Dv (⟨#[60,97,64,98,62]⟩:ByteArray).data.toList=(0,false,[97],[98]):=by kernel_rfl
theorem Awv:Pth.Dv (⟨#[60,97,64,98,32,62]⟩:ByteArray).data.toList=(4,false,[],[]):=by kernel_rfl
theorem Aww:Pth.Dv (⟨#[97,64,98]⟩:ByteArray).data.toList=(4,false,[],[]):=by kernel_rfl
theorem Awx:Pth.Dv (⟨#[60,97,62]⟩:ByteArray).data.toList=(4,false,[],[]):=by kernel_rfl
set_option maxHeartbeats 16000000 in
set_option maxRecDepth 100000 in
theorem Hn (w:World):Calls Tryz.prog 25 #[] w λe w'=>e=.returned (.bool true)/\Below w.heap.size w w':=by
 have BB:=jH (Below.refl w.heap.size w)
 go_enter Tryz.func25,Tryz.ntmps25
 go_wp2_with fail
 refine (Ade _).mono ?_
 rintro e w1 ⟨tt,rfl,hT,hb⟩
 obtain ⟨b0,b1,b2,b3,rfl,-,-,-,-⟩:=id hT
 replace BB:=jH (Aa BB.out hb)
 have K:=jH (Wx (b0:=b0) (b1:=b1) (b2:=b2) (b3:=b3) BB.out hT 31)
 clear hT hb BB
 obtain ⟨S,hS⟩:∃ N,w1.heap.size=N:=⟨_,rfl⟩
 rw [hS] at K
 have hb:=Ab w1 (.cells #[.slice (some ⟨b0,0,none⟩) 74 74,.slice (some ⟨b1,0,none⟩) 10 10,.slice (some ⟨b2,0,none⟩) 11 11,.slice (some ⟨b3,0,none⟩) 42 42] 31)
 clear hb
 obtain ⟨-,t0,t1,t2,t3⟩:=K.out.held
 go_wp2_with fail
 refine (Ea (.agg #[.slice (some ⟨b0,0,none⟩) 74 74,.slice (some ⟨b1,0,none⟩) 10 10,.slice (some ⟨b2,0,none⟩) 11 11,.slice (some ⟨b3,0,none⟩) 42 42]) ⟨#[60,62]⟩ _ K.out.table (by decide) Aws).mono ?_
 rintro e w2 ⟨rfl,hb⟩
 replace t0:=Kc hb t0
 replace t1:=Kc hb t1
 replace t2:=Kc hb t2
 replace t3:=Kc hb t3
 replace K:=jH (K.out.next hb)
 clear hb
 obtain ⟨Na,hNa⟩:∃ N,w2.heap.size=N:=⟨_,rfl⟩
 have ltNaS:S<Na:=by have h_:=World.block_lt_of_cell? _ _ t0;simp only [hNa] at h_;exact h_
 have hb:=Ab w2 (.cells #[.bool true,.string ⟨#[]⟩,.string ⟨#[]⟩] 53)
 replace t0:=Kc hb t0
 replace t1:=Kc hb t1
 replace t2:=Kc hb t2
 replace t3:=Kc hb t3
 replace K:=jH (K.out.next hb)
 clear hb
 have CNa:=jH (show PAt Na true ⟨#[]⟩ ⟨#[]⟩ (w2.alloc (.cells #[.bool true,.string ⟨#[]⟩,.string ⟨#[]⟩] 53)) from hNa ▸ PAt.new w2 true ⟨#[]⟩ ⟨#[]⟩)
 obtain ⟨a0_,a1_,a2_⟩:=CNa.out.all
 go_wp2_with fail
 refine (Ea (.agg #[.slice (some ⟨b0,0,none⟩) 74 74,.slice (some ⟨b1,0,none⟩) 10 10,.slice (some ⟨b2,0,none⟩) 11 11,.slice (some ⟨b3,0,none⟩) 42 42]) ⟨#[60,80,111,115,116,77,97,115,116,101,114,62]⟩ _ K.out.table (by decide) Awt).mono ?_
 rintro e w3 ⟨rfl,hb⟩
 replace t0:=Kc hb t0
 replace t1:=Kc hb t1
 replace t2:=Kc hb t2
 replace t3:=Kc hb t3
 replace a0_:=(hb.cell (p:=⟨Na,0,none⟩) (World.block_lt_of_cell? _ _ a0_)).trans a0_
 replace a1_:=(hb.cell (p:=⟨Na,1,none⟩) (World.block_lt_of_cell? _ _ a1_)).trans a1_
 replace a2_:=(hb.cell (p:=⟨Na,2,none⟩) (World.block_lt_of_cell? _ _ a2_)).trans a2_
 replace CNa:=jH (CNa.out.Ac hb)
 replace K:=jH (K.out.next hb)
 clear hb
 obtain ⟨Nb,hNb⟩:∃ N,w3.heap.size=N:=⟨_,rfl⟩
 have ltNbS:S<Nb:=by have h_:=World.block_lt_of_cell? _ _ t0;simp only [hNb] at h_;exact h_
 have ltNbNa:Na<Nb:=by have h_:=World.block_lt_of_cell? _ _ a0_;simp only [hNb] at h_;exact h_
 have hb:=Ab w3 (.cells #[.bool false,.string ⟨#[80,111,115,116,77,97,115,116,101,114]⟩,.string ⟨#[]⟩] 53)
 replace t0:=Kc hb t0
 replace t1:=Kc hb t1
 replace t2:=Kc hb t2
 replace t3:=Kc hb t3
 replace a0_:=(hb.cell (p:=⟨Na,0,none⟩) (World.block_lt_of_cell? _ _ a0_)).trans a0_
 replace a1_:=(hb.cell (p:=⟨Na,1,none⟩) (World.block_lt_of_cell? _ _ a1_)).trans a1_
 replace a2_:=(hb.cell (p:=⟨Na,2,none⟩) (World.block_lt_of_cell? _ _ a2_)).trans a2_
 replace CNa:=jH (CNa.out.Ac hb)
 replace K:=jH (K.out.next hb)
 clear hb
 have CNb:=jH (show PAt Nb false ⟨#[80,111,115,116,77,97,115,116,101,114]⟩ ⟨#[]⟩ (w3.alloc (.cells #[.bool false,.string ⟨#[80,111,115,116,77,97,115,116,101,114]⟩,.string ⟨#[]⟩] 53)) from hNb ▸ PAt.new w3 false ⟨#[80,111,115,116,77,97,115,116,101,114]⟩ ⟨#[]⟩)
 obtain ⟨b0_,b1_,b2_⟩:=CNb.out.all
 go_wp2_with fail
 refine (Ea (.agg #[.slice (some ⟨b0,0,none⟩) 74 74,.slice (some ⟨b1,0,none⟩) 10 10,.slice (some ⟨b2,0,none⟩) 11 11,.slice (some ⟨b3,0,none⟩) 42 42]) ⟨#[60,97,64,98,62]⟩ _ K.out.table (by decide) Awu).mono ?_
 rintro e w4 ⟨rfl,hb⟩
 replace t0:=Kc hb t0
 replace t1:=Kc hb t1
 replace t2:=Kc hb t2
 replace t3:=Kc hb t3
 replace a0_:=(hb.cell (p:=⟨Na,0,none⟩) (World.block_lt_of_cell? _ _ a0_)).trans a0_
 replace a1_:=(hb.cell (p:=⟨Na,1,none⟩) (World.block_lt_of_cell? _ _ a1_)).trans a1_
 replace a2_:=(hb.cell (p:=⟨Na,2,none⟩) (World.block_lt_of_cell? _ _ a2_)).trans a2_
 replace b0_:=(hb.cell (p:=⟨Nb,0,none⟩) (World.block_lt_of_cell? _ _ b0_)).trans b0_
 replace b1_:=(hb.cell (p:=⟨Nb,1,none⟩) (World.block_lt_of_cell? _ _ b1_)).trans b1_
 replace b2_:=(hb.cell (p:=⟨Nb,2,none⟩) (World.block_lt_of_cell? _ _ b2_)).trans b2_
 replace CNa:=jH (CNa.out.Ac hb)
 replace CNb:=jH (CNb.out.Ac hb)
 replace K:=jH (K.out.next hb)
 clear hb
 obtain ⟨Nc,hNc⟩:∃ N,w4.heap.size=N:=⟨_,rfl⟩
 have ltNcS:S<Nc:=by have h_:=World.block_lt_of_cell? _ _ t0;simp only [hNc] at h_;exact h_
 have ltNcNa:Na<Nc:=by have h_:=World.block_lt_of_cell? _ _ a0_;simp only [hNc] at h_;exact h_
 have ltNcNb:Nb<Nc:=by have h_:=World.block_lt_of_cell? _ _ b0_;simp only [hNc] at h_;exact h_
 have hb:=Ab w4 (.cells #[.bool false,.string ⟨#[97]⟩,.string ⟨#[98]⟩] 53)
 replace t0:=Kc hb t0
 replace t1:=Kc hb t1
 replace t2:=Kc hb t2
 replace t3:=Kc hb t3
 replace a0_:=(hb.cell (p:=⟨Na,0,none⟩) (World.block_lt_of_cell? _ _ a0_)).trans a0_
 replace a1_:=(hb.cell (p:=⟨Na,1,none⟩) (World.block_lt_of_cell? _ _ a1_)).trans a1_
 replace a2_:=(hb.cell (p:=⟨Na,2,none⟩) (World.block_lt_of_cell? _ _ a2_)).trans a2_
 replace b0_:=(hb.cell (p:=⟨Nb,0,none⟩) (World.block_lt_of_cell? _ _ b0_)).trans b0_
 replace b1_:=(hb.cell (p:=⟨Nb,1,none⟩) (World.block_lt_of_cell? _ _ b1_)).trans b1_
 replace b2_:=(hb.cell (p:=⟨Nb,2,none⟩) (World.block_lt_of_cell? _ _ b2_)).trans b2_
 replace CNa:=jH (CNa.out.Ac hb)
 replace CNb:=jH (CNb.out.Ac hb)
 replace K:=jH (K.out.next hb)
 clear hb
 have CNc:=jH (show PAt Nc false ⟨#[97]⟩ ⟨#[98]⟩ (w4.alloc (.cells #[.bool false,.string ⟨#[97]⟩,.string ⟨#[98]⟩] 53)) from hNc ▸ PAt.new w4 false ⟨#[97]⟩ ⟨#[98]⟩)
 obtain ⟨c0_,c1_,c2_⟩:=CNc.out.all
 go_wp2_with fail
 refine (Ea (.agg #[.slice (some ⟨b0,0,none⟩) 74 74,.slice (some ⟨b1,0,none⟩) 10 10,.slice (some ⟨b2,0,none⟩) 11 11,.slice (some ⟨b3,0,none⟩) 42 42]) ⟨#[60,97,64,98,32,62]⟩ _ K.out.table (by decide) Awv).mono ?_
 rintro e w5 ⟨rfl,hb⟩
 replace t0:=Kc hb t0
 replace t1:=Kc hb t1
 replace t2:=Kc hb t2
 replace t3:=Kc hb t3
 replace a0_:=(hb.cell (p:=⟨Na,0,none⟩) (World.block_lt_of_cell? _ _ a0_)).trans a0_
 replace a1_:=(hb.cell (p:=⟨Na,1,none⟩) (World.block_lt_of_cell? _ _ a1_)).trans a1_
 replace a2_:=(hb.cell (p:=⟨Na,2,none⟩) (World.block_lt_of_cell? _ _ a2_)).trans a2_
 replace b0_:=(hb.cell (p:=⟨Nb,0,none⟩) (World.block_lt_of_cell? _ _ b0_)).trans b0_
 replace b1_:=(hb.cell (p:=⟨Nb,1,none⟩) (World.block_lt_of_cell? _ _ b1_)).trans b1_
 replace b2_:=(hb.cell (p:=⟨Nb,2,none⟩) (World.block_lt_of_cell? _ _ b2_)).trans b2_
 replace c0_:=(hb.cell (p:=⟨Nc,0,none⟩) (World.block_lt_of_cell? _ _ c0_)).trans c0_
 replace c1_:=(hb.cell (p:=⟨Nc,1,none⟩) (World.block_lt_of_cell? _ _ c1_)).trans c1_
 replace c2_:=(hb.cell (p:=⟨Nc,2,none⟩) (World.block_lt_of_cell? _ _ c2_)).trans c2_
 replace CNa:=jH (CNa.out.Ac hb)
 replace CNb:=jH (CNb.out.Ac hb)
 replace CNc:=jH (CNc.out.Ac hb)
 replace K:=jH (K.out.next hb)
 clear hb
 obtain ⟨Nd,hNd⟩:∃ N,w5.heap.size=N:=⟨_,rfl⟩
 have ltNdS:S<Nd:=by have h_:=World.block_lt_of_cell? _ _ t0;simp only [hNd] at h_;exact h_
 have ltNdNa:Na<Nd:=by have h_:=World.block_lt_of_cell? _ _ a0_;simp only [hNd] at h_;exact h_
 have ltNdNb:Nb<Nd:=by have h_:=World.block_lt_of_cell? _ _ b0_;simp only [hNd] at h_;exact h_
 have ltNdNc:Nc<Nd:=by have h_:=World.block_lt_of_cell? _ _ c0_;simp only [hNd] at h_;exact h_
 have hb:=Ab w5 (.cells #[.bool false,.string ⟨#[]⟩,.string ⟨#[]⟩] 53)
 replace t0:=Kc hb t0
 replace t1:=Kc hb t1
 replace t2:=Kc hb t2
 replace t3:=Kc hb t3
 replace a0_:=(hb.cell (p:=⟨Na,0,none⟩) (World.block_lt_of_cell? _ _ a0_)).trans a0_
 replace a1_:=(hb.cell (p:=⟨Na,1,none⟩) (World.block_lt_of_cell? _ _ a1_)).trans a1_
 replace a2_:=(hb.cell (p:=⟨Na,2,none⟩) (World.block_lt_of_cell? _ _ a2_)).trans a2_
 replace b0_:=(hb.cell (p:=⟨Nb,0,none⟩) (World.block_lt_of_cell? _ _ b0_)).trans b0_
 replace b1_:=(hb.cell (p:=⟨Nb,1,none⟩) (World.block_lt_of_cell? _ _ b1_)).trans b1_
 replace b2_:=(hb.cell (p:=⟨Nb,2,none⟩) (World.block_lt_of_cell? _ _ b2_)).trans b2_
 replace c0_:=(hb.cell (p:=⟨Nc,0,none⟩) (World.block_lt_of_cell? _ _ c0_)).trans c0_
 replace c1_:=(hb.cell (p:=⟨Nc,1,none⟩) (World.block_lt_of_cell? _ _ c1_)).trans c1_
 replace c2_:=(hb.cell (p:=⟨Nc,2,none⟩) (World.block_lt_of_cell? _ _ c2_)).trans c2_
 replace CNa:=jH (CNa.out.Ac hb)
 replace CNb:=jH (CNb.out.Ac hb)
 replace CNc:=jH (CNc.out.Ac hb)
 replace K:=jH (K.out.next hb)
 clear hb
 have CNd:=jH (show PAt Nd false ⟨#[]⟩ ⟨#[]⟩ (w5.alloc (.cells #[.bool false,.string ⟨#[]⟩,.string ⟨#[]⟩] 53)) from hNd ▸ PAt.new w5 false ⟨#[]⟩ ⟨#[]⟩)
 go_wp2_with fail
 refine (Ea (.agg #[.slice (some ⟨b0,0,none⟩) 74 74,.slice (some ⟨b1,0,none⟩) 10 10,.slice (some ⟨b2,0,none⟩) 11 11,.slice (some ⟨b3,0,none⟩) 42 42]) ⟨#[97,64,98]⟩ _ K.out.table (by decide) Aww).mono ?_
 rintro e w6 ⟨rfl,hb⟩
 replace t0:=Kc hb t0
 replace t1:=Kc hb t1
 replace t2:=Kc hb t2
 replace t3:=Kc hb t3
 replace a0_:=(hb.cell (p:=⟨Na,0,none⟩) (World.block_lt_of_cell? _ _ a0_)).trans a0_
 replace a1_:=(hb.cell (p:=⟨Na,1,none⟩) (World.block_lt_of_cell? _ _ a1_)).trans a1_
 replace a2_:=(hb.cell (p:=⟨Na,2,none⟩) (World.block_lt_of_cell? _ _ a2_)).trans a2_
 replace b0_:=(hb.cell (p:=⟨Nb,0,none⟩) (World.block_lt_of_cell? _ _ b0_)).trans b0_
 replace b1_:=(hb.cell (p:=⟨Nb,1,none⟩) (World.block_lt_of_cell? _ _ b1_)).trans b1_
 replace b2_:=(hb.cell (p:=⟨Nb,2,none⟩) (World.block_lt_of_cell? _ _ b2_)).trans b2_
 replace c0_:=(hb.cell (p:=⟨Nc,0,none⟩) (World.block_lt_of_cell? _ _ c0_)).trans c0_
 replace c1_:=(hb.cell (p:=⟨Nc,1,none⟩) (World.block_lt_of_cell? _ _ c1_)).trans c1_
 replace c2_:=(hb.cell (p:=⟨Nc,2,none⟩) (World.block_lt_of_cell? _ _ c2_)).trans c2_
 replace CNa:=jH (CNa.out.Ac hb)
 replace CNb:=jH (CNb.out.Ac hb)
 replace CNc:=jH (CNc.out.Ac hb)
 replace CNd:=jH (CNd.out.Ac hb)
 replace K:=jH (K.out.next hb)
 clear hb
 obtain ⟨Ne,hNe⟩:∃ N,w6.heap.size=N:=⟨_,rfl⟩
 have ltNeS:S<Ne:=by have h_:=World.block_lt_of_cell? _ _ t0;simp only [hNe] at h_;exact h_
 have ltNeNa:Na<Ne:=by have h_:=World.block_lt_of_cell? _ _ a0_;simp only [hNe] at h_;exact h_
 have ltNeNb:Nb<Ne:=by have h_:=World.block_lt_of_cell? _ _ b0_;simp only [hNe] at h_;exact h_
 have ltNeNc:Nc<Ne:=by have h_:=World.block_lt_of_cell? _ _ c0_;simp only [hNe] at h_;exact h_
 have hb:=Ab w6 (.cells #[.bool false,.string ⟨#[]⟩,.string ⟨#[]⟩] 53)
 replace t0:=Kc hb t0
 replace t1:=Kc hb t1
 replace t2:=Kc hb t2
 replace t3:=Kc hb t3
 replace a0_:=(hb.cell (p:=⟨Na,0,none⟩) (World.block_lt_of_cell? _ _ a0_)).trans a0_
 replace a1_:=(hb.cell (p:=⟨Na,1,none⟩) (World.block_lt_of_cell? _ _ a1_)).trans a1_
 replace a2_:=(hb.cell (p:=⟨Na,2,none⟩) (World.block_lt_of_cell? _ _ a2_)).trans a2_
 replace b0_:=(hb.cell (p:=⟨Nb,0,none⟩) (World.block_lt_of_cell? _ _ b0_)).trans b0_
 replace b1_:=(hb.cell (p:=⟨Nb,1,none⟩) (World.block_lt_of_cell? _ _ b1_)).trans b1_
 replace b2_:=(hb.cell (p:=⟨Nb,2,none⟩) (World.block_lt_of_cell? _ _ b2_)).trans b2_
 replace c0_:=(hb.cell (p:=⟨Nc,0,none⟩) (World.block_lt_of_cell? _ _ c0_)).trans c0_
 replace c1_:=(hb.cell (p:=⟨Nc,1,none⟩) (World.block_lt_of_cell? _ _ c1_)).trans c1_
 replace c2_:=(hb.cell (p:=⟨Nc,2,none⟩) (World.block_lt_of_cell? _ _ c2_)).trans c2_
 replace CNa:=jH (CNa.out.Ac hb)
 replace CNb:=jH (CNb.out.Ac hb)
 replace CNc:=jH (CNc.out.Ac hb)
 replace CNd:=jH (CNd.out.Ac hb)
 replace K:=jH (K.out.next hb)
 clear hb
 have CNe:=jH (show PAt Ne false ⟨#[]⟩ ⟨#[]⟩ (w6.alloc (.cells #[.bool false,.string ⟨#[]⟩,.string ⟨#[]⟩] 53)) from hNe ▸ PAt.new w6 false ⟨#[]⟩ ⟨#[]⟩)
 go_wp2_with fail
 refine (Ea (.agg #[.slice (some ⟨b0,0,none⟩) 74 74,.slice (some ⟨b1,0,none⟩) 10 10,.slice (some ⟨b2,0,none⟩) 11 11,.slice (some ⟨b3,0,none⟩) 42 42]) ⟨#[60,97,62]⟩ _ K.out.table (by decide) Awx).mono ?_
 rintro e w7 ⟨rfl,hb⟩
 replace t0:=Kc hb t0
 replace t1:=Kc hb t1
 replace t2:=Kc hb t2
 replace t3:=Kc hb t3
 replace a0_:=(hb.cell (p:=⟨Na,0,none⟩) (World.block_lt_of_cell? _ _ a0_)).trans a0_
 replace a1_:=(hb.cell (p:=⟨Na,1,none⟩) (World.block_lt_of_cell? _ _ a1_)).trans a1_
 replace a2_:=(hb.cell (p:=⟨Na,2,none⟩) (World.block_lt_of_cell? _ _ a2_)).trans a2_
 replace b0_:=(hb.cell (p:=⟨Nb,0,none⟩) (World.block_lt_of_cell? _ _ b0_)).trans b0_
 replace b1_:=(hb.cell (p:=⟨Nb,1,none⟩) (World.block_lt_of_cell? _ _ b1_)).trans b1_
 replace b2_:=(hb.cell (p:=⟨Nb,2,none⟩) (World.block_lt_of_cell? _ _ b2_)).trans b2_
 replace c0_:=(hb.cell (p:=⟨Nc,0,none⟩) (World.block_lt_of_cell? _ _ c0_)).trans c0_
 replace c1_:=(hb.cell (p:=⟨Nc,1,none⟩) (World.block_lt_of_cell? _ _ c1_)).trans c1_
 replace c2_:=(hb.cell (p:=⟨Nc,2,none⟩) (World.block_lt_of_cell? _ _ c2_)).trans c2_
 replace CNa:=jH (CNa.out.Ac hb)
 replace CNb:=jH (CNb.out.Ac hb)
 replace CNc:=jH (CNc.out.Ac hb)
 replace CNd:=jH (CNd.out.Ac hb)
 replace CNe:=jH (CNe.out.Ac hb)
 replace K:=jH (K.out.next hb)
 clear hb
 obtain ⟨Nf,hNf⟩:∃ N,w7.heap.size=N:=⟨_,rfl⟩
 have ltNfS:S<Nf:=by have h_:=World.block_lt_of_cell? _ _ t0;simp only [hNf] at h_;exact h_
 have ltNfNa:Na<Nf:=by have h_:=World.block_lt_of_cell? _ _ a0_;simp only [hNf] at h_;exact h_
 have ltNfNb:Nb<Nf:=by have h_:=World.block_lt_of_cell? _ _ b0_;simp only [hNf] at h_;exact h_
 have ltNfNc:Nc<Nf:=by have h_:=World.block_lt_of_cell? _ _ c0_;simp only [hNf] at h_;exact h_
 have hb:=Ab w7 (.cells #[.bool false,.string ⟨#[]⟩,.string ⟨#[]⟩] 53)
 replace t0:=Kc hb t0
 replace t1:=Kc hb t1
 replace t2:=Kc hb t2
 replace t3:=Kc hb t3
 replace a0_:=(hb.cell (p:=⟨Na,0,none⟩) (World.block_lt_of_cell? _ _ a0_)).trans a0_
 replace a1_:=(hb.cell (p:=⟨Na,1,none⟩) (World.block_lt_of_cell? _ _ a1_)).trans a1_
 replace a2_:=(hb.cell (p:=⟨Na,2,none⟩) (World.block_lt_of_cell? _ _ a2_)).trans a2_
 replace b0_:=(hb.cell (p:=⟨Nb,0,none⟩) (World.block_lt_of_cell? _ _ b0_)).trans b0_
 replace b1_:=(hb.cell (p:=⟨Nb,1,none⟩) (World.block_lt_of_cell? _ _ b1_)).trans b1_
 replace b2_:=(hb.cell (p:=⟨Nb,2,none⟩) (World.block_lt_of_cell? _ _ b2_)).trans b2_
 replace c0_:=(hb.cell (p:=⟨Nc,0,none⟩) (World.block_lt_of_cell? _ _ c0_)).trans c0_
 replace c1_:=(hb.cell (p:=⟨Nc,1,none⟩) (World.block_lt_of_cell? _ _ c1_)).trans c1_
 replace c2_:=(hb.cell (p:=⟨Nc,2,none⟩) (World.block_lt_of_cell? _ _ c2_)).trans c2_
 replace CNa:=jH (CNa.out.Ac hb)
 replace CNb:=jH (CNb.out.Ac hb)
 replace CNc:=jH (CNc.out.Ac hb)
 replace CNd:=jH (CNd.out.Ac hb)
 replace CNe:=jH (CNe.out.Ac hb)
 replace K:=jH (K.out.next hb)
 clear hb
 have CNf:=jH (show PAt Nf false ⟨#[]⟩ ⟨#[]⟩ (w7.alloc (.cells #[.bool false,.string ⟨#[]⟩,.string ⟨#[]⟩] 53)) from hNf ▸ PAt.new w7 false ⟨#[]⟩ ⟨#[]⟩)
 go_wp2_with fail
 refine (Lf true ⟨#[]⟩ ⟨#[]⟩ _ (by decide) (by decide) (z:=[60,62]) (by kernel_rfl)).mono ?_
 rintro e w8 ⟨rfl,hb⟩
 replace t0:=Kc hb t0
 replace t1:=Kc hb t1
 replace t2:=Kc hb t2
 replace t3:=Kc hb t3
 replace a0_:=(hb.cell (p:=⟨Na,0,none⟩) (World.block_lt_of_cell? _ _ a0_)).trans a0_
 replace a1_:=(hb.cell (p:=⟨Na,1,none⟩) (World.block_lt_of_cell? _ _ a1_)).trans a1_
 replace a2_:=(hb.cell (p:=⟨Na,2,none⟩) (World.block_lt_of_cell? _ _ a2_)).trans a2_
 replace b0_:=(hb.cell (p:=⟨Nb,0,none⟩) (World.block_lt_of_cell? _ _ b0_)).trans b0_
 replace b1_:=(hb.cell (p:=⟨Nb,1,none⟩) (World.block_lt_of_cell? _ _ b1_)).trans b1_
 replace b2_:=(hb.cell (p:=⟨Nb,2,none⟩) (World.block_lt_of_cell? _ _ b2_)).trans b2_
 replace c0_:=(hb.cell (p:=⟨Nc,0,none⟩) (World.block_lt_of_cell? _ _ c0_)).trans c0_
 replace c1_:=(hb.cell (p:=⟨Nc,1,none⟩) (World.block_lt_of_cell? _ _ c1_)).trans c1_
 replace c2_:=(hb.cell (p:=⟨Nc,2,none⟩) (World.block_lt_of_cell? _ _ c2_)).trans c2_
 replace CNa:=jH (CNa.out.Ac hb)
 replace CNb:=jH (CNb.out.Ac hb)
 replace CNc:=jH (CNc.out.Ac hb)
 replace CNd:=jH (CNd.out.Ac hb)
 replace CNe:=jH (CNe.out.Ac hb)
 replace CNf:=jH (CNf.out.Ac hb)
 replace K:=jH (K.out.next hb)
 clear hb
 go_wp2_with fail
 refine (Lf false ⟨#[97]⟩ ⟨#[98]⟩ _ (by decide) (by decide) (z:=[60,97,64,98,62]) (by kernel_rfl)).mono ?_
 rintro e w9 ⟨rfl,hb⟩
 replace t0:=Kc hb t0
 replace t1:=Kc hb t1
 replace t2:=Kc hb t2
 replace t3:=Kc hb t3
 replace a0_:=(hb.cell (p:=⟨Na,0,none⟩) (World.block_lt_of_cell? _ _ a0_)).trans a0_
 replace a1_:=(hb.cell (p:=⟨Na,1,none⟩) (World.block_lt_of_cell? _ _ a1_)).trans a1_
 replace a2_:=(hb.cell (p:=⟨Na,2,none⟩) (World.block_lt_of_cell? _ _ a2_)).trans a2_
 replace b0_:=(hb.cell (p:=⟨Nb,0,none⟩) (World.block_lt_of_cell? _ _ b0_)).trans b0_
 replace b1_:=(hb.cell (p:=⟨Nb,1,none⟩) (World.block_lt_of_cell? _ _ b1_)).trans b1_
 replace b2_:=(hb.cell (p:=⟨Nb,2,none⟩) (World.block_lt_of_cell? _ _ b2_)).trans b2_
 replace c0_:=(hb.cell (p:=⟨Nc,0,none⟩) (World.block_lt_of_cell? _ _ c0_)).trans c0_
 replace c1_:=(hb.cell (p:=⟨Nc,1,none⟩) (World.block_lt_of_cell? _ _ c1_)).trans c1_
 replace c2_:=(hb.cell (p:=⟨Nc,2,none⟩) (World.block_lt_of_cell? _ _ c2_)).trans c2_
 replace CNa:=jH (CNa.out.Ac hb)
 replace CNb:=jH (CNb.out.Ac hb)
 replace CNc:=jH (CNc.out.Ac hb)
 replace CNd:=jH (CNd.out.Ac hb)
 replace CNe:=jH (CNe.out.Ac hb)
 replace CNf:=jH (CNf.out.Ac hb)
 replace K:=jH (K.out.next hb)
 clear hb
 go_wp2_with fail
 refine (Lf false ⟨#[80,111,115,116,77,97,115,116,101,114]⟩ ⟨#[]⟩ _ (by decide) (by decide) (z:=[60,80,111,115,116,77,97,115,116,101,114,62]) (by kernel_rfl)).mono ?_
 rintro e w10 ⟨rfl,hb⟩
 replace t0:=Kc hb t0
 replace t1:=Kc hb t1
 replace t2:=Kc hb t2
 replace t3:=Kc hb t3
 replace a0_:=(hb.cell (p:=⟨Na,0,none⟩) (World.block_lt_of_cell? _ _ a0_)).trans a0_
 replace a1_:=(hb.cell (p:=⟨Na,1,none⟩) (World.block_lt_of_cell? _ _ a1_)).trans a1_
 replace a2_:=(hb.cell (p:=⟨Na,2,none⟩) (World.block_lt_of_cell? _ _ a2_)).trans a2_
 replace b0_:=(hb.cell (p:=⟨Nb,0,none⟩) (World.block_lt_of_cell? _ _ b0_)).trans b0_
 replace b1_:=(hb.cell (p:=⟨Nb,1,none⟩) (World.block_lt_of_cell? _ _ b1_)).trans b1_
 replace b2_:=(hb.cell (p:=⟨Nb,2,none⟩) (World.block_lt_of_cell? _ _ b2_)).trans b2_
 replace c0_:=(hb.cell (p:=⟨Nc,0,none⟩) (World.block_lt_of_cell? _ _ c0_)).trans c0_
 replace c1_:=(hb.cell (p:=⟨Nc,1,none⟩) (World.block_lt_of_cell? _ _ c1_)).trans c1_
 replace c2_:=(hb.cell (p:=⟨Nc,2,none⟩) (World.block_lt_of_cell? _ _ c2_)).trans c2_
 replace CNa:=jH (CNa.out.Ac hb)
 replace CNb:=jH (CNb.out.Ac hb)
 replace CNc:=jH (CNc.out.Ac hb)
 replace CNd:=jH (CNd.out.Ac hb)
 replace CNe:=jH (CNe.out.Ac hb)
 replace CNf:=jH (CNf.out.Ac hb)
 replace K:=jH (K.out.next hb)
 clear hb
 go_wp2_with fail
 refine (Jc (.agg #[.slice (some ⟨b0,0,none⟩) 74 74,.slice (some ⟨b1,0,none⟩) 10 10,.slice (some ⟨b2,0,none⟩) 11 11,.slice (some ⟨b3,0,none⟩) 42 42]) false ⟨#[80,111,115,116,77,97,115,116,101,114]⟩ ⟨#[]⟩ false ⟨#[112,111,115,116,109,97,115,116,101,114]⟩ ⟨#[]⟩ _ K.out.table (Fs (by decide)) (Fs (by decide)) (Fs (by decide)) (Fs (by decide)) (b:=true) (by kernel_rfl)).mono ?_
 rintro e w11 ⟨rfl,hb⟩
 replace t0:=Kc hb t0
 replace t1:=Kc hb t1
 replace t2:=Kc hb t2
 replace t3:=Kc hb t3
 replace a0_:=(hb.cell (p:=⟨Na,0,none⟩) (World.block_lt_of_cell? _ _ a0_)).trans a0_
 replace a1_:=(hb.cell (p:=⟨Na,1,none⟩) (World.block_lt_of_cell? _ _ a1_)).trans a1_
 replace a2_:=(hb.cell (p:=⟨Na,2,none⟩) (World.block_lt_of_cell? _ _ a2_)).trans a2_
 replace b0_:=(hb.cell (p:=⟨Nb,0,none⟩) (World.block_lt_of_cell? _ _ b0_)).trans b0_
 replace b1_:=(hb.cell (p:=⟨Nb,1,none⟩) (World.block_lt_of_cell? _ _ b1_)).trans b1_
 replace b2_:=(hb.cell (p:=⟨Nb,2,none⟩) (World.block_lt_of_cell? _ _ b2_)).trans b2_
 replace c0_:=(hb.cell (p:=⟨Nc,0,none⟩) (World.block_lt_of_cell? _ _ c0_)).trans c0_
 replace c1_:=(hb.cell (p:=⟨Nc,1,none⟩) (World.block_lt_of_cell? _ _ c1_)).trans c1_
 replace c2_:=(hb.cell (p:=⟨Nc,2,none⟩) (World.block_lt_of_cell? _ _ c2_)).trans c2_
 replace CNa:=jH (CNa.out.Ac hb)
 replace CNb:=jH (CNb.out.Ac hb)
 replace CNc:=jH (CNc.out.Ac hb)
 replace CNd:=jH (CNd.out.Ac hb)
 replace CNe:=jH (CNe.out.Ac hb)
 replace CNf:=jH (CNf.out.Ac hb)
 replace K:=jH (K.out.next hb)
 clear hb
 go_wp2_with fail
 refine (Jc (.agg #[.slice (some ⟨b0,0,none⟩) 74 74,.slice (some ⟨b1,0,none⟩) 10 10,.slice (some ⟨b2,0,none⟩) 11 11,.slice (some ⟨b3,0,none⟩) 42 42]) true ⟨#[]⟩ ⟨#[]⟩ false ⟨#[97]⟩ ⟨#[98]⟩ _ K.out.table (Fs (by decide)) (Fs (by decide)) (Fs (by decide)) (Fs (by decide)) (b:=false) (by kernel_rfl)).mono ?_
 rintro e w12 ⟨rfl,hb⟩
 replace t0:=Kc hb t0
 replace t1:=Kc hb t1
 replace t2:=Kc hb t2
 replace t3:=Kc hb t3
 replace a0_:=(hb.cell (p:=⟨Na,0,none⟩) (World.block_lt_of_cell? _ _ a0_)).trans a0_
 replace a1_:=(hb.cell (p:=⟨Na,1,none⟩) (World.block_lt_of_cell? _ _ a1_)).trans a1_
 replace a2_:=(hb.cell (p:=⟨Na,2,none⟩) (World.block_lt_of_cell? _ _ a2_)).trans a2_
 replace b0_:=(hb.cell (p:=⟨Nb,0,none⟩) (World.block_lt_of_cell? _ _ b0_)).trans b0_
 replace b1_:=(hb.cell (p:=⟨Nb,1,none⟩) (World.block_lt_of_cell? _ _ b1_)).trans b1_
 replace b2_:=(hb.cell (p:=⟨Nb,2,none⟩) (World.block_lt_of_cell? _ _ b2_)).trans b2_
 replace c0_:=(hb.cell (p:=⟨Nc,0,none⟩) (World.block_lt_of_cell? _ _ c0_)).trans c0_
 replace c1_:=(hb.cell (p:=⟨Nc,1,none⟩) (World.block_lt_of_cell? _ _ c1_)).trans c1_
 replace c2_:=(hb.cell (p:=⟨Nc,2,none⟩) (World.block_lt_of_cell? _ _ c2_)).trans c2_
 replace CNa:=jH (CNa.out.Ac hb)
 replace CNb:=jH (CNb.out.Ac hb)
 replace CNc:=jH (CNc.out.Ac hb)
 replace CNd:=jH (CNd.out.Ac hb)
 replace CNe:=jH (CNe.out.Ac hb)
 replace CNf:=jH (CNf.out.Ac hb)
 replace K:=jH (K.out.next hb)
 clear hb
 go_wp2_with fail
 refine (Lg (.agg #[.slice (some ⟨b0,0,none⟩) 74 74,.slice (some ⟨b1,0,none⟩) 10 10,.slice (some ⟨b2,0,none⟩) 11 11,.slice (some ⟨b3,0,none⟩) 42 42]) true ⟨#[97]⟩ ⟨#[98]⟩ _ K.out.table (by decide) (Fs (by decide)) (E:=1) (by kernel_rfl)).mono ?_
 rintro e w13 ⟨rfl,hb⟩
 replace t0:=Kc hb t0
 replace t1:=Kc hb t1
 replace t2:=Kc hb t2
 replace t3:=Kc hb t3
 replace a0_:=(hb.cell (p:=⟨Na,0,none⟩) (World.block_lt_of_cell? _ _ a0_)).trans a0_
 replace a1_:=(hb.cell (p:=⟨Na,1,none⟩) (World.block_lt_of_cell? _ _ a1_)).trans a1_
 replace a2_:=(hb.cell (p:=⟨Na,2,none⟩) (World.block_lt_of_cell? _ _ a2_)).trans a2_
 replace b0_:=(hb.cell (p:=⟨Nb,0,none⟩) (World.block_lt_of_cell? _ _ b0_)).trans b0_
 replace b1_:=(hb.cell (p:=⟨Nb,1,none⟩) (World.block_lt_of_cell? _ _ b1_)).trans b1_
 replace b2_:=(hb.cell (p:=⟨Nb,2,none⟩) (World.block_lt_of_cell? _ _ b2_)).trans b2_
 replace c0_:=(hb.cell (p:=⟨Nc,0,none⟩) (World.block_lt_of_cell? _ _ c0_)).trans c0_
 replace c1_:=(hb.cell (p:=⟨Nc,1,none⟩) (World.block_lt_of_cell? _ _ c1_)).trans c1_
 replace c2_:=(hb.cell (p:=⟨Nc,2,none⟩) (World.block_lt_of_cell? _ _ c2_)).trans c2_
 replace CNa:=jH (CNa.out.Ac hb)
 replace CNb:=jH (CNb.out.Ac hb)
 replace CNc:=jH (CNc.out.Ac hb)
 replace CNd:=jH (CNd.out.Ac hb)
 replace CNe:=jH (CNe.out.Ac hb)
 replace CNf:=jH (CNf.out.Ac hb)
 replace K:=jH (K.out.next hb)
 clear hb
 go_wp2
 go_ret
 exact ⟨rfl,K.out.below⟩
end Go.Proofs.YtpcgbgfpnhiihaaGreatDoor
