import Derived.Test.YtppmbilonaflfaaGreatDoorMbxSame
namespace Go.Proofs.YtppmbilonaflfaaGreatDoor
open Go.RowKit Utf
theorem Kc {w w':World} (h:Below w.heap.size w w') {p:Addr} {v:Value} (t:w.cell? p=some v):w'.cell? p=some v:=(h.cell (World.block_lt_of_cell? _ _ t)).trans t
theorem Sa {α:Type _} (l:List α) (i:Nat) (a:α):l.toArray.setIfInBounds i a=(l.set i a).toArray:=List.setIfInBounds_toArray ..
theorem Sb {α:Type _} {a b:α} {l:List α}:(a::l).set 0 b=b::l:=rfl
theorem Sc {α:Type _} {a b:α} {l:List α} {n:Nat}:(a::l).set (n+1) b=a::l.set n b:=rfl
theorem Ae {W:World} {g j D k:Nat} {z:Value} (h:g ≠ D):(W.setCell ⟨D,k,none⟩ z).cell? ⟨g,j,none⟩=W.cell? ⟨g,j,none⟩:=World.cell?_of_block (w:=W) (Below.heap_setCell _ _ _ _ h)
theorem J0 (t:Value) (s:ByteArray) (w:World) (hT:Table w t) (hs:s.size<=400) {E:Int} {x y:List UInt8} (hp:Mbx.Eh s.data.toList=(E,x,y)) :
  Calls Tryz.prog 21 #[t,.string s] w λe w'=>e=.returned (.tuple #[.agg #[.string ⟨x.toArray⟩,.string ⟨y.toArray⟩],.int .i64 E])/\Below w.heap.size w w' :=
 O8 t s w hT (by omega) (λts x y n hl ht=>D5 (by
  have h1:=Mbx.Ae3 hl ht
  have h2:s.data.toList.length=s.size:=by simp
  show y.toArray.size<=_
  rw [List.size_toArray]
  omega)) hp
theorem Dc (t:Value) (x y:ByteArray) (w:World) (hT:Table w t) (hx:Az x) (hy:Az y) {u v:List UInt8} (hu:Mbx.Ek x.data.toList=u) (hv:Mbx.Fl y.data.toList=v) :
  Calls Tryz.prog 19 #[t,.agg #[.string x,.string y]] w λe w'=>e=.returned (.agg #[.string ⟨u.toArray⟩,.string ⟨v.toArray⟩])/\Below w.heap.size w w':=by
 subst hu hv
 exact Ph t x y w hT hx hy
theorem Cg (t:Value) (x y:ByteArray) (w:World) (hT:Table w t) (hx:x.size<=100000) (hy:Az y) {E:Int} (h:Mbx.Bo x.data.toList y.data.toList=E) :
  Calls Tryz.prog 16 #[t,.agg #[.string x,.string y]] w λe w'=>e=.returned (.int .i64 E)/\Below w.heap.size w w':=by
 subst h
 exact Lg t x y w hT hx hy
theorem Qx (t:Value) (x y u v:ByteArray) (w:World) (hT:Table w t) (hx:Az x) (hy:Az y) (hu:Az u) (hv:Az v) {b:Bool} (h:Mbx.Ul x.data.toList y.data.toList u.data.toList v.data.toList=b) :
  Calls Tryz.prog 20 #[t,.agg #[.string x,.string y],.agg #[.string u,.string v]] w λe w'=>e=.returned (.bool b)/\Below w.heap.size w w':=by
 subst h
 exact Ap1 t x y u v w hT hx hy hu hv
theorem Gy (x y:ByteArray) (w:World) (hx:x.size<=10000) (hy:y.size<=100000) {z:List UInt8} (h:Mbx.F6 x.data.toList y.data.toList=z) :
  Calls Tryz.prog 17 #[.agg #[.string x,.string y]] w λe w'=>e=.returned (.string ⟨z.toArray⟩)/\Below w.heap.size w w':=by
 subst h
 exact Akw x y w hx hy
theorem Di (x y:ByteArray) (w:World) (hx:x.size<=150) (hy:y.size<=200):Calls Tryz.prog 10 #[.agg #[.string x,.string y]] w λe w'=>e=.returned (.bool true)/\Below w.heap.size w w':=by
 have zx:(x.size:Int)<=150:=by omega
 have zy:(y.size:Int)<=200:=by omega
 clear hx hy
 go_enter Tryz.func10,Tryz.ntmps10
 go_wp2
 go_ret
 exact ⟨rfl,Ab _ _⟩
theorem Ade (x y:ByteArray) (w:World) (h:¬ (x.size<=150/\y.size<=200)):Calls Tryz.prog 10 #[.agg #[.string x,.string y]] w λe w'=>e=.returned (.bool false)/\Below w.heap.size w w':=by
 by_cases hx:x.size<=150
 ·have zx:(x.size:Int)<=150:=by omega
  have zy:¬ (y.size:Int)<=200:=by omega
  clear hx h
  go_enter Tryz.func10,Tryz.ntmps10
  go_wp2
  go_ret
  exact ⟨rfl,Ab _ _⟩
 ·have zx:¬ (x.size:Int)<=150:=by omega
  clear hx h
  go_enter Tryz.func10,Tryz.ntmps10
  go_wp2
  go_ret
  exact ⟨rfl,Ab _ _⟩
theorem Axv:Mbx.Eh (⟨#[34,97,32,98,34,32,40,120,41,64,32,99,46,100]⟩:ByteArray).data.toList=(0,[97,32,98],[99,46,100]):=by kernel_rfl
theorem Aw4:Mbx.Eh (⟨#[97,64,98,32,99]⟩:ByteArray).data.toList=(4,[],[]):=by kernel_rfl
theorem Axq:Mbx.Eh (⟨#[97,64,45,98]⟩:ByteArray).data.toList=(11,[],[]):=by kernel_rfl
theorem Ax0:Mbx.Eh (⟨#[97,46,98,64,91,49,46,50,93]⟩:ByteArray).data.toList=(0,[97,46,98],[91,49,46,50,93]):=by kernel_rfl
theorem Aw8:Mbx.Yr (⟨#[65]⟩:ByteArray).data.toList (⟨#[98,195,188,99,104,101,114]⟩:ByteArray).data.toList=(0,[65],[120,110,45,45,98,99,104,101,114,45,107,118,97]):=by kernel_rfl
theorem Axb:Mbx.Yr (⟨#[195,164]⟩:ByteArray).data.toList (⟨#[97]⟩:ByteArray).data.toList=(8,[],[]):=by kernel_rfl
theorem Axc:Mbx.Ek (⟨#[65]⟩:ByteArray).data.toList=[97]:=by kernel_rfl
theorem Axl:Mbx.Fl (⟨#[66,195,188,99,104,101,114]⟩:ByteArray).data.toList=[120,110,45,45,98,99,104,101,114,45,107,118,97]:=by kernel_rfl
theorem Axn:Mbx.F6 (⟨#[97,32,98]⟩:ByteArray).data.toList (⟨#[99,46,100]⟩:ByteArray).data.toList=[34,97,32,98,34,64,99,46,100]:=by kernel_rfl
theorem Aw6:Mbx.Ul (⟨#[97]⟩:ByteArray).data.toList (⟨#[120,110,45,45,98,99,104,101,114,45,107,118,97]⟩:ByteArray).data.toList (⟨#[97]⟩:ByteArray).data.toList (⟨#[98,195,156,99,104,101,114]⟩:ByteArray).data.toList=true:=by kernel_rfl
theorem Axe:Mbx.Bo (⟨#[]⟩:ByteArray).data.toList (⟨#[97]⟩:ByteArray).data.toList=13:=by kernel_rfl
theorem Axy:Mbx.take []=none:=rfl
set_option maxHeartbeats 16000000 in
set_option maxRecDepth 100000 in
theorem Ar (w:World):Calls Tryz.prog 9 #[] w λe w'=>e=.returned (.bool true)/\Below w.heap.size w w':=by
 have BB:=Lib.hid (Below.refl w.heap.size w)
 go_enter Tryz.func9,Tryz.ntmps9
 go_wp2_with fail
 refine (Dz _).mono ?_
 rintro e w1 ⟨tt,rfl,hT,hb⟩
 obtain ⟨b0,b1,b2,b3,rfl,-,-,-,-⟩:=id hT
 replace BB:=Lib.hid (Aa BB.out hb)
 have K:=Lib.hid (Cw (b0:=b0) (b1:=b1) (b2:=b2) (b3:=b3) BB.out hT 31)
 clear hT hb BB
 obtain ⟨S,hS⟩:∃ N,w1.heap.size=N:=⟨_,rfl⟩
 rw [hS] at K
 have hb:=Ab w1 (.cells #[.slice (some ⟨b0,0,none⟩) 74 74,.slice (some ⟨b1,0,none⟩) 10 10,.slice (some ⟨b2,0,none⟩) 11 11,.slice (some ⟨b3,0,none⟩) 42 42] 31)
 clear hb
 obtain ⟨-,t0,t1,t2,t3⟩:=K.out.held
 go_wp2_with fail
 refine (J0 (.agg #[.slice (some ⟨b0,0,none⟩) 74 74,.slice (some ⟨b1,0,none⟩) 10 10,.slice (some ⟨b2,0,none⟩) 11 11,.slice (some ⟨b3,0,none⟩) 42 42]) ⟨#[34,97,32,98,34,32,40,120,41,64,32,99,46,100]⟩ _ K.out.table (by decide) Axv).mono ?_
 rintro e w2 ⟨rfl,hb⟩
 replace t0:=Kc hb t0
 replace t1:=Kc hb t1
 replace t2:=Kc hb t2
 replace t3:=Kc hb t3
 replace K:=Lib.hid (K.out.next hb)
 clear hb
 obtain ⟨Na,hNa⟩:∃ N,w2.heap.size=N:=⟨_,rfl⟩
 have ltNaS:S<Na:=by have h_:=World.block_lt_of_cell? _ _ t0;simp only [hNa] at h_;exact h_
 have hb:=Ab w2 (.cells #[.string ⟨#[97,32,98]⟩,.string ⟨#[99,46,100]⟩] 23)
 replace t0:=Kc hb t0
 replace t1:=Kc hb t1
 replace t2:=Kc hb t2
 replace t3:=Kc hb t3
 replace K:=Lib.hid (K.out.next hb)
 clear hb
 have CNa:=Lib.hid (show CAt Na ⟨#[97,32,98]⟩ ⟨#[99,46,100]⟩ (w2.alloc (.cells #[.string ⟨#[97,32,98]⟩,.string ⟨#[99,46,100]⟩] 23)) from hNa ▸ CAt.new w2 ⟨#[97,32,98]⟩ ⟨#[99,46,100]⟩)
 have a0:=CNa.out.c0
 have a1:=CNa.out.c1
 go_wp2_with fail
 refine (J0 (.agg #[.slice (some ⟨b0,0,none⟩) 74 74,.slice (some ⟨b1,0,none⟩) 10 10,.slice (some ⟨b2,0,none⟩) 11 11,.slice (some ⟨b3,0,none⟩) 42 42]) ⟨#[97,64,98,32,99]⟩ _ K.out.table (by decide) Aw4).mono ?_
 rintro e w3 ⟨rfl,hb⟩
 replace t0:=Kc hb t0
 replace t1:=Kc hb t1
 replace t2:=Kc hb t2
 replace t3:=Kc hb t3
 replace a0:=Kc hb a0
 replace a1:=Kc hb a1
 replace CNa:=Lib.hid (CNa.out.Ac hb)
 replace K:=Lib.hid (K.out.next hb)
 clear hb
 obtain ⟨Nb,hNb⟩:∃ N,w3.heap.size=N:=⟨_,rfl⟩
 have ltNbS:S<Nb:=by have h_:=World.block_lt_of_cell? _ _ t0;simp only [hNb] at h_;exact h_
 have ltNbNa:Na<Nb:=by have h_:=World.block_lt_of_cell? _ _ a0;simp only [hNb] at h_;exact h_
 have hb:=Ab w3 (.cells #[.string ⟨#[]⟩,.string ⟨#[]⟩] 23)
 replace t0:=Kc hb t0
 replace t1:=Kc hb t1
 replace t2:=Kc hb t2
 replace t3:=Kc hb t3
 replace a0:=Kc hb a0
 replace a1:=Kc hb a1
 replace CNa:=Lib.hid (CNa.out.Ac hb)
 replace K:=Lib.hid (K.out.next hb)
 clear hb
 have CNb:=Lib.hid (show CAt Nb ⟨#[]⟩ ⟨#[]⟩ (w3.alloc (.cells #[.string ⟨#[]⟩,.string ⟨#[]⟩] 23)) from hNb ▸ CAt.new w3 ⟨#[]⟩ ⟨#[]⟩)
 go_wp2_with fail
 refine (J0 (.agg #[.slice (some ⟨b0,0,none⟩) 74 74,.slice (some ⟨b1,0,none⟩) 10 10,.slice (some ⟨b2,0,none⟩) 11 11,.slice (some ⟨b3,0,none⟩) 42 42]) ⟨#[97,64,45,98]⟩ _ K.out.table (by decide) Axq).mono ?_
 rintro e w4 ⟨rfl,hb⟩
 replace t0:=Kc hb t0
 replace t1:=Kc hb t1
 replace t2:=Kc hb t2
 replace t3:=Kc hb t3
 replace a0:=Kc hb a0
 replace a1:=Kc hb a1
 replace CNa:=Lib.hid (CNa.out.Ac hb)
 replace CNb:=Lib.hid (CNb.out.Ac hb)
 replace K:=Lib.hid (K.out.next hb)
 clear hb
 obtain ⟨Nc,hNc⟩:∃ N,w4.heap.size=N:=⟨_,rfl⟩
 have ltNcS:S<Nc:=by have h_:=World.block_lt_of_cell? _ _ t0;simp only [hNc] at h_;exact h_
 have ltNcNa:Na<Nc:=by have h_:=World.block_lt_of_cell? _ _ a0;simp only [hNc] at h_;exact h_
 have hb:=Ab w4 (.cells #[.string ⟨#[]⟩,.string ⟨#[]⟩] 23)
 replace t0:=Kc hb t0
 replace t1:=Kc hb t1
 replace t2:=Kc hb t2
 replace t3:=Kc hb t3
 replace a0:=Kc hb a0
 replace a1:=Kc hb a1
 replace CNa:=Lib.hid (CNa.out.Ac hb)
 replace CNb:=Lib.hid (CNb.out.Ac hb)
 replace K:=Lib.hid (K.out.next hb)
 clear hb
 have CNc:=Lib.hid (show CAt Nc ⟨#[]⟩ ⟨#[]⟩ (w4.alloc (.cells #[.string ⟨#[]⟩,.string ⟨#[]⟩] 23)) from hNc ▸ CAt.new w4 ⟨#[]⟩ ⟨#[]⟩)
 go_wp2_with fail
 refine (J0 (.agg #[.slice (some ⟨b0,0,none⟩) 74 74,.slice (some ⟨b1,0,none⟩) 10 10,.slice (some ⟨b2,0,none⟩) 11 11,.slice (some ⟨b3,0,none⟩) 42 42]) ⟨#[97,46,98,64,91,49,46,50,93]⟩ _ K.out.table (by decide) Ax0).mono ?_
 rintro e w5 ⟨rfl,hb⟩
 replace t0:=Kc hb t0
 replace t1:=Kc hb t1
 replace t2:=Kc hb t2
 replace t3:=Kc hb t3
 replace a0:=Kc hb a0
 replace a1:=Kc hb a1
 replace CNa:=Lib.hid (CNa.out.Ac hb)
 replace CNb:=Lib.hid (CNb.out.Ac hb)
 replace CNc:=Lib.hid (CNc.out.Ac hb)
 replace K:=Lib.hid (K.out.next hb)
 clear hb
 obtain ⟨Nd,hNd⟩:∃ N,w5.heap.size=N:=⟨_,rfl⟩
 have ltNdS:S<Nd:=by have h_:=World.block_lt_of_cell? _ _ t0;simp only [hNd] at h_;exact h_
 have ltNdNa:Na<Nd:=by have h_:=World.block_lt_of_cell? _ _ a0;simp only [hNd] at h_;exact h_
 have hb:=Ab w5 (.cells #[.string ⟨#[97,46,98]⟩,.string ⟨#[91,49,46,50,93]⟩] 23)
 replace t0:=Kc hb t0
 replace t1:=Kc hb t1
 replace t2:=Kc hb t2
 replace t3:=Kc hb t3
 replace a0:=Kc hb a0
 replace a1:=Kc hb a1
 replace CNa:=Lib.hid (CNa.out.Ac hb)
 replace CNb:=Lib.hid (CNb.out.Ac hb)
 replace CNc:=Lib.hid (CNc.out.Ac hb)
 replace K:=Lib.hid (K.out.next hb)
 clear hb
 have CNd:=Lib.hid (show CAt Nd ⟨#[97,46,98]⟩ ⟨#[91,49,46,50,93]⟩ (w5.alloc (.cells #[.string ⟨#[97,46,98]⟩,.string ⟨#[91,49,46,50,93]⟩] 23)) from hNd ▸ CAt.new w5 ⟨#[97,46,98]⟩ ⟨#[91,49,46,50,93]⟩)
 have d0:=CNd.out.c0
 have d1:=CNd.out.c1
 go_wp2_with fail
 refine (Nk (.agg #[.slice (some ⟨b0,0,none⟩) 74 74,.slice (some ⟨b1,0,none⟩) 10 10,.slice (some ⟨b2,0,none⟩) 11 11,.slice (some ⟨b3,0,none⟩) 42 42]) ⟨#[65]⟩ ⟨#[98,195,188,99,104,101,114]⟩ _ K.out.table (by decide) (D5 (by decide)) Aw8).mono ?_
 rintro e w6 ⟨rfl,hb⟩
 replace t0:=Kc hb t0
 replace t1:=Kc hb t1
 replace t2:=Kc hb t2
 replace t3:=Kc hb t3
 replace a0:=Kc hb a0
 replace a1:=Kc hb a1
 replace d0:=Kc hb d0
 replace d1:=Kc hb d1
 replace CNa:=Lib.hid (CNa.out.Ac hb)
 replace CNb:=Lib.hid (CNb.out.Ac hb)
 replace CNc:=Lib.hid (CNc.out.Ac hb)
 replace CNd:=Lib.hid (CNd.out.Ac hb)
 replace K:=Lib.hid (K.out.next hb)
 clear hb
 obtain ⟨Ne,hNe⟩:∃ N,w6.heap.size=N:=⟨_,rfl⟩
 have ltNeS:S<Ne:=by have h_:=World.block_lt_of_cell? _ _ t0;simp only [hNe] at h_;exact h_
 have ltNeNa:Na<Ne:=by have h_:=World.block_lt_of_cell? _ _ a0;simp only [hNe] at h_;exact h_
 have ltNeNd:Nd<Ne:=by have h_:=World.block_lt_of_cell? _ _ d0;simp only [hNe] at h_;exact h_
 have hb:=Ab w6 (.cells #[.string ⟨#[65]⟩,.string ⟨#[120,110,45,45,98,99,104,101,114,45,107,118,97]⟩] 23)
 replace t0:=Kc hb t0
 replace t1:=Kc hb t1
 replace t2:=Kc hb t2
 replace t3:=Kc hb t3
 replace a0:=Kc hb a0
 replace a1:=Kc hb a1
 replace d0:=Kc hb d0
 replace d1:=Kc hb d1
 replace CNa:=Lib.hid (CNa.out.Ac hb)
 replace CNb:=Lib.hid (CNb.out.Ac hb)
 replace CNc:=Lib.hid (CNc.out.Ac hb)
 replace CNd:=Lib.hid (CNd.out.Ac hb)
 replace K:=Lib.hid (K.out.next hb)
 clear hb
 have CNe:=Lib.hid (show CAt Ne ⟨#[65]⟩ ⟨#[120,110,45,45,98,99,104,101,114,45,107,118,97]⟩ (w6.alloc (.cells #[.string ⟨#[65]⟩,.string ⟨#[120,110,45,45,98,99,104,101,114,45,107,118,97]⟩] 23)) from hNe ▸ CAt.new w6 ⟨#[65]⟩ ⟨#[120,110,45,45,98,99,104,101,114,45,107,118,97]⟩)
 have e0:=CNe.out.c0
 have e1:=CNe.out.c1
 go_wp2_with fail
 refine (Nk (.agg #[.slice (some ⟨b0,0,none⟩) 74 74,.slice (some ⟨b1,0,none⟩) 10 10,.slice (some ⟨b2,0,none⟩) 11 11,.slice (some ⟨b3,0,none⟩) 42 42]) ⟨#[195,164]⟩ ⟨#[97]⟩ _ K.out.table (by decide) (D5 (by decide)) Axb).mono ?_
 rintro e w7 ⟨rfl,hb⟩
 replace t0:=Kc hb t0
 replace t1:=Kc hb t1
 replace t2:=Kc hb t2
 replace t3:=Kc hb t3
 replace a0:=Kc hb a0
 replace a1:=Kc hb a1
 replace d0:=Kc hb d0
 replace d1:=Kc hb d1
 replace e0:=Kc hb e0
 replace e1:=Kc hb e1
 replace CNa:=Lib.hid (CNa.out.Ac hb)
 replace CNb:=Lib.hid (CNb.out.Ac hb)
 replace CNc:=Lib.hid (CNc.out.Ac hb)
 replace CNd:=Lib.hid (CNd.out.Ac hb)
 replace CNe:=Lib.hid (CNe.out.Ac hb)
 replace K:=Lib.hid (K.out.next hb)
 clear hb
 obtain ⟨Nf,hNf⟩:∃ N,w7.heap.size=N:=⟨_,rfl⟩
 have ltNfS:S<Nf:=by have h_:=World.block_lt_of_cell? _ _ t0;simp only [hNf] at h_;exact h_
 have ltNfNa:Na<Nf:=by have h_:=World.block_lt_of_cell? _ _ a0;simp only [hNf] at h_;exact h_
 have ltNfNd:Nd<Nf:=by have h_:=World.block_lt_of_cell? _ _ d0;simp only [hNf] at h_;exact h_
 have ltNfNe:Ne<Nf:=by have h_:=World.block_lt_of_cell? _ _ e0;simp only [hNf] at h_;exact h_
 have hb:=Ab w7 (.cells #[.string ⟨#[]⟩,.string ⟨#[]⟩] 23)
 replace t0:=Kc hb t0
 replace t1:=Kc hb t1
 replace t2:=Kc hb t2
 replace t3:=Kc hb t3
 replace a0:=Kc hb a0
 replace a1:=Kc hb a1
 replace d0:=Kc hb d0
 replace d1:=Kc hb d1
 replace e0:=Kc hb e0
 replace e1:=Kc hb e1
 replace CNa:=Lib.hid (CNa.out.Ac hb)
 replace CNb:=Lib.hid (CNb.out.Ac hb)
 replace CNc:=Lib.hid (CNc.out.Ac hb)
 replace CNd:=Lib.hid (CNd.out.Ac hb)
 replace CNe:=Lib.hid (CNe.out.Ac hb)
 replace K:=Lib.hid (K.out.next hb)
 clear hb
 have CNf:=Lib.hid (show CAt Nf ⟨#[]⟩ ⟨#[]⟩ (w7.alloc (.cells #[.string ⟨#[]⟩,.string ⟨#[]⟩] 23)) from hNf ▸ CAt.new w7 ⟨#[]⟩ ⟨#[]⟩)
 go_wp2_with fail
 refine (Ag7 (.slice none 0 0) [] _ ⟨none,0,rfl,Nat.le_refl _,λi h=>absurd h (Nat.not_lt_zero _)⟩ ⟨Nat.zero_le _,λk h=>by cases h⟩).mono ?_
 rintro e w8 ⟨rfl,hb⟩
 replace t0:=Kc hb t0
 replace t1:=Kc hb t1
 replace t2:=Kc hb t2
 replace t3:=Kc hb t3
 replace a0:=Kc hb a0
 replace a1:=Kc hb a1
 replace d0:=Kc hb d0
 replace d1:=Kc hb d1
 replace e0:=Kc hb e0
 replace e1:=Kc hb e1
 replace CNa:=Lib.hid (CNa.out.Ac hb)
 replace CNb:=Lib.hid (CNb.out.Ac hb)
 replace CNc:=Lib.hid (CNc.out.Ac hb)
 replace CNd:=Lib.hid (CNd.out.Ac hb)
 replace CNe:=Lib.hid (CNe.out.Ac hb)
 replace CNf:=Lib.hid (CNf.out.Ac hb)
 replace K:=Lib.hid (K.out.next hb)
 clear hb
 rw [Axy,Mbx.Yj]
 obtain ⟨Ng,hNg⟩:∃ N,w8.heap.size=N:=⟨_,rfl⟩
 have ltNgS:S<Ng:=by have h_:=World.block_lt_of_cell? _ _ t0;simp only [hNg] at h_;exact h_
 have ltNgNa:Na<Ng:=by have h_:=World.block_lt_of_cell? _ _ a0;simp only [hNg] at h_;exact h_
 have ltNgNd:Nd<Ng:=by have h_:=World.block_lt_of_cell? _ _ d0;simp only [hNg] at h_;exact h_
 have ltNgNe:Ne<Ng:=by have h_:=World.block_lt_of_cell? _ _ e0;simp only [hNg] at h_;exact h_
 have hb:=Ab w8 (.cells #[.string ⟨#[]⟩,.string ⟨#[]⟩] 23)
 replace t0:=Kc hb t0
 replace t1:=Kc hb t1
 replace t2:=Kc hb t2
 replace t3:=Kc hb t3
 replace a0:=Kc hb a0
 replace a1:=Kc hb a1
 replace d0:=Kc hb d0
 replace d1:=Kc hb d1
 replace e0:=Kc hb e0
 replace e1:=Kc hb e1
 replace CNa:=Lib.hid (CNa.out.Ac hb)
 replace CNb:=Lib.hid (CNb.out.Ac hb)
 replace CNc:=Lib.hid (CNc.out.Ac hb)
 replace CNd:=Lib.hid (CNd.out.Ac hb)
 replace CNe:=Lib.hid (CNe.out.Ac hb)
 replace CNf:=Lib.hid (CNf.out.Ac hb)
 replace K:=Lib.hid (K.out.next hb)
 clear hb
 have CNg:=Lib.hid (show CAt Ng ⟨#[]⟩ ⟨#[]⟩ (w8.alloc (.cells #[.string ⟨#[]⟩,.string ⟨#[]⟩] 23)) from hNg ▸ CAt.new w8 ⟨#[]⟩ ⟨#[]⟩)
 go_wp2_with fail
 refine (Dc (.agg #[.slice (some ⟨b0,0,none⟩) 74 74,.slice (some ⟨b1,0,none⟩) 10 10,.slice (some ⟨b2,0,none⟩) 11 11,.slice (some ⟨b3,0,none⟩) 42 42]) ⟨#[65]⟩ ⟨#[66,195,188,99,104,101,114]⟩ _ K.out.table (D5 (by decide)) (D5 (by decide)) Axc Axl).mono ?_
 rintro e w9 ⟨rfl,hb⟩
 replace t0:=Kc hb t0
 replace t1:=Kc hb t1
 replace t2:=Kc hb t2
 replace t3:=Kc hb t3
 replace a0:=Kc hb a0
 replace a1:=Kc hb a1
 replace d0:=Kc hb d0
 replace d1:=Kc hb d1
 replace e0:=Kc hb e0
 replace e1:=Kc hb e1
 replace CNa:=Lib.hid (CNa.out.Ac hb)
 replace CNb:=Lib.hid (CNb.out.Ac hb)
 replace CNc:=Lib.hid (CNc.out.Ac hb)
 replace CNd:=Lib.hid (CNd.out.Ac hb)
 replace CNe:=Lib.hid (CNe.out.Ac hb)
 replace CNf:=Lib.hid (CNf.out.Ac hb)
 replace CNg:=Lib.hid (CNg.out.Ac hb)
 replace K:=Lib.hid (K.out.next hb)
 clear hb
 obtain ⟨Nh,hNh⟩:∃ N,w9.heap.size=N:=⟨_,rfl⟩
 have ltNhS:S<Nh:=by have h_:=World.block_lt_of_cell? _ _ t0;simp only [hNh] at h_;exact h_
 have ltNhNa:Na<Nh:=by have h_:=World.block_lt_of_cell? _ _ a0;simp only [hNh] at h_;exact h_
 have ltNhNd:Nd<Nh:=by have h_:=World.block_lt_of_cell? _ _ d0;simp only [hNh] at h_;exact h_
 have ltNhNe:Ne<Nh:=by have h_:=World.block_lt_of_cell? _ _ e0;simp only [hNh] at h_;exact h_
 have hb:=Ab w9 (.cells #[.string ⟨#[97]⟩,.string ⟨#[120,110,45,45,98,99,104,101,114,45,107,118,97]⟩] 23)
 replace t0:=Kc hb t0
 replace t1:=Kc hb t1
 replace t2:=Kc hb t2
 replace t3:=Kc hb t3
 replace a0:=Kc hb a0
 replace a1:=Kc hb a1
 replace d0:=Kc hb d0
 replace d1:=Kc hb d1
 replace e0:=Kc hb e0
 replace e1:=Kc hb e1
 replace CNa:=Lib.hid (CNa.out.Ac hb)
 replace CNb:=Lib.hid (CNb.out.Ac hb)
 replace CNc:=Lib.hid (CNc.out.Ac hb)
 replace CNd:=Lib.hid (CNd.out.Ac hb)
 replace CNe:=Lib.hid (CNe.out.Ac hb)
 replace CNf:=Lib.hid (CNf.out.Ac hb)
 replace CNg:=Lib.hid (CNg.out.Ac hb)
 replace K:=Lib.hid (K.out.next hb)
 clear hb
 have CNh:=Lib.hid (show CAt Nh ⟨#[97]⟩ ⟨#[120,110,45,45,98,99,104,101,114,45,107,118,97]⟩ (w9.alloc (.cells #[.string ⟨#[97]⟩,.string ⟨#[120,110,45,45,98,99,104,101,114,45,107,118,97]⟩] 23)) from hNh ▸ CAt.new w9 ⟨#[97]⟩ ⟨#[120,110,45,45,98,99,104,101,114,45,107,118,97]⟩)
 have h0:=CNh.out.c0
 have h1:=CNh.out.c1
 go_wp2_with fail
 refine (Gy ⟨#[97,32,98]⟩ ⟨#[99,46,100]⟩ _ (by decide) (by decide) Axn).mono ?_
 rintro e w10 ⟨rfl,hb⟩
 replace t0:=Kc hb t0
 replace t1:=Kc hb t1
 replace t2:=Kc hb t2
 replace t3:=Kc hb t3
 replace a0:=Kc hb a0
 replace a1:=Kc hb a1
 replace d0:=Kc hb d0
 replace d1:=Kc hb d1
 replace e0:=Kc hb e0
 replace e1:=Kc hb e1
 replace h0:=Kc hb h0
 replace h1:=Kc hb h1
 replace CNa:=Lib.hid (CNa.out.Ac hb)
 replace CNb:=Lib.hid (CNb.out.Ac hb)
 replace CNc:=Lib.hid (CNc.out.Ac hb)
 replace CNd:=Lib.hid (CNd.out.Ac hb)
 replace CNe:=Lib.hid (CNe.out.Ac hb)
 replace CNf:=Lib.hid (CNf.out.Ac hb)
 replace CNg:=Lib.hid (CNg.out.Ac hb)
 replace CNh:=Lib.hid (CNh.out.Ac hb)
 replace K:=Lib.hid (K.out.next hb)
 clear hb
 go_wp2_with fail
 refine (Qx (.agg #[.slice (some ⟨b0,0,none⟩) 74 74,.slice (some ⟨b1,0,none⟩) 10 10,.slice (some ⟨b2,0,none⟩) 11 11,.slice (some ⟨b3,0,none⟩) 42 42]) ⟨#[97]⟩ ⟨#[120,110,45,45,98,99,104,101,114,45,107,118,97]⟩ ⟨#[97]⟩ ⟨#[98,195,156,99,104,101,114]⟩ _ K.out.table (D5 (by decide)) (D5 (by decide)) (D5 (by decide)) (D5 (by decide)) Aw6).mono ?_
 rintro e w11 ⟨rfl,hb⟩
 replace t0:=Kc hb t0
 replace t1:=Kc hb t1
 replace t2:=Kc hb t2
 replace t3:=Kc hb t3
 replace a0:=Kc hb a0
 replace a1:=Kc hb a1
 replace d0:=Kc hb d0
 replace d1:=Kc hb d1
 replace e0:=Kc hb e0
 replace e1:=Kc hb e1
 replace h0:=Kc hb h0
 replace h1:=Kc hb h1
 replace CNa:=Lib.hid (CNa.out.Ac hb)
 replace CNb:=Lib.hid (CNb.out.Ac hb)
 replace CNc:=Lib.hid (CNc.out.Ac hb)
 replace CNd:=Lib.hid (CNd.out.Ac hb)
 replace CNe:=Lib.hid (CNe.out.Ac hb)
 replace CNf:=Lib.hid (CNf.out.Ac hb)
 replace CNg:=Lib.hid (CNg.out.Ac hb)
 replace CNh:=Lib.hid (CNh.out.Ac hb)
 replace K:=Lib.hid (K.out.next hb)
 clear hb
 go_wp2_with fail
 refine (Cg (.agg #[.slice (some ⟨b0,0,none⟩) 74 74,.slice (some ⟨b1,0,none⟩) 10 10,.slice (some ⟨b2,0,none⟩) 11 11,.slice (some ⟨b3,0,none⟩) 42 42]) ⟨#[]⟩ ⟨#[97]⟩ _ K.out.table (by decide) (D5 (by decide)) Axe).mono ?_
 rintro e w12 ⟨rfl,hb⟩
 replace t0:=Kc hb t0
 replace t1:=Kc hb t1
 replace t2:=Kc hb t2
 replace t3:=Kc hb t3
 replace a0:=Kc hb a0
 replace a1:=Kc hb a1
 replace d0:=Kc hb d0
 replace d1:=Kc hb d1
 replace e0:=Kc hb e0
 replace e1:=Kc hb e1
 replace h0:=Kc hb h0
 replace h1:=Kc hb h1
 replace CNa:=Lib.hid (CNa.out.Ac hb)
 replace CNb:=Lib.hid (CNb.out.Ac hb)
 replace CNc:=Lib.hid (CNc.out.Ac hb)
 replace CNd:=Lib.hid (CNd.out.Ac hb)
 replace CNe:=Lib.hid (CNe.out.Ac hb)
 replace CNf:=Lib.hid (CNf.out.Ac hb)
 replace CNg:=Lib.hid (CNg.out.Ac hb)
 replace CNh:=Lib.hid (CNh.out.Ac hb)
 replace K:=Lib.hid (K.out.next hb)
 clear hb
 go_wp2
 go_ret
 exact ⟨rfl,K.out.below⟩
end Go.Proofs.YtppmbilonaflfaaGreatDoor
