import Derived.Test.YtpcgbgfpnhiihaaGreatDoorUtfA
namespace Go.Proofs.YtpcgbgfpnhiihaaGreatDoor
section
open Go.RowKit Utf
namespace Utf
def oneOf (s:List UInt8):Int × Int:=match dec s with | some (r,n)=>((r:Int),(n:Int)) | none=>(0,0)
end Utf
def Ark (s:List UInt8) (n:Nat):Prop:=∀ r m,dec s=some (r,m)->n<=m
theorem Ark.none {s:List UInt8} {n:Nat} (h:Ark s n) (hn:n=5\/s.length<n):oneOf s=(0,0):=by
 unfold oneOf
 cases hd:dec s with
 | none=>rfl
 | some p =>
  obtain ⟨r,m⟩:=p
  have h1:=h r m hd
  obtain ⟨h2,h3,h4⟩:=Se hd
  have h5:=Asj r
  have h6:=congrArg List.length h4
  rw [List.length_append] at h6
  omega
end
section
open Go.RowKit Utf
end
section
open Go.RowKit Utf
def Avm (l:List Nat) (z:Int) (w:World) (e:Ending) (w':World):Prop :=
 ∃ A c,e=.returned (.tuple #[.slice A l.length c,.int .i64 z])/\Runes (.slice A l.length c) (ints l) w'/\Below w.heap.size w w'
theorem Kh (s:ByteArray) (w:World) (hs:s.size<=100000) {l:List Nat} {z:Int} (h:As s.data.toList=(l,z)):Calls Tryz.prog 88 #[.string s] w (Avm l z w) :=
 (Tf s w hs).mono λ_ _ ⟨v,he,hv,hb⟩=>by
  rw [h] at he hv
  obtain ⟨A,c,rfl,-,-⟩:=hv.form
  simp only [ints,List.length_map] at he hv ⊢
  exact ⟨A,c,he,hv,hb⟩
end
section
open Go.RowKit Utf
theorem Dg {l:List Int} (h:Af l=true):ints (l.map Int.toNat)=l/\Iv (l.map Int.toNat)=true/\D7 (l.map Int.toNat)=Ah l:=by
 induction l with
 | nil=>exact ⟨rfl,rfl,rfl⟩
 | cons r l ih =>
  simp only [Af,List.all_cons,Bool.and_eq_true] at h
  obtain ⟨h1,h2,h3⟩:=ih h.2
  have hr:=(Al r).1 h.1
  simp only [ints,Iv,D7,Ah,List.map_cons,List.all_cons,List.flatMap_cons,Bool.and_eq_true] at h1 h2 h3 ⊢
  refine ⟨?_,⟨(Dh _).2 (by omega),h2⟩,by rw [h3]⟩
  rw [h1,show Int.ofNat r.toNat=r by simp;omega]
theorem Ky (m:List Nat) (h:Iv m=true):Af (ints m)=true/\Ah (ints m)=D7 m:=by
 induction m with
 | nil=>exact ⟨rfl,rfl⟩
 | cons r m ih =>
  simp only [Iv,List.all_cons,Bool.and_eq_true] at h
  obtain ⟨h1,h2⟩:=ih h.2
  have hr:=(Dh r).1 h.1
  simp only [ints,Af,D7,Ah,List.map_cons,List.all_cons,List.flatMap_cons,Bool.and_eq_true] at h1 h2 ⊢
  exact ⟨⟨(Al _).2 (by simp;omega),h1⟩,by rw [h2];simp⟩
theorem Fv {l:List Int} (h:Af l=true):As (Ah l)=(l.map Int.toNat,-1):=by
 obtain ⟨h1,h2,h3⟩:=Dg h
 unfold As
 rw [Lh (l.map Int.toNat) (Ah l).length (Ah l) [] (by rw [h3];simp) h2 rfl (Nat.le_refl _)]
 simp
theorem Dw {s:List UInt8} {m:List Nat} {z:Int} (h:As s=(m,z)):Iv m=true/\m.length<=s.length/\((z=-1/\D7 m=s)\/∃ k:Nat,z=k/\k<s.length/\D7 m=s.take k):=by
 obtain ⟨h1,h2⟩:=Ol s.length s
 unfold As at h
 simp only [Prod.mk.injEq] at h
 obtain ⟨rfl,rfl⟩:=h
 have h3:=congrArg List.length h2
 rw [List.length_append] at h3
 have h4:=Aaf (readAll s.length s).1
 refine ⟨h1,by omega,?_⟩
 by_cases h0:(readAll s.length s).2.length=0
 ·rw [if_pos h0]
  refine .inl ⟨rfl,?_⟩
  rw [List.eq_nil_of_length_eq_zero h0,List.append_nil] at h2
  exact h2.symm
 ·rw [if_neg h0]
  refine .inr ⟨_,rfl,by omega,?_⟩
  have e:s.length - (readAll s.length s).2.length=(D7 (readAll s.length s).1).length:=by omega
  rw [e]
  exact (by rw [List.take_left]:List.take (D7 (readAll s.length s).1).length (D7 (readAll s.length s).1 ++ (readAll s.length s).2)=_).symm.trans (by rw [<- h2])
theorem Aae:∀ (t:List UInt8) (k:Nat),Bn t k=-1->∀ b ∈ t,b.toNat<128
 | [],_,_=>λb hb=>by cases hb
 | x::t,k,h=>by
  unfold Bn at h
  split at h
  ·rename_i hx
   intro b hb
   rcases List.mem_cons.1 hb with rfl | hb
   · exact hx
   · exact Aae t (k+1) h b hb
  ·omega
theorem Wf:∀ (t:List UInt8) (k:Nat),Bn t k=-1\/0<=Bn t k
 | [],_=>.inl rfl
 | x::t,k=>by
  unfold Bn
  split
  · exact Wf t (k+1)
  · right;omega
theorem Asi (b:UInt8) (h:b.toNat<128):enc b.toNat=[b]:=by
 unfold enc
 rw [if_pos (by omega)]
 congr 1
 unfold u
 exact UInt8.ofNat_toNat
theorem Ee:∀ (t:List UInt8),(∀ b ∈ t,b.toNat<128)->Ah (t.map λb=>(b.toNat:Int))=t
 | [],_=>rfl
 | x::t,h=>by
  have:=Ee t λb hb=>h b (by simp [hb])
  unfold Ah at this ⊢
  rw [List.map_cons,List.flatMap_cons,this]
  show enc (x.toNat:Int).toNat ++ t=_
  rw [Int.toNat_natCast,Asi x (h x (by simp))]
  rfl
theorem Aru {t:List UInt8} (h:∀ b ∈ t,b.toNat<128):As t=(t.map λb=>b.toNat,-1):=by
 have hr:Af (t.map λb=>(b.toNat:Int))=true:=by
  unfold Af
  rw [List.all_eq_true]
  intro c hc
  obtain ⟨b,hb,rfl⟩:=List.mem_map.1 hc
  have:=h b hb
  exact (Al _).2 (by omega)
 have:=Fv hr
 rw [Ee t h,List.map_map] at this
 exact this
end
section
open Go.RowKit Utf
def Aqw (l:List Int):List UInt8:=if Af l then Ah l else []
def Vo (bs:List UInt8) (ok:Bool) (w:World) (e:Ending) (w':World):Prop:=e=.returned (.tuple #[.string ⟨bs.toArray⟩,.bool ok])/\Below w.heap.size w w'
theorem Ayn {l:List Int} {bs:List UInt8} {ok:Bool} (hr:Af l=ok) (hb:Aqw l=bs) {w:World} {e:Ending} {w':World} (h:Alr l w e w'):Vo bs ok w e w':=by
 obtain ⟨he,hw⟩:=h
 refine ⟨?_,hw⟩
 unfold Aqw at hb
 cases ok with
 | true=>rw [hr] at he hb;rw [if_pos rfl] at hb;rw [he,<- hb];rfl
 | false=>rw [hr] at he hb;rw [if_neg (by decide)] at hb;rw [he,<- hb];rfl
theorem Tj (v:Value) (l:List Int) (w:World) (hl:Runes v l w) (hn:l.length<=20000) {bs:List UInt8} {ok:Bool} (hr:Af l=ok) (hb:Aqw l=bs) :
 Calls Tryz.prog 146 #[v] w (Vo bs ok w):=(Ak6 v l w hl hn).mono λ_ _ h=>Ayn hr hb h
end
section
open Go.RowKit Utf
end
section
open Go.RowKit Utf
end
end Go.Proofs.YtpcgbgfpnhiihaaGreatDoor
