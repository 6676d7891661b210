import Derived.Test.YtppmbilonaflfaaGreatDoorUtfA
namespace Go.Proofs.YtppmbilonaflfaaGreatDoor
section
open Go.RowKit Utf
namespace Utf
def oneOf (s:List UInt8):Int × Int:=match dec s with | some (r,n)=>((r:Int),(n:Int)) | none=>(0,0)
end Utf
def Vj (s:List UInt8) (n:Nat):Prop:=∀ r m,dec s=some (r,m)->n<=m
theorem Vj.next {s:ByteArray} {n v:Nat} (h:Vj s.data.toList n) (hv:∀ r t,s.data.toList=enc r ++ t->right r=true->(enc r).length=n->v=r) (hn:1<=n)
  (hno:It (v:Int)=n->(enc v == (s.extract 0 n).toList)=false):Vj s.data.toList (n+1):=by
 intro r m hd
 have h1:=h r m hd
 obtain ⟨h2,h3,h4⟩:=N4 hd
 rcases (show n+1<=m\/n=m by omega) with h5 | rfl
 ·exact h5
 ·obtain rfl:=hv r _ h4 h2 h3.symm
  have h6:=hno ((Ns v n hn).2 ⟨h2,by rw [<- Iz];exact h3.symm⟩)
  have h7:enc v=(s.extract 0 n).toList:=by
   rw [ByteArray.toList_eq,ByteArray.data_extract,Array.toList_extract,List.extract_eq_take_drop,List.drop_zero,Nat.sub_zero]
   have:=congrArg (List.take n) h4
   rw [h3,List.take_left',<- h3] at this
   · exact this.symm
   · rfl
  rw [h7,beq_self_eq_true] at h6
  cases h6
theorem Vj.none {s:List UInt8} {n:Nat} (h:Vj s n) (hn:n=5\/s.length<n):oneOf s=(0,0):=by
 unfold oneOf
 cases hd:dec s with
 | none=>rfl
 | some p =>
  obtain ⟨r,m⟩:=p
  have h1:=h r m hd
  obtain ⟨h2,h3,h4⟩:=N4 hd
  have h5:=Asx r
  have h6:=congrArg List.length h4
  rw [List.length_append] at h6
  omega
end
section
open Go.RowKit Utf
end
section
open Go.RowKit Utf
def Avw (l:List Nat) (z:Int) (w:World) (e:Ending) (w':World):Prop :=
 ∃ A c,e=.returned (.tuple #[.slice A l.length c,.int .i64 z])/\Runes (.slice A l.length c) (ints l) w'/\Below w.heap.size w w'
theorem Jw (s:ByteArray) (w:World) (hs:s.size<=100000) {l:List Nat} {z:Int} (h:Aq s.data.toList=(l,z)):Calls Tryz.prog 73 #[.string s] w (Avw l z w) :=
 (Th s w hs).mono λ_ _ ⟨v,he,hv,hb⟩=>by
  rw [h] at he hv
  obtain ⟨A,c,rfl,-,-⟩:=hv.form
  simp only [ints,List.length_map] at he hv ⊢
  exact ⟨A,c,he,hv,hb⟩
end
section
open Go.RowKit Utf
theorem Cr {l:List Int} (h:Ag l=true):ints (l.map Int.toNat)=l/\I9 (l.map Int.toNat)=true/\Ef (l.map Int.toNat)=Ah l:=by
 induction l with
 | nil=>exact ⟨rfl,rfl,rfl⟩
 | cons r l ih =>
  simp only [Ag,List.all_cons,Bool.and_eq_true] at h
  obtain ⟨h1,h2,h3⟩:=ih h.2
  have hr:=(Al r).1 h.1
  simp only [ints,I9,Ef,Ah,List.map_cons,List.all_cons,List.flatMap_cons,Bool.and_eq_true] at h1 h2 h3 ⊢
  refine ⟨?_,⟨(Dn _).2 (by omega),h2⟩,by rw [h3]⟩
  rw [h1,show Int.ofNat r.toNat=r by simp;omega]
theorem Li (m:List Nat) (h:I9 m=true):Ag (ints m)=true/\Ah (ints m)=Ef m:=by
 induction m with
 | nil=>exact ⟨rfl,rfl⟩
 | cons r m ih =>
  simp only [I9,List.all_cons,Bool.and_eq_true] at h
  obtain ⟨h1,h2⟩:=ih h.2
  have hr:=(Dn r).1 h.1
  simp only [ints,Ag,Ef,Ah,List.map_cons,List.all_cons,List.flatMap_cons,Bool.and_eq_true] at h1 h2 ⊢
  exact ⟨⟨(Al _).2 (by simp;omega),h1⟩,by rw [h2];simp⟩
theorem E8 {l:List Int} (h:Ag l=true):Aq (Ah l)=(l.map Int.toNat,-1):=by
 obtain ⟨h1,h2,h3⟩:=Cr h
 unfold Aq
 rw [Kn (l.map Int.toNat) (Ah l).length (Ah l) [] (by rw [h3];simp) h2 rfl (Nat.le_refl _)]
 simp
theorem Dt {s:List UInt8} {m:List Nat} {z:Int} (h:Aq s=(m,z)):I9 m=true/\m.length<=s.length/\((z=-1/\Ef m=s)\/∃ k:Nat,z=k/\k<s.length/\Ef m=s.take k):=by
 obtain ⟨h1,h2⟩:=Oh s.length s
 unfold Aq at h
 simp only [Prod.mk.injEq] at h
 obtain ⟨rfl,rfl⟩:=h
 have h3:=congrArg List.length h2
 rw [List.length_append] at h3
 have h4:=Aai (readAll s.length s).1
 refine ⟨h1,by omega,?_⟩
 by_cases h0:(readAll s.length s).2.length=0
 ·rw [if_pos h0]
  refine .inl ⟨rfl,?_⟩
  rw [List.eq_nil_of_length_eq_zero h0,List.append_nil] at h2
  exact h2.symm
 ·rw [if_neg h0]
  refine .inr ⟨_,rfl,by omega,?_⟩
  have e:s.length - (readAll s.length s).2.length=(Ef (readAll s.length s).1).length:=by omega
  rw [e]
  exact (by rw [List.take_left]:List.take (Ef (readAll s.length s).1).length (Ef (readAll s.length s).1 ++ (readAll s.length s).2)=_).symm.trans (by rw [<- h2])
theorem Abw:∀ (t:List UInt8) (k:Nat),Bp t k=-1->∀ b ∈ t,b.toNat<128
 | [],_,_=>λb hb=>by cases hb
 | x::t,k,h=>by
  unfold Bp at h
  split at h
  ·rename_i hx
   intro b hb
   rcases List.mem_cons.1 hb with rfl | hb
   · exact hx
   · exact Abw t (k+1) h b hb
  ·omega
theorem Xl:∀ (t:List UInt8) (k:Nat),Bp t k=-1\/0<=Bp t k
 | [],_=>.inl rfl
 | x::t,k=>by
  unfold Bp
  split
  · exact Xl t (k+1)
  · right;omega
theorem Ate (b:UInt8) (h:b.toNat<128):enc b.toNat=[b]:=by
 unfold enc
 rw [if_pos (by omega)]
 congr 1
 unfold u
 exact UInt8.ofNat_toNat
theorem Em:∀ (t:List UInt8),(∀ b ∈ t,b.toNat<128)->Ah (t.map λb=>(b.toNat:Int))=t
 | [],_=>rfl
 | x::t,h=>by
  have:=Em t λb hb=>h b (by simp [hb])
  unfold Ah at this ⊢
  rw [List.map_cons,List.flatMap_cons,this]
  show enc (x.toNat:Int).toNat ++ t=_
  rw [Int.toNat_natCast,Ate x (h x (by simp))]
  rfl
theorem Asc {t:List UInt8} (h:∀ b ∈ t,b.toNat<128):Aq t=(t.map λb=>b.toNat,-1):=by
 have hr:Ag (t.map λb=>(b.toNat:Int))=true:=by
  unfold Ag
  rw [List.all_eq_true]
  intro c hc
  obtain ⟨b,hb,rfl⟩:=List.mem_map.1 hc
  have:=h b hb
  exact (Al _).2 (by omega)
 have:=E8 hr
 rw [Em t h,List.map_map] at this
 exact this
end
section
open Go.RowKit Utf
def Aqs (l:List Int):List UInt8:=if Ag l then Ah l else []
def Xk (bs:List UInt8) (ok:Bool) (w:World) (e:Ending) (w':World):Prop:=e=.returned (.tuple #[.string ⟨bs.toArray⟩,.bool ok])/\Below w.heap.size w w'
theorem Axz {l:List Int} {bs:List UInt8} {ok:Bool} (hr:Ag l=ok) (hb:Aqs l=bs) {w:World} {e:Ending} {w':World} (h:Aml l w e w'):Xk bs ok w e w':=by
 obtain ⟨he,hw⟩:=h
 refine ⟨?_,hw⟩
 unfold Aqs at hb
 cases ok with
 | true=>rw [hr] at he hb;rw [if_pos rfl] at hb;rw [he,<- hb];rfl
 | false=>rw [hr] at he hb;rw [if_neg (by decide)] at hb;rw [he,<- hb];rfl
theorem Sj (v:Value) (l:List Int) (w:World) (hl:Runes v l w) (hn:l.length<=20000) {bs:List UInt8} {ok:Bool} (hr:Ag l=ok) (hb:Aqs l=bs) :
 Calls Tryz.prog 126 #[v] w (Xk bs ok w):=(Ai3 v l w hl hn).mono λ_ _ h=>Axz hr hb h
end
section
open Go.RowKit Utf
end
section
open Go.RowKit Utf
end
end Go.Proofs.YtppmbilonaflfaaGreatDoor
