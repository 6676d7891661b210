import Derived.Test.YtickpkccpafjaaaGreatDoorUtfA
namespace Go.Proofs.YtickpkccpafjaaaGreatDoor
open Tryz
section
open Go.RowKit Utf
namespace Utf
def oneOf (s:List UInt8):Int × Int:=match dec s with | some (r,n)=>((r:Int),(n:Int)) | none=>(0,0)
end Utf
theorem hit {s:ByteArray} {v n:Nat} (hn:1<=n) (hl:Ir (v:Int)=n) (he:(enc v == (s.extract 0 n).toList)=true):oneOf s.data.toList=((v:Int),(n:Int)):=by
 have h1:=(Lt v n hn).1 hl;rw [beq_iff_eq,ByteArray.toList_eq,ByteArray.data_extract,Array.toList_extract,List.extract_eq_take_drop,List.drop_zero,Nat.sub_zero] at he;have h2:=Vw v h1.1 (s.data.toList.drop n);rw [he,List.take_append_drop,<- he,Gy,h1.2] at h2;unfold oneOf;rw [h2]
def Wl (s:List UInt8) (n:Nat):Prop:=∀ r m,dec s=some (r,m)->n<=m
theorem Wl.next {s:ByteArray} {n v:Nat} (h:Wl s.data.toList n) (hv:∀ r t,s.data.toList=enc r ++ t->right r=true->(enc r).length=n->v=r) (hn:1<=n)
  (hno:Ir (v:Int)=n->(enc v == (s.extract 0 n).toList)=false):Wl s.data.toList (n+1):=by
 intro r m hd;have h1:=h r m hd;obtain ⟨h2,h3,h4⟩:=Oa hd;rcases (show n+1<=m\/n=m by omega) with h5 | rfl
 ·exact h5
 ·obtain rfl:=hv r _ h4 h2 h3.symm;have h6:=hno ((Lt v n hn).2 ⟨h2,by rw [<- Gy];exact h3.symm⟩);have h7:enc v=(s.extract 0 n).toList:=by
   rw [ByteArray.toList_eq,ByteArray.data_extract,Array.toList_extract,List.extract_eq_take_drop,List.drop_zero,Nat.sub_zero];have:=congrArg (List.take n) h4;rw [h3,List.take_left',<- h3] at this
   · exact this.symm
   · rfl
  rw [h7,beq_self_eq_true] at h6;cases h6
theorem Wl.none {s:List UInt8} {n:Nat} (h:Wl s n) (hn:n=5\/s.length<n):oneOf s=(0,0):=by
 unfold oneOf;cases hd:dec s with
 | none=>rfl
 | some p =>
  obtain ⟨r,m⟩:=p;have h1:=h r m hd;obtain ⟨h2,h3,h4⟩:=Oa hd;have h5:=Avu r;have h6:=congrArg List.length h4;rw [jab] at h6;omega
end
section
open Go.RowKit Utf
end
section
open Go.RowKit Utf
def Ay8 (l:List Nat) (z:Int) (w:World) (e:Ending) (w':World):Prop :=
 ∃ A c,e=.returned (.tuple #[.slice A l.length c,.int .i64 z])/\Runes (.slice A l.length c) (ints l) w'/\Below w.heap.size w w'
theorem R7 (s:ByteArray) (w:World) (hs:s.size<=100000) {l:List Nat} {z:Int} (h:Aq s.data.toList=(l,z)):Calls prog 44 #[.string s] w (Ay8 l z w) :=
 (On s w hs).mono λ_ _ ⟨v,he,hv,hb⟩=>by
  rw [h] at he hv;obtain ⟨A,c,rfl,-,-⟩:=hv.form;simp only [ints,jai] at he hv ⊢;exact ⟨A,c,he,hv,hb⟩
end
section
open Go.RowKit Utf
theorem D5 {l:List Int} (h:Af l=true):ints (l.map Int.toNat)=l/\Jn (l.map Int.toNat)=true/\Ec (l.map Int.toNat)=Ah l:=by
 induction l with
 | nil=>exact ⟨rfl,rfl,rfl⟩
 | cons r l ih =>
  simp only [Af,List.all_cons,jag] at h;obtain ⟨h1,h2,h3⟩:=ih h.2;have hr:=(Al r).1 h.1;simp only [ints,Jn,Ec,Ah,List.map_cons,List.all_cons,jao,jag] at h1 h2 h3 ⊢;refine ⟨?_,⟨(Dj _).2 jO,h2⟩,by rw [h3]⟩;rw [h1,show Int.ofNat r.toNat=r by simp;omega]
theorem Lp (m:List Nat) (h:Jn m=true):Af (ints m)=true/\Ah (ints m)=Ec m:=by
 induction m with
 | nil=>exact ⟨rfl,rfl⟩
 | cons r m ih =>
  simp only [Jn,List.all_cons,jag] at h;obtain ⟨h1,h2⟩:=ih h.2;have hr:=(Dj r).1 h.1;simp only [ints,Af,Ec,Ah,List.map_cons,List.all_cons,jao,jag] at h1 h2 ⊢;exact ⟨⟨(Al _).2 (by simp;omega),h1⟩,by rw [h2];simp⟩
theorem Gp {l:List Int} (h:Af l=true):Aq (Ah l)=(l.map Int.toNat,-1):=by
 obtain ⟨h1,h2,h3⟩:=D5 h;unfold Aq;rw [Md (l.map Int.toNat) (Ah l).length (Ah l) [] (by rw [h3];simp) h2 rfl (jaa _)];simp
theorem D6 {s:List UInt8} {m:List Nat} {z:Int} (h:Aq s=(m,z)):Jn m=true/\m.length<=s.length/\((z=-1/\Ec m=s)\/∃ k:Nat,z=k/\k<s.length/\Ec m=s.take k):=by
 obtain ⟨h1,h2⟩:=Pc s.length s;unfold Aq at h;simp only [Prod.mk.injEq] at h;obtain ⟨rfl,rfl⟩:=h;have h3:=congrArg List.length h2;rw [jab] at h3;have h4:=Abt (readAll s.length s).1;refine ⟨h1,by omega,?_⟩;by_cases h0:(readAll s.length s).2.length=0
 ·rw [if_pos h0];refine .inl ⟨rfl,?_⟩;rw [List.eq_nil_of_length_eq_zero h0,List.append_nil] at h2;exact h2.symm
 ·rw [if_neg h0];refine .inr ⟨_,rfl,by omega,?_⟩;have e:s.length - (readAll s.length s).2.length=(Ec (readAll s.length s).1).length:=jO
  rw [e];exact (by rw [List.take_left]:List.take (Ec (readAll s.length s).1).length (Ec (readAll s.length s).1 ++ (readAll s.length s).2)=_).symm.trans (by rw [<- h2])
theorem Abs:∀ (t:List UInt8) (k:Nat),Bm t k=-1->∀ b ∈ t,b.toNat<128
 | [],_,_=>λb hb=>by cases hb
 | x::t,k,h=>by
  unfold Bm at h;split at h
  ·rename_i hx
   intro b hb;rcases jal.1 hb with rfl | hb
   · exact hx
   · exact Abs t (k+1) h b hb
  ·omega
theorem Xh:∀ (t:List UInt8) (k:Nat),Bm t k=-1\/0<=Bm t k
 | [],_=>.inl rfl
 | x::t,k=>by
  unfold Bm;split
  · exact Xh t (k+1)
  · right;omega
theorem Avt (b:UInt8) (h:b.toNat<128):enc b.toNat=[b]:=by
 unfold enc;rw [if_pos jO];congr 1;unfold u;exact UInt8.ofNat_toNat
theorem En:∀ (t:List UInt8),(∀ b ∈ t,b.toNat<128)->Ah (t.map λb=>(b.toNat:Int))=t
 | [],_=>rfl
 | x::t,h=>by
  have:=En t λb hb=>h b (by simp [hb]);unfold Ah at this ⊢;rw [List.map_cons,jao,this];show enc (x.toNat:Int).toNat ++ t=_;rw [Int.toNat_natCast,Avt x (h x jS)];rfl
theorem Au1 {t:List UInt8} (h:∀ b ∈ t,b.toNat<128):Aq t=(t.map λb=>b.toNat,-1):=by
 have hr:Af (t.map λb=>(b.toNat:Int))=true:=by
  unfold Af;rw [jar];intro c hc;obtain ⟨b,hb,rfl⟩:=List.mem_map.1 hc;have:=h b hb;exact (Al _).2 jO
 have:=Gp hr;rw [En t h,List.map_map] at this;exact this
end
section
open Go.RowKit Utf
def At5 (l:List Int):List UInt8:=if Af l then Ah l else []
def Wo (bs:List UInt8) (ok:Bool) (w:World) (e:Ending) (w':World):Prop:=e=.returned (.tuple #[.string ⟨bs.toArray⟩,.bool ok])/\Below w.heap.size w w'
theorem A2d {l:List Int} {bs:List UInt8} {ok:Bool} (hr:Af l=ok) (hb:At5 l=bs) {w:World} {e:Ending} {w':World} (h:Aoj l w e w'):Wo bs ok w e w':=by
 obtain ⟨he,hw⟩:=h;refine ⟨?_,hw⟩;unfold At5 at hb;cases ok with
 | true=>rw [hr] at he hb;rw [if_pos rfl] at hb;rw [he,<- hb];rfl
 | false=>rw [hr] at he hb;rw [if_neg jD] at hb;rw [he,<- hb];rfl
theorem Uh (v:Value) (l:List Int) (w:World) (hl:Runes v l w) (hn:l.length<=20000) {bs:List UInt8} {ok:Bool} (hr:Af l=ok) (hb:At5 l=bs) :
 Calls prog 156 #[v] w (Wo bs ok w):=(Anw v l w hl hn).mono λ_ _ h=>A2d hr hb h
end
section
open Go.RowKit Utf
end
section
open Go.RowKit Utf
end
