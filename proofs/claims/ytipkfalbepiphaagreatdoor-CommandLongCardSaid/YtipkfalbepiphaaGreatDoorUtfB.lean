import Derived.Test.YtipkfalbepiphaaGreatDoorUtfA
namespace Go.Proofs.YtipkfalbepiphaaGreatDoor
open Tryz
section
open Go.RowKit Utf
namespace Utf
def oneOf (s:List UInt8):Int × Int:=match dec s with | some (r,n)=>((r:Int),(n:Int)) | none=>(0,0)
end Utf
def Axj (s:List UInt8) (n:Nat):Prop:=∀ r m,dec s=some (r,m)->n<=m
theorem Axj.none {s:List UInt8} {n:Nat} (h:Axj s n) (hn:n=5\/s.length<n):oneOf s=(0,0):=by
 unfold oneOf;cases hd:dec s with
 | none=>rfl
 | some p =>
  obtain ⟨r,m⟩:=p;have h1:=h r m hd;obtain ⟨h2,h3,h4⟩:=Uc hd;have h5:=Ayu r;have h6:=congrArg List.length h4;rw [jab] at h6;omega
end
section
open Go.RowKit Utf
end
section
open Go.RowKit Utf
def A2q (l:List Nat) (z:Int) (w:World) (e:Ending) (w':World):Prop :=
 ∃ A c,e=.returned (.tuple #[.slice A l.length c,.int .i64 z])/\Runes (.slice A l.length c) (ints l) w'/\Below w.heap.size w w'
theorem Tc (s:ByteArray) (w:World) (hs:s.size<=100000) {l:List Nat} {z:Int} (h:Au s.data.toList=(l,z)):Calls prog 98 #[.string s] w (A2q l z w) :=
 (Vb s w hs).mono λ_ _ ⟨v,he,hv,hb⟩=>by
  rw [h] at he hv;obtain ⟨A,c,rfl,-,-⟩:=hv.form;simp only [ints,jai] at he hv ⊢;exact ⟨A,c,he,hv,hb⟩
end
section
open Go.RowKit Utf
theorem Ed {l:List Int} (h:Ae l=true):ints (l.map Int.toNat)=l/\J3 (l.map Int.toNat)=true/\Ek (l.map Int.toNat)=Ah l:=by
 induction l with
 | nil=>exact ⟨rfl,rfl,rfl⟩
 | cons r l ih =>
  simp only [Ae,List.all_cons,jag] at h;obtain ⟨h1,h2,h3⟩:=ih h.2;have hr:=(An r).1 h.1;simp only [ints,J3,Ek,Ah,List.map_cons,List.all_cons,jao,jag] at h1 h2 h3 ⊢;refine ⟨?_,⟨(Dw _).2 jO,h2⟩,by rw [h3]⟩;rw [h1,show Int.ofNat r.toNat=r by simp;omega]
theorem Mh (m:List Nat) (h:J3 m=true):Ae (ints m)=true/\Ah (ints m)=Ek m:=by
 induction m with
 | nil=>exact ⟨rfl,rfl⟩
 | cons r m ih =>
  simp only [J3,List.all_cons,jag] at h;obtain ⟨h1,h2⟩:=ih h.2;have hr:=(Dw r).1 h.1;simp only [ints,Ae,Ek,Ah,List.map_cons,List.all_cons,jao,jag] at h1 h2 ⊢;exact ⟨⟨(An _).2 (by simp;omega),h1⟩,by rw [h2];simp⟩
theorem Gy {l:List Int} (h:Ae l=true):Au (Ah l)=(l.map Int.toNat,-1):=by
 obtain ⟨h1,h2,h3⟩:=Ed h;unfold Au;rw [My (l.map Int.toNat) (Ah l).length (Ah l) [] (by rw [h3];simp) h2 rfl (jaa _)];simp
theorem Eu {s:List UInt8} {m:List Nat} {z:Int} (h:Au s=(m,z)):J3 m=true/\m.length<=s.length/\((z=-1/\Ek m=s)\/∃ k:Nat,z=k/\k<s.length/\Ek m=s.take k):=by
 obtain ⟨h1,h2⟩:=P9 s.length s;unfold Au at h;simp only [Prod.mk.injEq] at h;obtain ⟨rfl,rfl⟩:=h;have h3:=congrArg List.length h2;rw [jab] at h3;have h4:=Ac4 (readAll s.length s).1;refine ⟨h1,by omega,?_⟩;by_cases h0:(readAll s.length s).2.length=0
 ·rw [if_pos h0];refine .inl ⟨rfl,?_⟩;rw [List.eq_nil_of_length_eq_zero h0,List.append_nil] at h2;exact h2.symm
 ·rw [if_neg h0];refine .inr ⟨_,rfl,by omega,?_⟩;have e:s.length - (readAll s.length s).2.length=(Ek (readAll s.length s).1).length:=jO
  rw [e];exact (by rw [List.take_left]:List.take (Ek (readAll s.length s).1).length (Ek (readAll s.length s).1 ++ (readAll s.length s).2)=_).symm.trans (by rw [<- h2])
theorem Ac3:∀ (t:List UInt8) (k:Nat),Br t k=-1->∀ b ∈ t,b.toNat<128
 | [],_,_=>λb hb=>by cases hb
 | x::t,k,h=>by
  unfold Br at h;split at h
  ·rename_i hx
   intro b hb;rcases jal.1 hb with rfl | hb
   · exact hx
   · exact Ac3 t (k+1) h b hb
  ·omega
theorem Yk:∀ (t:List UInt8) (k:Nat),Br t k=-1\/0<=Br t k
 | [],_=>.inl rfl
 | x::t,k=>by
  unfold Br;split
  · exact Yk t (k+1)
  · right;omega
theorem Ayt (b:UInt8) (h:b.toNat<128):enc b.toNat=[b]:=by
 unfold enc;rw [if_pos jO];congr 1;unfold u;exact UInt8.ofNat_toNat
theorem Dv:∀ (t:List UInt8),(∀ b ∈ t,b.toNat<128)->Ah (t.map λb=>(b.toNat:Int))=t
 | [],_=>rfl
 | x::t,h=>by
  have:=Dv t λb hb=>h b (by simp [hb]);unfold Ah at this ⊢;rw [List.map_cons,jao,this];show enc (x.toNat:Int).toNat ++ t=_;rw [Int.toNat_natCast,Ayt x (h x jS)];rfl
theorem Axu {t:List UInt8} (h:∀ b ∈ t,b.toNat<128):Au t=(t.map λb=>b.toNat,-1):=by
 have hr:Ae (t.map λb=>(b.toNat:Int))=true:=by
  unfold Ae;rw [jar];intro c hc;obtain ⟨b,hb,rfl⟩:=List.mem_map.1 hc;have:=h b hb;exact (An _).2 jO
 have:=Gy hr;rw [Dv t h,List.map_map] at this;exact this
end
section
open Go.RowKit Utf
def Awo (l:List Int):List UInt8:=if Ae l then Ah l else []
def Xr (bs:List UInt8) (ok:Bool) (w:World) (e:Ending) (w':World):Prop:=e=.returned (.tuple #[.string ⟨bs.toArray⟩,.bool ok])/\Below w.heap.size w w'
theorem A6k {l:List Int} {bs:List UInt8} {ok:Bool} (hr:Ae l=ok) (hb:Awo l=bs) {w:World} {e:Ending} {w':World} (h:Aqr l w e w'):Xr bs ok w e w':=by
 obtain ⟨he,hw⟩:=h;refine ⟨?_,hw⟩;unfold Awo at hb;cases ok with
 | true=>rw [hr] at he hb;rw [if_pos rfl] at hb;rw [he,<- hb];rfl
 | false=>rw [hr] at he hb;rw [if_neg jD] at hb;rw [he,<- hb];rfl
theorem Vf (v:Value) (l:List Int) (w:World) (hl:Runes v l w) (hn:l.length<=20000) {bs:List UInt8} {ok:Bool} (hr:Ae l=ok) (hb:Awo l=bs) :
 Calls prog 180 #[v] w (Xr bs ok w):=(Ap2 v l w hl hn).mono λ_ _ h=>A6k hr hb h
end
section
open Go.RowKit Utf
end
section
open Go.RowKit Utf
end
