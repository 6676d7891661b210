import Derived.Test.YtickpkccpafjaaaGreatDoorLabPl
import Derived.Test.YtickpkccpafjaaaGreatDoorFoldAll
namespace Go.Proofs.YtickpkccpafjaaaGreatDoor
section
open Go.RowKit Utf
namespace Lab
theorem Apm {bs a u:List UInt8} {E:Int} (h:Da bs=(E,a,u)) (hE:E ≠ 0):a=[]/\u=[]:=by
 unfold Da at h;split at h
 ·generalize Fold.fold (ints (Aq bs).1)=L at h;unfold D9 at h;split at h
  ·split at h
   ·injection h with e1 e2;exact absurd e1.symm hE
   ·injection h with e1 e2;injection e2 with e2 e3;exact ⟨e2.symm,e3.symm⟩
  ·split at h
   ·split at h
    ·injection h with e1 e2;injection e2 with e2 e3;exact ⟨e2.symm,e3.symm⟩
    ·split at h
     ·injection h with e1 e2;injection e2 with e2 e3;exact ⟨e2.symm,e3.symm⟩
     ·split at h
      ·injection h with e1 e2;injection e2 with e2 e3;exact ⟨e2.symm,e3.symm⟩
      ·split at h
       · injection h with e1 e2;injection e2 with e2 e3;exact ⟨e2.symm,e3.symm⟩
       · injection h with e1 e2;exact absurd e1.symm hE
   ·split at h
    ·injection h with e1 e2;exact absurd e1.symm hE
    ·injection h with e1 e2;injection e2 with e2 e3;exact ⟨e2.symm,e3.symm⟩
 ·injection h with e1 e2;injection e2 with e2 e3;exact ⟨e2.symm,e3.symm⟩
theorem Vv {bs a u:List UInt8} (h:Da bs=(0,a,u)):∃ L:List Int,Af L=true/\Fold.fold L=L/\D9 L=(0,a,u)/\(Aq bs).2=-1/\L=Fold.fold (ints (Aq bs).1):=by
 unfold Da at h;split at h
 ·rename_i hz
  exact ⟨_,Ds (Pb hz).1,Fold.I6 _,h,hz,rfl⟩
 ·injection h with e1 e2
  exact absurd e1 jD
theorem Ag1 {bs:List UInt8}:Eg bs=decide (Cd bs=-1):=by
 rw [Bool.eq_iff_iff,F1,decide_eq_true_eq];constructor
 ·intro h;unfold Cd;generalize 0=k;induction bs generalizing k with
  | nil=>rfl
  | cons b t ih =>
   unfold Bm;rw [if_pos (h b jS)];exact ih (λc hc=>h c (by simp [hc])) _
 ·exact Abs bs 0
theorem M5 (bs:List UInt8):(Eg bs=true/\Cd bs=-1)\/(Eg bs=false/\0<=Cd bs):=by
 rw [Ag1];rcases Xh bs 0 with h | h
 ·exact .inl ⟨decide_eq_true h,h⟩
 ·have h':0<=Cd bs:=h;exact .inr ⟨decide_eq_false jO,h'⟩
end Lab
end
section
open Go.RowKit Utf
namespace Lab
theorem Ey {s:ByteArray} {k:Nat} (h:k<s.size):Dr s.data.toList k=(s[k].toNat:Int):=by
 rw [Iw (by simpa using h)];rfl
end Lab
theorem Asw {bs:List UInt8} (h:∀ k,k<bs.length->Bidi.Bw (Lab.Dr bs k)=true):(bs.all λc=>Bidi.Bw (c.toNat:Int))=true:=by
 rw [jar];intro c hc;obtain ⟨k,hk,rfl⟩:=List.getElem_of_mem hc;have:=h k hk;rwa [Lab.Iw hk] at this
theorem Acq {bs:List UInt8} {k:Nat} (hk:k<bs.length) (h:Bidi.Bw (Lab.Dr bs k)=false):(bs.all λc=>Bidi.Bw (c.toNat:Int))=false:=by
 rw [List.all_eq_false];exact ⟨bs[k],List.getElem_mem hk,by rw [<- Lab.Iw hk,h];decide⟩
theorem Ai7 {c:Int} (h0:0<=c):(Bidi.Bw c=false/\((c<45)\/(45<c/\c<48)\/(57<c/\c<65)\/(90<c/\c<97)\/122<c))\/(Bidi.Bw c=true/\(c=45\/(48<=c/\c<=57)\/(65<=c/\c<=90)\/(97<=c/\c<=122))):=by
 unfold Bidi.Bw;by_cases h:c=45\/(48<=c/\c<=57)\/(65<=c/\c<=90)\/(97<=c/\c<=122)
 ·refine .inr ⟨?_,h⟩;simp only [Bool.or_eq_true,jag,decide_eq_true_eq,beq_iff_eq];omega
 ·refine .inl ⟨?_,by omega⟩;rw [<- Bool.not_eq_true];simp only [Bool.or_eq_true,jag,decide_eq_true_eq,beq_iff_eq];omega
end
section
open Go.RowKit Utf
namespace Lab
theorem Ax7:∀ y ∈ splits,(Norm.pieces false y.rune).length<=4:=by decide +kernel
theorem Yy (x:Int):(Norm.pieces false x).length<=4:=by
 cases ho:Ak x with
 | some y =>
  rcases Bi ho with ⟨h1,rfl⟩ | ⟨h1,hy⟩
  ·exact Ax7 y h1
  ·rw [Norm.A9];cases hs:Norm.syl x with
   | true =>
    rw [if_pos rfl];unfold Norm.Cu;split<;>simp
   | false =>
    rw [Z6 h1];simp
 | none =>
  cases hs:Norm.syl x with
  | false=>rw [Gl hs ho];simp
  | true =>
   rw [Norm.A9,hs,if_pos rfl];unfold Norm.Cu;split<;>simp
theorem Ag0 (l:List Int):(Norm.down false l).length<=4*l.length:=by
 have h:=Afi (Norm.Hd (Norm.split false l));unfold Norm.down;rw [<- h];clear h;unfold Norm.split
 induction l with
 | nil=>simp
 | cons x l ih =>
  have:=Yy x;rw [jao,jab,jac];omega
theorem Azt {x:Int} (h:128<=x):2<=(enc x.toNat).length:=by
 unfold enc;rw [if_neg jO];split
 · simp
 · split<;>simp
theorem Av7 {x:Int} (h0:0<=x):(Norm.pieces false (Fold.fo x)).length<=2*(enc x.toNat).length:=by
 by_cases h:x<128
 ·have hf:=Norm.Qn (c:=x) ⟨h0,h⟩;have h1:0<=Fold.fo x/\Fold.fo x<128:=by rw [hf];split<;>omega
  rw [Norm.Dk.1 (Norm.Js h1 false)];have:0<(enc x.toNat).length:=by
   unfold enc;rw [if_pos jO];simp
  simp only [jac,List.length_nil];omega
 ·have:=Yy (Fold.fo x);have:=Azt (x:=x) jO;omega
theorem Zo:∀ {l:List Int},Af l=true->(Norm.split false (l.map Fold.fo)).length<=2*(Ah l).length
 | [],_=>by simp [Norm.split]
 | x::l,h=>by
  have h2:Ai x=true/\Af l=true:=by unfold Af at h ⊢;simpa using h
  have ih:=Zo h2.2;have hx:=Av7 (x:=x) (by have:=(Al _).1 h2.1;omega);unfold Norm.split at ih ⊢
  unfold Ah at ih ⊢;rw [List.map_cons,jao,jao,jab,jab];omega
end Lab
def De (s:ByteArray):Prop:=s.size<=100000/\∀ m,Aq s.data.toList=(m,-1)->Folds s m/\(Fold.fold (ints m)).length<=420
def Mw (s:ByteArray):Prop:=s.size<=100000/\∀ m,Aq s.data.toList=(m,-1)->Fits false s m/\m.length<=420
theorem Iu (bs:List UInt8):(⟨bs.toArray⟩:ByteArray).size=bs.length:=by simp [ByteArray.size]
theorem Az5 {X:List Int} (hX:Af X=true) (hl:X.length<=9600) (hd:(Norm.down false (X.map Fold.fo)).length<=9600) (hf:(Fold.fold X).length<=420):De ⟨(Ah X).toArray⟩:=by
 obtain ⟨i1,-,-⟩:=D5 hX;have h1:=Gh X;refine ⟨by rw [Iu];omega,λm hm=>?_⟩;have h2:=Gp hX;rw [show (⟨(Ah X).toArray⟩:ByteArray).data.toList=Ah X from rfl,h2] at hm;obtain ⟨rfl,-⟩:=Prod.mk.inj hm;exact ⟨⟨by rw [Iu];omega,Gp hX,by rw [jai];omega,by rw [i1];omega⟩,by rw [i1];exact hf⟩
theorem Adu {X:List Int} (hX:Af X=true) (hl:X.length<=420):Mw ⟨(Ah X).toArray⟩:=by
 obtain ⟨i1,-,-⟩:=D5 hX;have h1:=Gh X;have h3:=Lab.Ag0 X;refine ⟨by rw [Iu];omega,λm hm=>?_⟩;have h2:=Gp hX;rw [show (⟨(Ah X).toArray⟩:ByteArray).data.toList=Ah X from rfl,h2] at hm;obtain ⟨rfl,-⟩:=Prod.mk.inj hm;exact ⟨⟨by rw [Iu];omega,Gp hX,by rw [jai];omega,by rw [i1];omega⟩,by rw [jai];exact hl⟩
theorem De.fold {s:ByteArray} (h:De s):Akf s (if (Aq s.data.toList).2=-1 then Ah (Fold.fold (ints (Aq s.data.toList).1)) else []) (decide ((Aq s.data.toList).2=-1)):=by
 obtain ⟨⟨m,z⟩,hrd⟩:∃ p,Aq s.data.toList=p:=⟨_,rfl⟩
 rcases (D6 hrd).2.2 with ⟨rfl,-⟩ | ⟨k,rfl,-,-⟩
 ·rw [hrd,if_pos rfl,decide_eq_true rfl];exact (h.2 m hrd).1.is
 ·have hk:¬ (k:Int)=-1:=jO
  rw [hrd,if_neg hk,decide_eq_false hk];exact Are h.1 hrd
end
