import Derived.Test.YtpcgbgfpnhiihabGreatDoorLabPl
import Derived.Test.YtpcgbgfpnhiihabGreatDoorFoldAll
namespace Go.Proofs.YtpcgbgfpnhiihabGreatDoor
section
open Go.RowKit Utf
namespace Lab
theorem Amx {bs a u:List UInt8} {E:Int} (h:Dm bs=(E,a,u)) (hE:E ≠ 0):a=[]/\u=[]:=by
 unfold Dm at h;split at h
 ·generalize Fold.fold (ints (Au bs).1)=L at h;unfold Ef at h;split at h
  ·split at h
   ·injection h with e1 e2;exact absurd e1.symm hE
   ·injection h with e1 e2;injection e2 with e2 e3;exact ⟨e2.symm,e3.symm⟩
  ·split at h
   ·split at h
    ·injection h with e1 e2;injection e2 with e2 e3;exact ⟨e2.symm,e3.symm⟩
    ·split at h
     ·injection h with e1 e2;injection e2 with e2 e3;exact ⟨e2.symm,e3.symm⟩
     ·split at h
      ·injection h with e1 e2;injection e2 with e2 e3;exact ⟨e2.symm,e3.symm⟩
      ·split at h
       · injection h with e1 e2;injection e2 with e2 e3;exact ⟨e2.symm,e3.symm⟩
       · injection h with e1 e2;exact absurd e1.symm hE
   ·split at h
    ·injection h with e1 e2;exact absurd e1.symm hE
    ·injection h with e1 e2;injection e2 with e2 e3;exact ⟨e2.symm,e3.symm⟩
 ·injection h with e1 e2;injection e2 with e2 e3;exact ⟨e2.symm,e3.symm⟩
theorem Me {bs:List UInt8}:Dx bs=decide (Ao bs=-1):=by
 rw [Bool.eq_iff_iff,Ei,decide_eq_true_eq];constructor
 ·intro h;unfold Ao;generalize 0=k;induction bs generalizing k with
  | nil=>rfl
  | cons b t ih =>
   unfold Bo;rw [if_pos (h b jS)];exact ih (λc hc=>h c (by simp [hc])) _
 ·exact Aai bs 0
theorem Eb (bs:List UInt8):(Dx bs=true/\Ao bs=-1)\/(Dx bs=false/\0<=Ao bs):=by
 rw [Me];rcases Wi bs 0 with h | h
 ·exact .inl ⟨decide_eq_true h,h⟩
 ·have h':0<=Ao bs:=h;exact .inr ⟨decide_eq_false jO,h'⟩
end Lab
end
section
open Go.RowKit Utf
namespace Lab
theorem Ev {s:ByteArray} {k:Nat} (h:k<s.size):Dp s.data.toList k=(s[k].toNat:Int):=by
 rw [Ie (by simpa using h)];rfl
end Lab
theorem Apv {bs:List UInt8} (h:∀ k,k<bs.length->Bidi.Ca (Lab.Dp bs k)=true):(bs.all λc=>Bidi.Ca (c.toNat:Int))=true:=by
 rw [jar];intro c hc;obtain ⟨k,hk,rfl⟩:=List.getElem_of_mem hc;have:=h k hk;rwa [Lab.Ie hk] at this
theorem Abb {bs:List UInt8} {k:Nat} (hk:k<bs.length) (h:Bidi.Ca (Lab.Dp bs k)=false):(bs.all λc=>Bidi.Ca (c.toNat:Int))=false:=by
 rw [List.all_eq_false];exact ⟨bs[k],List.getElem_mem hk,by rw [<- Lab.Ie hk,h];decide⟩
theorem Ahb {c:Int} (h0:0<=c):(Bidi.Ca c=false/\((c<45)\/(45<c/\c<48)\/(57<c/\c<65)\/(90<c/\c<97)\/122<c))\/(Bidi.Ca c=true/\(c=45\/(48<=c/\c<=57)\/(65<=c/\c<=90)\/(97<=c/\c<=122))):=by
 unfold Bidi.Ca;by_cases h:c=45\/(48<=c/\c<=57)\/(65<=c/\c<=90)\/(97<=c/\c<=122)
 ·refine .inr ⟨?_,h⟩;simp only [Bool.or_eq_true,jag,decide_eq_true_eq,beq_iff_eq];omega
 ·refine .inl ⟨?_,by omega⟩;rw [<- Bool.not_eq_true];simp only [Bool.or_eq_true,jag,decide_eq_true_eq,beq_iff_eq];omega
end
section
open Go.RowKit Utf
namespace Lab
theorem Aut:∀ y ∈ splits,(Norm.pieces false y.rune).length<=4:=by decide +kernel
theorem Xq (x:Int):(Norm.pieces false x).length<=4:=by
 cases ho:Ah x with
 | some y =>
  rcases Bj ho with ⟨h1,rfl⟩ | ⟨h1,hy⟩
  ·exact Aut y h1
  ·rw [Norm.Az];cases hs:Norm.syl x with
   | true =>
    rw [if_pos rfl];unfold Norm.Cu;split<;>simp
   | false =>
    rw [Yw h1];simp
 | none =>
  cases hs:Norm.syl x with
  | false=>rw [Gk hs ho];simp
  | true =>
   rw [Norm.Az,hs,if_pos rfl];unfold Norm.Cu;split<;>simp
theorem Afi (l:List Int):(Norm.down false l).length<=4*l.length:=by
 have h:=Ad0 (Norm.Gz (Norm.split false l));unfold Norm.down;rw [<- h];clear h;unfold Norm.split
 induction l with
 | nil=>simp
 | cons x l ih =>
  have:=Xq x;rw [jao,jab,jac];omega
theorem Awi {x:Int} (h:128<=x):2<=(enc x.toNat).length:=by
 unfold enc;rw [if_neg jO];split
 · simp
 · split<;>simp
theorem As4 {x:Int} (h0:0<=x):(Norm.pieces false (Fold.fo x)).length<=2*(enc x.toNat).length:=by
 by_cases h:x<128
 ·have hf:=Norm.Px (c:=x) ⟨h0,h⟩;have h1:0<=Fold.fo x/\Fold.fo x<128:=by rw [hf];split<;>omega
  rw [Norm.Dl.1 (Norm.I9 h1 false)];have:0<(enc x.toNat).length:=by
   unfold enc;rw [if_pos jO];simp
  simp only [jac,List.length_nil];omega
 ·have:=Xq (Fold.fo x);have:=Awi (x:=x) jO;omega
theorem Yd:∀ {l:List Int},Ae l=true->(Norm.split false (l.map Fold.fo)).length<=2*(Ag l).length
 | [],_=>by simp [Norm.split]
 | x::l,h=>by
  have h2:Ai x=true/\Ae l=true:=by unfold Ae at h ⊢;simpa using h
  have ih:=Yd h2.2;have hx:=As4 (x:=x) (by have:=(Ak _).1 h2.1;omega);unfold Norm.split at ih ⊢
  unfold Ag at ih ⊢;rw [List.map_cons,jao,jao,jab,jab];omega
end Lab
def Av (s:ByteArray):Prop:=s.size<=100000/\∀ m,Au s.data.toList=(m,-1)->Folds s m/\(Fold.fold (ints m)).length<=420
def Js (s:ByteArray):Prop:=s.size<=100000/\∀ m,Au s.data.toList=(m,-1)->Fits false s m/\m.length<=420
theorem Ib (bs:List UInt8):(⟨bs.toArray⟩:ByteArray).size=bs.length:=by simp [ByteArray.size]
theorem Awr {X:List Int} (hX:Ae X=true) (hl:X.length<=9600) (hd:(Norm.down false (X.map Fold.fo)).length<=9600) (hf:(Fold.fold X).length<=420):Av ⟨(Ag X).toArray⟩:=by
 obtain ⟨i1,-,-⟩:=C8 hX;have h1:=Fo X;refine ⟨by rw [Ib];omega,λm hm=>?_⟩;have h2:=Ff hX;rw [show (⟨(Ag X).toArray⟩:ByteArray).data.toList=Ag X from rfl,h2] at hm;obtain ⟨rfl,-⟩:=Prod.mk.inj hm;exact ⟨⟨by rw [Ib];omega,Ff hX,by rw [jai];omega,by rw [i1];omega⟩,by rw [i1];exact hf⟩
theorem Tp {X:List Int} (hX:Ae X=true) (hl:X.length<=420):Js ⟨(Ag X).toArray⟩:=by
 obtain ⟨i1,-,-⟩:=C8 hX;have h1:=Fo X;have h3:=Lab.Afi X;refine ⟨by rw [Ib];omega,λm hm=>?_⟩;have h2:=Ff hX;rw [show (⟨(Ag X).toArray⟩:ByteArray).data.toList=Ag X from rfl,h2] at hm;obtain ⟨rfl,-⟩:=Prod.mk.inj hm;exact ⟨⟨by rw [Ib];omega,Ff hX,by rw [jai];omega,by rw [i1];omega⟩,by rw [jai];exact hl⟩
theorem Av.fold {s:ByteArray} (h:Av s):Aib s (if (Au s.data.toList).2=-1 then Ag (Fold.fold (ints (Au s.data.toList).1)) else []) (decide ((Au s.data.toList).2=-1)):=by
 obtain ⟨⟨m,z⟩,hrd⟩:∃ p,Au s.data.toList=p:=⟨_,rfl⟩
 rcases (D5 hrd).2.2 with ⟨rfl,-⟩ | ⟨k,rfl,-,-⟩
 ·rw [hrd,if_pos rfl,decide_eq_true rfl];exact (h.2 m hrd).1.is
 ·have hk:¬ (k:Int)=-1:=jO
  rw [hrd,if_neg hk,decide_eq_false hk];exact Aog h.1 hrd
end
