import Derived.Test.YtipkfalbepiphaaGreatDoorLabPl
import Derived.Test.YtipkfalbepiphaaGreatDoorFoldAll
namespace Go.Proofs.YtipkfalbepiphaaGreatDoor
section
open Go.RowKit Utf
namespace Lab
theorem Ary {bs a u:List UInt8} {E:Int} (h:Dz bs=(E,a,u)) (hE:E ≠ 0):a=[]/\u=[]:=by
 unfold Dz at h;split at h
 ·generalize Fold.fold (ints (Au bs).1)=L at h;unfold Eo at h;split at h
  ·split at h
   ·injection h with e1 e2;exact absurd e1.symm hE
   ·injection h with e1 e2;injection e2 with e2 e3;exact ⟨e2.symm,e3.symm⟩
  ·split at h
   ·split at h
    ·injection h with e1 e2;injection e2 with e2 e3;exact ⟨e2.symm,e3.symm⟩
    ·split at h
     ·injection h with e1 e2;injection e2 with e2 e3;exact ⟨e2.symm,e3.symm⟩
     ·split at h
      ·injection h with e1 e2;injection e2 with e2 e3;exact ⟨e2.symm,e3.symm⟩
      ·split at h
       · injection h with e1 e2;injection e2 with e2 e3;exact ⟨e2.symm,e3.symm⟩
       · injection h with e1 e2;exact absurd e1.symm hE
   ·split at h
    ·injection h with e1 e2;exact absurd e1.symm hE
    ·injection h with e1 e2;injection e2 with e2 e3;exact ⟨e2.symm,e3.symm⟩
 ·injection h with e1 e2;injection e2 with e2 e3;exact ⟨e2.symm,e3.symm⟩
theorem Kf {bs:List UInt8}:Eb bs=decide (Ao bs=-1):=by
 rw [Bool.eq_iff_iff,Du,decide_eq_true_eq];constructor
 ·intro h;unfold Ao;generalize 0=k;induction bs generalizing k with
  | nil=>rfl
  | cons b t ih =>
   unfold Br;rw [if_pos (h b jS)];exact ih (λc hc=>h c (by simp [hc])) _
 ·exact Ac3 bs 0
theorem Gg (bs:List UInt8):(Eb bs=true/\Ao bs=-1)\/(Eb bs=false/\0<=Ao bs):=by
 rw [Kf];rcases Yk bs 0 with h | h
 ·exact .inl ⟨decide_eq_true h,h⟩
 ·have h':0<=Ao bs:=h;exact .inr ⟨decide_eq_false jO,h'⟩
end Lab
end
section
open Go.RowKit Utf
namespace Lab
theorem Fa {s:ByteArray} {k:Nat} (h:k<s.size):D4 s.data.toList k=(s[k].toNat:Int):=by
 rw [Je (by simpa using h)];rfl
end Lab
theorem Au8 {bs:List UInt8} (h:∀ k,k<bs.length->Bidi.Ce (Lab.D4 bs k)=true):(bs.all λc=>Bidi.Ce (c.toNat:Int))=true:=by
 rw [jar];intro c hc;obtain ⟨k,hk,rfl⟩:=List.getElem_of_mem hc;have:=h k hk;rwa [Lab.Je hk] at this
theorem Ad5 {bs:List UInt8} {k:Nat} (hk:k<bs.length) (h:Bidi.Ce (Lab.D4 bs k)=false):(bs.all λc=>Bidi.Ce (c.toNat:Int))=false:=by
 rw [List.all_eq_false];exact ⟨bs[k],List.getElem_mem hk,by rw [<- Lab.Je hk,h];decide⟩
theorem Ak1 {c:Int} (h0:0<=c):(Bidi.Ce c=false/\((c<45)\/(45<c/\c<48)\/(57<c/\c<65)\/(90<c/\c<97)\/122<c))\/(Bidi.Ce c=true/\(c=45\/(48<=c/\c<=57)\/(65<=c/\c<=90)\/(97<=c/\c<=122))):=by
 unfold Bidi.Ce;by_cases h:c=45\/(48<=c/\c<=57)\/(65<=c/\c<=90)\/(97<=c/\c<=122)
 ·refine .inr ⟨?_,h⟩;simp only [Bool.or_eq_true,jag,decide_eq_true_eq,beq_iff_eq];omega
 ·refine .inl ⟨?_,by omega⟩;rw [<- Bool.not_eq_true];simp only [Bool.or_eq_true,jag,decide_eq_true_eq,beq_iff_eq];omega
end
section
open Go.RowKit Utf
namespace Lab
theorem A1d:∀ y ∈ splits,(Norm.pieces false y.rune).length<=4:=by decide +kernel
theorem Zy (x:Int):(Norm.pieces false x).length<=4:=by
 cases ho:Ak x with
 | some y =>
  rcases Bn ho with ⟨h1,rfl⟩ | ⟨h1,hy⟩
  ·exact A1d y h1
  ·rw [Norm.Ba];cases hs:Norm.syl x with
   | true =>
    rw [if_pos rfl];unfold Norm.C9;split<;>simp
   | false =>
    rw [Aa4 h1];simp
 | none =>
  cases hs:Norm.syl x with
  | false=>rw [Gw hs ho];simp
  | true =>
   rw [Norm.Ba,hs,if_pos rfl];unfold Norm.C9;split<;>simp
theorem Aiu (l:List Int):(Norm.down false l).length<=4*l.length:=by
 have h:=Ag1 (Norm.Ho (Norm.split false l));unfold Norm.down;rw [<- h];clear h;unfold Norm.split
 induction l with
 | nil=>simp
 | cons x l ih =>
  have:=Zy x;rw [jao,jab,jac];omega
theorem A3f {x:Int} (h:128<=x):2<=(enc x.toNat).length:=by
 unfold enc;rw [if_neg jO];split
 · simp
 · split<;>simp
theorem Ay6 {x:Int} (h0:0<=x):(Norm.pieces false (Fold.fo x)).length<=2*(enc x.toNat).length:=by
 by_cases h:x<128
 ·have hf:=Norm.Rj (c:=x) ⟨h0,h⟩;have h1:0<=Fold.fo x/\Fold.fo x<128:=by rw [hf];split<;>omega
  rw [Norm.Dy.1 (Norm.Kd h1 false)];have:0<(enc x.toNat).length:=by
   unfold enc;rw [if_pos jO];simp
  simp only [jac,List.length_nil];omega
 ·have:=Zy (Fold.fo x);have:=A3f (x:=x) jO;omega
theorem Aao:∀ {l:List Int},Ae l=true->(Norm.split false (l.map Fold.fo)).length<=2*(Ah l).length
 | [],_=>by simp [Norm.split]
 | x::l,h=>by
  have h2:Aj x=true/\Ae l=true:=by unfold Ae at h ⊢;simpa using h
  have ih:=Aao h2.2;have hx:=Ay6 (x:=x) (by have:=(An _).1 h2.1;omega);unfold Norm.split at ih ⊢
  unfold Ah at ih ⊢;rw [List.map_cons,jao,jao,jab,jab];omega
end Lab
def Cx (s:ByteArray):Prop:=s.size<=100000/\∀ m,Au s.data.toList=(m,-1)->Folds s m/\(Fold.fold (ints m)).length<=520
def Nj (s:ByteArray):Prop:=s.size<=100000/\∀ m,Au s.data.toList=(m,-1)->Fits false s m/\m.length<=520
theorem Jc (bs:List UInt8):(⟨bs.toArray⟩:ByteArray).size=bs.length:=by simp [ByteArray.size]
theorem A3v {X:List Int} (hX:Ae X=true) (hl:X.length<=9600) (hd:(Norm.down false (X.map Fold.fo)).length<=9600) (hf:(Fold.fold X).length<=520):Cx ⟨(Ah X).toArray⟩:=by
 obtain ⟨i1,-,-⟩:=Ed hX;have h1:=Gr X;refine ⟨by rw [Jc];omega,λm hm=>?_⟩;have h2:=Gy hX;rw [show (⟨(Ah X).toArray⟩:ByteArray).data.toList=Ah X from rfl,h2] at hm;obtain ⟨rfl,-⟩:=Prod.mk.inj hm;exact ⟨⟨by rw [Jc];omega,Gy hX,by rw [jai];omega,by rw [i1];omega⟩,by rw [i1];exact hf⟩
theorem Ae0 {X:List Int} (hX:Ae X=true) (hl:X.length<=520):Nj ⟨(Ah X).toArray⟩:=by
 obtain ⟨i1,-,-⟩:=Ed hX;have h1:=Gr X;have h3:=Lab.Aiu X;refine ⟨by rw [Jc];omega,λm hm=>?_⟩;have h2:=Gy hX;rw [show (⟨(Ah X).toArray⟩:ByteArray).data.toList=Ah X from rfl,h2] at hm;obtain ⟨rfl,-⟩:=Prod.mk.inj hm;exact ⟨⟨by rw [Jc];omega,Gy hX,by rw [jai];omega,by rw [i1];omega⟩,by rw [jai];exact hl⟩
theorem Cx.fold {s:ByteArray} (h:Cx s):Amd s (if (Au s.data.toList).2=-1 then Ah (Fold.fold (ints (Au s.data.toList).1)) else []) (decide ((Au s.data.toList).2=-1)):=by
 obtain ⟨⟨m,z⟩,hrd⟩:∃ p,Au s.data.toList=p:=⟨_,rfl⟩
 rcases (Eu hrd).2.2 with ⟨rfl,-⟩ | ⟨k,rfl,-,-⟩
 ·rw [hrd,if_pos rfl,decide_eq_true rfl];exact (h.2 m hrd).1.is
 ·have hk:¬ (k:Int)=-1:=jO
  rw [hrd,if_neg hk,decide_eq_false hk];exact Atm h.1 hrd
end
