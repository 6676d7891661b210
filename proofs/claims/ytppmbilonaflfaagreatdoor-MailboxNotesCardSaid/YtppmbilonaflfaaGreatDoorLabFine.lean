import Derived.Test.YtppmbilonaflfaaGreatDoorLabPl
import Derived.Test.YtppmbilonaflfaaGreatDoorFoldAll
namespace Go.Proofs.YtppmbilonaflfaaGreatDoor
section
open Go.RowKit Utf
namespace Lab
theorem Alv {bs a u:List UInt8} {E:Int} (h:Ds bs=(E,a,u)) (hE:E ≠ 0):a=[]/\u=[]:=by
 unfold Ds at h
 split at h
 ·generalize Fold.fold (ints (Aq bs).1)=L at h
  unfold Ej at h
  split at h
  ·split at h
   ·injection h with e1 e2;exact absurd e1.symm hE
   ·injection h with e1 e2;injection e2 with e2 e3;exact ⟨e2.symm,e3.symm⟩
  ·split at h
   ·split at h
    ·injection h with e1 e2;injection e2 with e2 e3;exact ⟨e2.symm,e3.symm⟩
    ·split at h
     ·injection h with e1 e2;injection e2 with e2 e3;exact ⟨e2.symm,e3.symm⟩
     ·split at h
      ·injection h with e1 e2;injection e2 with e2 e3;exact ⟨e2.symm,e3.symm⟩
      ·split at h
       · injection h with e1 e2;injection e2 with e2 e3;exact ⟨e2.symm,e3.symm⟩
       · injection h with e1 e2;exact absurd e1.symm hE
   ·split at h
    ·injection h with e1 e2;exact absurd e1.symm hE
    ·injection h with e1 e2;injection e2 with e2 e3;exact ⟨e2.symm,e3.symm⟩
 ·injection h with e1 e2;injection e2 with e2 e3;exact ⟨e2.symm,e3.symm⟩
theorem Afy {bs:List UInt8}:D6 bs=decide (Ao bs=-1):=by
 rw [Bool.eq_iff_iff,Fe,decide_eq_true_eq]
 constructor
 ·intro h
  unfold Ao
  generalize 0=k
  induction bs generalizing k with
  | nil=>rfl
  | cons b t ih =>
   unfold Bp
   rw [if_pos (h b (by simp))]
   exact ih (λc hc=>h c (by simp [hc])) _
 ·exact Abw bs 0
theorem C8 (bs:List UInt8):(D6 bs=true/\Ao bs=-1)\/(D6 bs=false/\0<=Ao bs):=by
 rw [Afy]
 rcases Xl bs 0 with h | h
 ·exact .inl ⟨decide_eq_true h,h⟩
 ·have h':0<=Ao bs:=h
  exact .inr ⟨decide_eq_false (by omega),h'⟩
end Lab
end
section
open Go.RowKit Utf
namespace Lab
theorem Ey {s:ByteArray} {k:Nat} (h:k<s.size):Dv s.data.toList k=(s[k].toNat:Int):=by
 rw [Io (by simpa using h)]
 rfl
end Lab
theorem Aqp {bs:List UInt8} (h:∀ k,k<bs.length->Bidi.Bl (Lab.Dv bs k)=true):(bs.all λc=>Bidi.Bl (c.toNat:Int))=true:=by
 rw [List.all_eq_true]
 intro c hc
 obtain ⟨k,hk,rfl⟩:=List.getElem_of_mem hc
 have:=h k hk
 rwa [Lab.Io hk] at this
theorem Aa0 {bs:List UInt8} {k:Nat} (hk:k<bs.length) (h:Bidi.Bl (Lab.Dv bs k)=false):(bs.all λc=>Bidi.Bl (c.toNat:Int))=false:=by
 rw [List.all_eq_false]
 exact ⟨bs[k],List.getElem_mem hk,by rw [<- Lab.Io hk,h];decide⟩
theorem Aez {c:Int} (h0:0<=c):(Bidi.Bl c=false/\((c<45)\/(45<c/\c<48)\/(57<c/\c<65)\/(90<c/\c<97)\/122<c))\/(Bidi.Bl c=true/\(c=45\/(48<=c/\c<=57)\/(65<=c/\c<=90)\/(97<=c/\c<=122))):=by
 unfold Bidi.Bl
 by_cases h:c=45\/(48<=c/\c<=57)\/(65<=c/\c<=90)\/(97<=c/\c<=122)
 ·refine .inr ⟨?_,h⟩
  simp only [Bool.or_eq_true,Bool.and_eq_true,decide_eq_true_eq,beq_iff_eq]
  omega
 ·refine .inl ⟨?_,by omega⟩
  rw [<- Bool.not_eq_true]
  simp only [Bool.or_eq_true,Bool.and_eq_true,decide_eq_true_eq,beq_iff_eq]
  omega
end
section
open Go.RowKit Utf
namespace Lab
theorem Aug:∀ y ∈ splits,(Norm.pieces false y.rune).length<=4:=by decide +kernel
theorem Ya (x:Int):(Norm.pieces false x).length<=4:=by
 cases ho:Aj x with
 | some y =>
  rcases Bk ho with ⟨h1,rfl⟩ | ⟨h1,hy⟩
  ·exact Aug y h1
  ·rw [Norm.A9]
   cases hs:Norm.syl x with
   | true =>
    rw [if_pos rfl]
    unfold Norm.Cv
    split<;>simp
   | false =>
    rw [Wf h1]
    simp
 | none =>
  cases hs:Norm.syl x with
  | false=>rw [Ge hs ho];simp
  | true =>
   rw [Norm.A9,hs,if_pos rfl]
   unfold Norm.Cv
   split<;>simp
theorem Xy (l:List Int):(Norm.down false l).length<=4*l.length:=by
 have h:=Acs (Norm.Gs (Norm.split false l))
 unfold Norm.down
 rw [<- h]
 clear h
 unfold Norm.split
 induction l with
 | nil=>simp
 | cons x l ih =>
  have:=Ya x
  rw [List.flatMap_cons,List.length_append,List.length_cons]
  omega
theorem Awj {x:Int} (h:128<=x):2<=(enc x.toNat).length:=by
 unfold enc
 rw [if_neg (by omega)]
 split
 · simp
 · split<;>simp
theorem Atk {x:Int} (h0:0<=x):(Norm.pieces false (Fold.fo x)).length<=2*(enc x.toNat).length:=by
 by_cases h:x<128
 ·have hf:=Norm.Rh (c:=x) ⟨h0,h⟩
  have h1:0<=Fold.fo x/\Fold.fo x<128:=by rw [hf];split<;>omega
  rw [Norm.Dp.1 (Norm.Jc h1 false)]
  have:0<(enc x.toNat).length:=by
   unfold enc
   rw [if_pos (by omega)]
   simp
  simp only [List.length_cons,List.length_nil]
  omega
 ·have:=Ya (Fold.fo x)
  have:=Awj (x:=x) (by omega)
  omega
theorem Yl:∀ {l:List Int},Ag l=true->(Norm.split false (l.map Fold.fo)).length<=2*(Ah l).length
 | [],_=>by simp [Norm.split]
 | x::l,h=>by
  have h2:Ak x=true/\Ag l=true:=by unfold Ag at h ⊢;simpa using h
  have ih:=Yl h2.2
  have hx:=Atk (x:=x) (by have:=(Al _).1 h2.1;omega)
  unfold Norm.split at ih ⊢
  unfold Ah at ih ⊢
  rw [List.map_cons,List.flatMap_cons,List.flatMap_cons,List.length_append,List.length_append]
  omega
end Lab
def Az (s:ByteArray):Prop:=s.size<=100000/\∀ m,Aq s.data.toList=(m,-1)->Folds s m/\(Fold.fold (ints m)).length<=420
def Ke (s:ByteArray):Prop:=s.size<=100000/\∀ m,Aq s.data.toList=(m,-1)->Fits false s m/\m.length<=420
theorem Ih (bs:List UInt8):(⟨bs.toArray⟩:ByteArray).size=bs.length:=by simp [ByteArray.size]
theorem Alz {X:List Int} (hX:Ag X=true) (hl:X.length<=9600) (hd:(Norm.down false (X.map Fold.fo)).length<=9600) (hf:(Fold.fold X).length<=420):Az ⟨(Ah X).toArray⟩:=by
 obtain ⟨i1,-,-⟩:=Cr hX
 have h1:=Fm X
 refine ⟨by rw [Ih];omega,λm hm=>?_⟩
 have h2:=E8 hX
 rw [show (⟨(Ah X).toArray⟩:ByteArray).data.toList=Ah X from rfl,h2] at hm
 obtain ⟨rfl,-⟩:=Prod.mk.inj hm
 exact ⟨⟨by rw [Ih];omega,E8 hX,by rw [List.length_map];omega,by rw [i1];omega⟩,by rw [i1];exact hf⟩
theorem Sn {X:List Int} (hX:Ag X=true) (hl:X.length<=420):Ke ⟨(Ah X).toArray⟩:=by
 obtain ⟨i1,-,-⟩:=Cr hX
 have h1:=Fm X
 have h3:=Lab.Xy X
 refine ⟨by rw [Ih];omega,λm hm=>?_⟩
 have h2:=E8 hX
 rw [show (⟨(Ah X).toArray⟩:ByteArray).data.toList=Ah X from rfl,h2] at hm
 obtain ⟨rfl,-⟩:=Prod.mk.inj hm
 exact ⟨⟨by rw [Ih];omega,E8 hX,by rw [List.length_map];omega,by rw [i1];omega⟩,by rw [List.length_map];exact hl⟩
theorem Az.fold {s:ByteArray} (h:Az s):Ajy s (if (Aq s.data.toList).2=-1 then Ah (Fold.fold (ints (Aq s.data.toList).1)) else []) (decide ((Aq s.data.toList).2=-1)):=by
 obtain ⟨⟨m,z⟩,hrd⟩:∃ p,Aq s.data.toList=p:=⟨_,rfl⟩
 rcases (Dt hrd).2.2 with ⟨rfl,-⟩ | ⟨k,rfl,-,-⟩
 ·rw [hrd,if_pos rfl,decide_eq_true rfl]
  exact (h.2 m hrd).1.is
 ·have hk:¬ (k:Int)=-1:=by omega
  rw [hrd,if_neg hk,decide_eq_false hk]
  exact Aog h.1 hrd
end
end Go.Proofs.YtppmbilonaflfaaGreatDoor
