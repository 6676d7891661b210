import Derived.Test.YtpcgbgfpnhiihaaGreatDoorLabPl
import Derived.Test.YtpcgbgfpnhiihaaGreatDoorFoldAll
namespace Go.Proofs.YtpcgbgfpnhiihaaGreatDoor
section
open Go.RowKit Utf
namespace Lab
theorem Amn {bs a u:List UInt8} {E:Int} (h:Er bs=(E,a,u)) (hE:E ≠ 0):a=[]/\u=[]:=by
 unfold Er at h
 split at h
 ·generalize Fold.fold (ints (As bs).1)=L at h
  unfold Ej at h
  split at h
  ·split at h
   ·injection h with e1 e2;exact absurd e1.symm hE
   ·injection h with e1 e2;injection e2 with e2 e3;exact ⟨e2.symm,e3.symm⟩
  ·split at h
   ·split at h
    ·injection h with e1 e2;injection e2 with e2 e3;exact ⟨e2.symm,e3.symm⟩
    ·split at h
     ·injection h with e1 e2;injection e2 with e2 e3;exact ⟨e2.symm,e3.symm⟩
     ·split at h
      ·injection h with e1 e2;injection e2 with e2 e3;exact ⟨e2.symm,e3.symm⟩
      ·split at h
       · injection h with e1 e2;injection e2 with e2 e3;exact ⟨e2.symm,e3.symm⟩
       · injection h with e1 e2;exact absurd e1.symm hE
   ·split at h
    ·injection h with e1 e2;exact absurd e1.symm hE
    ·injection h with e1 e2;injection e2 with e2 e3;exact ⟨e2.symm,e3.symm⟩
 ·injection h with e1 e2;injection e2 with e2 e3;exact ⟨e2.symm,e3.symm⟩
theorem Afc {bs:List UInt8}:Du bs=decide (Bj bs=-1):=by
 rw [Bool.eq_iff_iff,Fx,decide_eq_true_eq]
 constructor
 ·intro h
  unfold Bj
  generalize 0=k
  induction bs generalizing k with
  | nil=>rfl
  | cons b t ih =>
   unfold Bn
   rw [if_pos (h b (by simp))]
   exact ih (λc hc=>h c (by simp [hc])) _
 ·exact Aae bs 0
theorem F2 (bs:List UInt8):(Du bs=true/\Bj bs=-1)\/(Du bs=false/\0<=Bj bs):=by
 rw [Afc]
 rcases Wf bs 0 with h | h
 ·exact .inl ⟨decide_eq_true h,h⟩
 ·have h':0<=Bj bs:=h
  exact .inr ⟨decide_eq_false (by omega),h'⟩
end Lab
end
section
open Go.RowKit Utf
namespace Lab
theorem Es {s:ByteArray} {k:Nat} (h:k<s.size):Dk s.data.toList k=(s[k].toNat:Int):=by
 rw [Ib (by simpa using h)]
 rfl
end Lab
theorem Apj {bs:List UInt8} (h:∀ k,k<bs.length->Bidi.Ca (Lab.Dk bs k)=true):(bs.all λc=>Bidi.Ca (c.toNat:Int))=true:=by
 rw [List.all_eq_true]
 intro c hc
 obtain ⟨k,hk,rfl⟩:=List.getElem_of_mem hc
 have:=h k hk
 rwa [Lab.Ib hk] at this
theorem Aa7 {bs:List UInt8} {k:Nat} (hk:k<bs.length) (h:Bidi.Ca (Lab.Dk bs k)=false):(bs.all λc=>Bidi.Ca (c.toNat:Int))=false:=by
 rw [List.all_eq_false]
 exact ⟨bs[k],List.getElem_mem hk,by rw [<- Lab.Ib hk,h];decide⟩
theorem Ag3 {c:Int} (h0:0<=c):(Bidi.Ca c=false/\((c<45)\/(45<c/\c<48)\/(57<c/\c<65)\/(90<c/\c<97)\/122<c))\/(Bidi.Ca c=true/\(c=45\/(48<=c/\c<=57)\/(65<=c/\c<=90)\/(97<=c/\c<=122))):=by
 unfold Bidi.Ca
 by_cases h:c=45\/(48<=c/\c<=57)\/(65<=c/\c<=90)\/(97<=c/\c<=122)
 ·refine .inr ⟨?_,h⟩
  simp only [Bool.or_eq_true,Bool.and_eq_true,decide_eq_true_eq,beq_iff_eq]
  omega
 ·refine .inl ⟨?_,by omega⟩
  rw [<- Bool.not_eq_true]
  simp only [Bool.or_eq_true,Bool.and_eq_true,decide_eq_true_eq,beq_iff_eq]
  omega
end
section
open Go.RowKit Utf
namespace Lab
theorem Aui:∀ y ∈ splits,(Norm.pieces false y.rune).length<=4:=by decide +kernel
theorem Xo (x:Int):(Norm.pieces false x).length<=4:=by
 cases ho:Aj x with
 | some y =>
  rcases Bi ho with ⟨h1,rfl⟩ | ⟨h1,hy⟩
  ·exact Aui y h1
  ·rw [Norm.Ay]
   cases hs:Norm.syl x with
   | true =>
    rw [if_pos rfl]
    unfold Norm.Cr
    split<;>simp
   | false =>
    rw [Yt h1]
    simp
 | none =>
  cases hs:Norm.syl x with
  | false=>rw [Gh hs ho];simp
  | true =>
   rw [Norm.Ay,hs,if_pos rfl]
   unfold Norm.Cr
   split<;>simp
theorem Afb (l:List Int):(Norm.down false l).length<=4*l.length:=by
 have h:=Adv (Norm.Gw (Norm.split false l))
 unfold Norm.down
 rw [<- h]
 clear h
 unfold Norm.split
 induction l with
 | nil=>simp
 | cons x l ih =>
  have:=Xo x
  rw [List.flatMap_cons,List.length_append,List.length_cons]
  omega
theorem Av5 {x:Int} (h:128<=x):2<=(enc x.toNat).length:=by
 unfold enc
 rw [if_neg (by omega)]
 split
 · simp
 · split<;>simp
theorem Ast {x:Int} (h0:0<=x):(Norm.pieces false (Fold.fo x)).length<=2*(enc x.toNat).length:=by
 by_cases h:x<128
 ·have hf:=Norm.Px (c:=x) ⟨h0,h⟩
  have h1:0<=Fold.fo x/\Fold.fo x<128:=by rw [hf];split<;>omega
  rw [Norm.Di.1 (Norm.I8 h1 false)]
  have:0<(enc x.toNat).length:=by
   unfold enc
   rw [if_pos (by omega)]
   simp
  simp only [List.length_cons,List.length_nil]
  omega
 ·have:=Xo (Fold.fo x)
  have:=Av5 (x:=x) (by omega)
  omega
theorem Ya:∀ {l:List Int},Af l=true->(Norm.split false (l.map Fold.fo)).length<=2*(Ah l).length
 | [],_=>by simp [Norm.split]
 | x::l,h=>by
  have h2:Ak x=true/\Af l=true:=by unfold Af at h ⊢;simpa using h
  have ih:=Ya h2.2
  have hx:=Ast (x:=x) (by have:=(Al _).1 h2.1;omega)
  unfold Norm.split at ih ⊢
  unfold Ah at ih ⊢
  rw [List.map_cons,List.flatMap_cons,List.flatMap_cons,List.length_append,List.length_append]
  omega
end Lab
def Au (s:ByteArray):Prop:=s.size<=100000/\∀ m,As s.data.toList=(m,-1)->Folds s m/\(Fold.fold (ints m)).length<=420
def Jt (s:ByteArray):Prop:=s.size<=100000/\∀ m,As s.data.toList=(m,-1)->Fits false s m/\m.length<=420
theorem Hy (bs:List UInt8):(⟨bs.toArray⟩:ByteArray).size=bs.length:=by simp [ByteArray.size]
theorem Awe {X:List Int} (hX:Af X=true) (hl:X.length<=9600) (hd:(Norm.down false (X.map Fold.fo)).length<=9600) (hf:(Fold.fold X).length<=420):Au ⟨(Ah X).toArray⟩:=by
 obtain ⟨i1,-,-⟩:=Dg hX
 have h1:=Fh X
 refine ⟨by rw [Hy];omega,λm hm=>?_⟩
 have h2:=Fv hX
 rw [show (⟨(Ah X).toArray⟩:ByteArray).data.toList=Ah X from rfl,h2] at hm
 obtain ⟨rfl,-⟩:=Prod.mk.inj hm
 exact ⟨⟨by rw [Hy];omega,Fv hX,by rw [List.length_map];omega,by rw [i1];omega⟩,by rw [i1];exact hf⟩
theorem Tp {X:List Int} (hX:Af X=true) (hl:X.length<=420):Jt ⟨(Ah X).toArray⟩:=by
 obtain ⟨i1,-,-⟩:=Dg hX
 have h1:=Fh X
 have h3:=Lab.Afb X
 refine ⟨by rw [Hy];omega,λm hm=>?_⟩
 have h2:=Fv hX
 rw [show (⟨(Ah X).toArray⟩:ByteArray).data.toList=Ah X from rfl,h2] at hm
 obtain ⟨rfl,-⟩:=Prod.mk.inj hm
 exact ⟨⟨by rw [Hy];omega,Fv hX,by rw [List.length_map];omega,by rw [i1];omega⟩,by rw [List.length_map];exact hl⟩
theorem Au.fold {s:ByteArray} (h:Au s):Ah4 s (if (As s.data.toList).2=-1 then Ah (Fold.fold (ints (As s.data.toList).1)) else []) (decide ((As s.data.toList).2=-1)):=by
 obtain ⟨⟨m,z⟩,hrd⟩:∃ p,As s.data.toList=p:=⟨_,rfl⟩
 rcases (Dw hrd).2.2 with ⟨rfl,-⟩ | ⟨k,rfl,-,-⟩
 ·rw [hrd,if_pos rfl,decide_eq_true rfl]
  exact (h.2 m hrd).1.is
 ·have hk:¬ (k:Int)=-1:=by omega
  rw [hrd,if_neg hk,decide_eq_false hk]
  exact An8 h.1 hrd
end
end Go.Proofs.YtpcgbgfpnhiihaaGreatDoor
