import Derived.Test.YthnhgmdlbfbhjaaGreatLabPl
import Derived.Test.YthnhgmdlbfbhjaaGreatFoldAll
namespace Go.Proofs.YthnhgmdlbfbhjaaGreat
section
open Go.RowKit Utf
namespace Lab
theorem Z5 {bs a u:List UInt8} {E:Int} (h:Bj bs=(E,a,u)) (hE:E ≠ 0):a=[]/\u=[]:=by
 unfold Bj at h;split at h
 ·generalize Fold.fold (ints (A9 bs).1)=L at h;unfold Eh at h;split at h
  ·split at h
   ·injection h with e1 e2;exact absurd e1.symm hE
   ·injection h with e1 e2;injection e2 with e2 e3;exact ⟨e2.symm,e3.symm⟩
  ·split at h
   ·split at h
    ·injection h with e1 e2;injection e2 with e2 e3;exact ⟨e2.symm,e3.symm⟩
    ·split at h
     ·injection h with e1 e2;injection e2 with e2 e3;exact ⟨e2.symm,e3.symm⟩
     ·split at h
      ·injection h with e1 e2;injection e2 with e2 e3;exact ⟨e2.symm,e3.symm⟩
      ·split at h
       · injection h with e1 e2;injection e2 with e2 e3;exact ⟨e2.symm,e3.symm⟩
       · injection h with e1 e2;exact absurd e1.symm hE
   ·split at h
    ·injection h with e1 e2;exact absurd e1.symm hE
    ·injection h with e1 e2;injection e2 with e2 e3;exact ⟨e2.symm,e3.symm⟩
 ·injection h with e1 e2;injection e2 with e2 e3;exact ⟨e2.symm,e3.symm⟩
theorem Mx {bs a u:List UInt8} (h:Bj bs=(0,a,u)):∃ L:List Int,Ad L=true/\Fold.fold L=L/\Eh L=(0,a,u)/\(A9 bs).2=-1/\L=Fold.fold (ints (A9 bs).1):=by
 unfold Bj at h;split at h
 ·rename_i hz
  exact ⟨_,Dj (Jf hz).1,Fold.F2 _,h,hz,rfl⟩
 ·injection h with e1 e2
  exact absurd e1 jD
theorem Abh {bs:List UInt8}:Bp bs=decide (Ba bs=-1):=by
 rw [Bool.eq_iff_iff,D5,decide_eq_true_eq];constructor
 ·intro h;unfold Ba;generalize 0=k;induction bs generalizing k with
  | nil=>rfl
  | cons b t ih =>
   unfold Bn;rw [if_pos (h b jS)];exact ih (λc hc=>h c (by simp [hc])) _
 ·exact Xu bs 0
theorem D9 (bs:List UInt8):(Bp bs=true/\Ba bs=-1)\/(Bp bs=false/\0<=Ba bs):=by
 rw [Abh];rcases Uq bs 0 with h | h
 ·exact .inl ⟨decide_eq_true h,h⟩
 ·have h':0<=Ba bs:=h;exact .inr ⟨decide_eq_false jO,h'⟩
theorem Arv {bs a u:List UInt8} (h:Bj bs=(0,a,u)):∃ U:List Int,u=Ae U/\Ad U=true/\Fold.fold U=U/\U.length<=63/\Bj u=(0,a,u)/\Bj a=(0,a,u)/\Ba a=-1/\0<a.length/\a.length<=63:=by
 obtain ⟨L,hr,hf,hL,-,-⟩:=Mx h;obtain ⟨U,hu,rU,fU,lU,bU,aA,fA,bA,l0,l1⟩:=back hr hf hL;refine ⟨U,hu,rU,fU,lU,?_,?_,?_,l0,l1⟩
 ·rw [hu,Ds rU,fU,bU,<- hu]
 ·have:Bj (Ae (chars a))=(0,a,u):=by rw [Ds (Da aA),fA];exact bA
  rwa [show Ae (chars a)=a from Du a aA] at this
 ·rcases D9 a with ⟨-,h⟩ | ⟨h,-⟩
  · exact h
  · rw [D5.2 aA] at h;cases h
theorem Aru {bs a u:List UInt8} (h:Bj bs=(0,a,u)) :
  (Bp u=false/\4<a.length/\a.take 4=sign/\Df u=0/\((Bp bs=true/\Ll bs=2)\/(Bp bs=false/\Ll bs=3))) \/
  (Bp u=true/\¬ (4<a.length/\a.take 4=sign)/\a=u/\Cx a=0/\(Ll bs=1\/Ll bs=3)):=by
 obtain ⟨L,hr,hf,hL,hz,he⟩:=Mx h;have hk:Ll bs=if Bp bs=false then 3 else if (bs.take 4).map Aw=sign then 2 else 1:=by
  unfold Ll;rw [h,if_neg jS]
 have hs:Bp bs=true->Ae L=bs.map Aw:=by
  intro ha;have ha:=D5.1 ha;have e:bs=Ae (chars bs):=(Du bs ha).symm;have h1:=D4 (Da ha);rw [<- e] at h1;rw [he,h1];show Ae (Fold.fold (ints ((chars bs).map Int.toNat)))=_;rw [(Ce (Da ha)).1];have hA:Norm.Bp (chars bs):=by
   intro c hc;obtain ⟨b,hb,rfl⟩:=List.mem_map.1 hc;have:=ha b hb;omega
  rw [Norm.Gy hA,show ((chars bs).map λc=>if 65<=c/\c<=90 then c+32 else c)=chars (bs.map Aw) by
   unfold chars;rw [List.map_map,List.map_map];refine List.map_congr_left λb hb=>?_;have hb1:=ha b hb;show (if 65<=(b.toNat:Int)/\(b.toNat:Int)<=90 then (b.toNat:Int)+32 else b.toNat)=((Aw b).toNat:Int)
   unfold Aw;by_cases hc:65<=b.toNat/\b.toNat<=90
   ·rw [if_pos jO,if_pos hc,Au jO];omega
   ·rw [if_neg jO,if_neg hc]]
  exact Du _ λb hb=>by
   obtain ⟨c,hc,rfl⟩:=List.mem_map.1 hb;exact Ac2 c (ha c hc)
 have htk:Bp bs=true->((bs.take 4).map Aw=sign ↔ (Ae L).take 4=sign):=λha=>by rw [hs ha,List.map_take]
 rcases Agq hr hL with ⟨f1,f2,f3,f4,f5⟩ | ⟨f1,f2,f3,f4,f5,f6⟩
 ·refine .inl ⟨f1,f2,f3,f4,?_⟩;cases ha:Bp bs with
  | false=>exact .inr ⟨rfl,by rw [hk,if_pos ha]⟩
  | true =>
   have hl:Bp (Ae L)=true:=by
    rw [hs ha];refine D5.2 λb hb=>?_;obtain ⟨c,hc,rfl⟩:=List.mem_map.1 hb;exact Ac2 c (D5.1 ha c hc)
   exact .inl ⟨rfl,by rw [hk,if_neg (by rw [ha];decide),if_pos ((htk ha).2 (f5 hl))]⟩
 ·refine .inr ⟨f1,f2,f3,f4,?_⟩;cases ha:Bp bs with
  | false=>exact .inr (by rw [hk,if_pos ha])
  | true=>exact .inl (by rw [hk,if_neg (by rw [ha];decide),if_neg (λhc=>f6 ((htk ha).1 hc))])
theorem Arl {bs a u:List UInt8} {E:Int} (h:Bj bs=(E,a,u)) (hE:E ≠ 0):Ll bs=0:=by
 unfold Ll;rw [h,if_pos hE]
end Lab
end
section
open Go.RowKit Utf
namespace Lab
theorem Apm:Cw []=false:=rfl
theorem Ec {s:ByteArray} {k:Nat} (h:k<s.size):Cv s.data.toList k=(s[k].toNat:Int):=by
 rw [Ih (by simpa using h)];rfl
theorem Adx {r:Int} (h45:(r == 45)=false):C9 r=(decide (2<=Bm r) && decide (Bm r<=5) && (!(Aj r).isSome || (!((Aj r).getD default).soft && !((Aj r).getD default).out))):=by
 unfold C9;rw [h45,Bool.false_or];cases Aj r<;>rfl
end Lab
theorem Yk {bs:List UInt8} (h:∀ k,k<bs.length->Bidi.Bx (Lab.Cv bs k)=true):(bs.all λc=>Bidi.Bx (c.toNat:Int))=true:=by
 rw [jar];intro c hc;obtain ⟨k,hk,rfl⟩:=List.getElem_of_mem hc;have:=h k hk;rwa [Lab.Ih hk] at this
theorem Rp {bs:List UInt8} {k:Nat} (hk:k<bs.length) (h:Bidi.Bx (Lab.Cv bs k)=false):(bs.all λc=>Bidi.Bx (c.toNat:Int))=false:=by
 rw [List.all_eq_false];exact ⟨bs[k],List.getElem_mem hk,by rw [<- Lab.Ih hk,h];decide⟩
theorem Ss {c:Int} (h0:0<=c):(Bidi.Bx c=false/\((c<45)\/(45<c/\c<48)\/(57<c/\c<65)\/(90<c/\c<97)\/122<c))\/(Bidi.Bx c=true/\(c=45\/(48<=c/\c<=57)\/(65<=c/\c<=90)\/(97<=c/\c<=122))):=by
 unfold Bidi.Bx;by_cases h:c=45\/(48<=c/\c<=57)\/(65<=c/\c<=90)\/(97<=c/\c<=122)
 ·refine .inr ⟨?_,h⟩;simp only [Bool.or_eq_true,jag,decide_eq_true_eq,beq_iff_eq];omega
 ·refine .inl ⟨?_,by omega⟩;rw [<- Bool.not_eq_true];simp only [Bool.or_eq_true,jag,decide_eq_true_eq,beq_iff_eq];omega
end
section
open Go.RowKit Utf
namespace Lab
theorem Amk:∀ y ∈ splits,(Norm.pieces false y.rune).length<=4:=by decide +kernel
theorem Vw (x:Int):(Norm.pieces false x).length<=4:=by
 cases ho:Aj x with
 | some y =>
  rcases Bv ho with ⟨h1,rfl⟩ | ⟨h1,hy⟩
  ·exact Amk y h1
  ·rw [Norm.Ax];cases hs:Norm.syl x with
   | true =>
    rw [if_pos rfl];unfold Norm.Cn;split<;>simp
   | false =>
    rw [Wr h1];simp
 | none =>
  cases hs:Norm.syl x with
  | false=>rw [Ge hs ho];simp
  | true =>
   rw [Norm.Ax,hs,if_pos rfl];unfold Norm.Cn;split<;>simp
theorem Pj (l:List Int):(Norm.down false l).length<=4*l.length:=by
 have h:=Tr (Norm.Fi (Norm.split false l));unfold Norm.down;rw [<- h];clear h;unfold Norm.split
 induction l with
 | nil=>simp
 | cons x l ih =>
  have:=Vw x;rw [jao,jab,jac];omega
theorem Anu {x:Int} (h:128<=x):2<=(enc x.toNat).length:=by
 unfold enc;rw [if_neg jO];split
 · simp
 · split<;>simp
theorem Alc {x:Int} (h0:0<=x):(Norm.pieces false (Fold.fo x)).length<=2*(enc x.toNat).length:=by
 by_cases h:x<128
 ·have hf:=Norm.Oo (c:=x) ⟨h0,h⟩;have h1:0<=Fold.fo x/\Fold.fo x<128:=by rw [hf];split<;>omega
  rw [Norm.Dw.1 (Norm.I9 h1 false)];have:0<(enc x.toNat).length:=by
   unfold enc;rw [if_pos jO];simp
  simp only [jac,List.length_nil];omega
 ·have:=Vw (Fold.fo x);have:=Anu (x:=x) jO;omega
theorem Qj:∀ {l:List Int},Ad l=true->(Norm.split false (l.map Fold.fo)).length<=2*(Ae l).length
 | [],_=>by simp [Norm.split]
 | x::l,h=>by
  have h2:Ak x=true/\Ad l=true:=by unfold Ad at h ⊢;simpa using h
  have ih:=Qj h2.2;have hx:=Alc (x:=x) (by have:=(An _).1 h2.1;omega);unfold Norm.split at ih ⊢
  unfold Ae at ih ⊢;rw [List.map_cons,jao,jao,jab,jab];omega
theorem U4 {l:List Int} (h:Ad l=true):(Fold.fold l).length<=2*(Ae l).length:=by
 have h1:=Qj h;have h2:=Tr (Norm.Fi (Norm.split false (l.map Fold.fo)));have h3:=Jz (Norm.down false (l.map Fold.fo));unfold Norm.down at h3;unfold Fold.fold Norm.down;omega
end Lab
def Bc (s:ByteArray):Prop:=s.size<=100000/\∀ m,A9 s.data.toList=(m,-1)->Folds s m/\(Fold.fold (ints m)).length<=420
def Jq (s:ByteArray):Prop:=s.size<=100000/\∀ m,A9 s.data.toList=(m,-1)->Fits false s m/\m.length<=420
theorem Asx {s:ByteArray} (hs:s.size<=150):Bc s:=by
 refine ⟨by omega,λm hm=>⟨Abn jO hm,?_⟩⟩;obtain ⟨h1,h2⟩:=Lab.Jf (s:=s.data.toList) (by rw [hm]);rw [hm] at h1 h2;have h3:(Fold.fold (ints m)).length<=2*(Ae (ints m)).length:=Lab.U4 h1;have h4:s.data.toList=Ae (ints m):=h2;rw [<- h4] at h3;have e:s.data.toList.length=s.size:=by simp
 omega
theorem Ash {s:ByteArray} (hs:s.size<=200):Jq s:=by
 refine ⟨by omega,λm hm=>⟨Anw hs hm false,?_⟩⟩;have:=(Cu hm).2.1;simp at this;omega
theorem C5 (bs:List UInt8):(⟨bs.toArray⟩:ByteArray).size=bs.length:=by simp [ByteArray.size]
theorem Agv {X:List Int} (hX:Ad X=true) (hl:X.length<=9600) (hd:(Norm.down false (X.map Fold.fo)).length<=9600) (hf:(Fold.fold X).length<=420):Bc ⟨(Ae X).toArray⟩:=by
 obtain ⟨i1,-,-⟩:=Ce hX;have h1:=Db X;refine ⟨by rw [C5];omega,λm hm=>?_⟩;have h2:=D4 hX;rw [show (⟨(Ae X).toArray⟩:ByteArray).data.toList=Ae X from rfl,h2] at hm;obtain ⟨rfl,-⟩:=Prod.mk.inj hm;exact ⟨⟨by rw [C5];omega,D4 hX,by rw [jai];omega,by rw [i1];omega⟩,by rw [i1];exact hf⟩
theorem Y9 {X:List Int} (hX:Ad X=true) (hl:X.length<=420):Jq ⟨(Ae X).toArray⟩:=by
 obtain ⟨i1,-,-⟩:=Ce hX;have h1:=Db X;have h3:=Lab.Pj X;refine ⟨by rw [C5];omega,λm hm=>?_⟩;have h2:=D4 hX;rw [show (⟨(Ae X).toArray⟩:ByteArray).data.toList=Ae X from rfl,h2] at hm;obtain ⟨rfl,-⟩:=Prod.mk.inj hm;exact ⟨⟨by rw [C5];omega,D4 hX,by rw [jai];omega,by rw [i1];omega⟩,by rw [jai];exact hl⟩
theorem Bc.fold {s:ByteArray} (h:Bc s):Fk s (if (A9 s.data.toList).2=-1 then Ae (Fold.fold (ints (A9 s.data.toList).1)) else []) (decide ((A9 s.data.toList).2=-1)):=by
 obtain ⟨⟨m,z⟩,hrd⟩:∃ p,A9 s.data.toList=p:=⟨_,rfl⟩
 rcases (Cu hrd).2.2 with ⟨rfl,-⟩ | ⟨k,rfl,-,-⟩
 ·rw [hrd,if_pos rfl,decide_eq_true rfl];exact (h.2 m hrd).1.is
 ·have hk:¬ (k:Int)=-1:=jO
  rw [hrd,if_neg hk,decide_eq_false hk];exact Na h.1 hrd
end
