import Derived.Test.YtppmbilonaflfaaGreatDoorLabFine
import Derived.Lib.DecodeN
namespace Go.Proofs.YtppmbilonaflfaaGreatDoor
section
open Go.RowKit Utf
namespace Wall
def Bx (x:Int):Bool:=(decide (0<=x) && decide (x<=47)) || (decide (58<=x) && decide (x<=64)) || (decide (91<=x) && decide (x<=96)) || (decide (123<=x) && decide (x<=127)) || x == 12290
theorem Alp {d:Int} (h:Bx d=true):d=12290\/∃ n:Nat,n<128/\d=n:=by
 unfold Bx at h
 simp only [Bool.or_eq_true,Bool.and_eq_true,decide_eq_true_eq,beq_iff_eq] at h
 by_cases e:d=12290
 · exact .inl e
 · exact .inr ⟨d.toNat,by omega,by omega⟩
theorem O7 {d:Int} (h:Bx d=true):(0<=d/\d<=127)\/d=12290:=by
 rcases Alp h with h | ⟨n,h1,rfl⟩
 · exact .inr h
 · exact .inl (by omega)
theorem Zv:∀ y ∈ splits,(y.soft=false->y.out=false->Bx y.one=false/\Bx y.two=false)/\(Norm.pieces false y.rune).all (λc=>!Bx c)=true:=by decide +kernel
def Xt (x:Int):Bool:=!Bx x || (Af x == 0 && decide (Norm.pieces false x=[x]) && decide (Fold.fo x=x))
theorem Rf:(∀ n,n<128->Xt ((n:Nat):Int)=true)/\Xt 12290=true:=by decide +kernel
theorem Xi {d:Int} (h:Bx d=true):Af d=0/\Norm.pieces false d=[d]/\Fold.fo d=d:=by
 have:Xt d=true:=by
  rcases Alp h with rfl | ⟨n,h1,rfl⟩
  · exact Rf.2
  · exact Rf.1 n h1
 unfold Xt at this
 rw [h] at this
 simp only [Bool.not_true,Bool.false_or,Bool.and_eq_true,beq_iff_eq,decide_eq_true_eq] at this
 exact ⟨this.1.1,this.1.2,this.2⟩
theorem Wy {d:Int} (h:Bx d=true):Af d=0:=(Xi h).1
theorem Tt {d:Int} (h:Bx d=true):Norm.pieces false d=[d]:=(Xi h).2.1
theorem Av2 {d:Int} (h:Bx d=true):Fold.fo d=d:=(Xi h).2.2
theorem Aok {a b:Int} (h:Bx a=true\/Bx b=true):Gq a b=none:=by
 cases hp:Gq a b with
 | none=>rfl
 | some z =>
  obtain ⟨y,hy,h1,h2,ho⟩:=F0 hp
  obtain ⟨-,-,h4⟩:=Ot hy ho
  rcases Bk hy with ⟨h3,-⟩ | ⟨-,rfl⟩
  ·have:=(Zv y h3).1 h4 ho
   rw [h1,h2] at this
   rcases h with h | h
   · rw [h] at this;exact absurd this.1 (by decide)
   · rw [h] at this;exact absurd this.2 (by decide)
  ·cases ho
theorem Abd {a b:Int} (h:Bx a=true\/Bx b=true):Norm.Dy a b=none:=by
 have ha:Bx a=true->(0<=a/\a<=127)\/a=12290:=O7
 have hb:Bx b=true->(0<=b/\b<=127)\/b=12290:=O7
 unfold Norm.Dy
 rw [if_neg (by rcases h with h | h;have:=ha h;omega;have:=hb h;omega),if_neg (λe=>by
  have:=(Norm.Ch a).1 e.1
  rcases h with h | h
  · have:=ha h;omega
  · have:=hb h;omega)]
 exact Aok h
theorem Anc {d:Int} (hd:Bx d=true) (S R:List Int) (c:Int):Norm.step (S ++ d::R) c=Norm.step S c ++ d::R:=by
 have h0:¬ 0<Af d:=by rw [Wy hd];omega
 unfold Norm.step
 rw [List.dropWhile_append,List.takeWhile_append]
 cases hdw:S.dropWhile (λy=>decide (0<Af y)) with
 | nil =>
  have ht:S.takeWhile (λy=>decide (0<Af y))=S:=by
   have:=List.takeWhile_append_dropWhile (p:=λy=>decide (0<Af y)) (l:=S)
   rw [hdw,List.append_nil] at this
   exact this
  rw [ht,if_pos rfl]
  simp only [List.isEmpty_nil,if_true,List.dropWhile_cons,h0,decide_false,Bool.false_eq_true,if_false,Abd (Or.inl hd)]
  split<;>rfl
 | cons s A =>
  have ht:¬ (S.takeWhile (λy=>decide (0<Af y))).length=S.length:=by
   have:=congrArg List.length (List.takeWhile_append_dropWhile (p:=λy=>decide (0<Af y)) (l:=S))
   rw [hdw,List.length_append,List.length_cons] at this
   omega
  rw [if_neg ht]
  simp only [List.isEmpty_cons,Bool.false_eq_true,if_false,List.cons_append]
  split
  ·split
   · rw [List.append_assoc];rfl
   · rfl
  ·rfl
theorem Apm {d:Int} (hd:Bx d=true) (R:List Int):Norm.step R d=d::R:=by
 unfold Norm.step
 split
 ·rfl
 ·split
  · rw [Abd (Or.inr hd)]
  · rfl
theorem Wc {d:Int} (hd:Bx d=true):∀ (q S R:List Int),q.foldl Norm.step (S ++ d::R)=q.foldl Norm.step S ++ d::R
 | [],_,_=>rfl
 | c::q,S,R=>by rw [List.foldl_cons,List.foldl_cons,Anc hd,Wc hd q]
theorem Abk {d:Int} (hd:Bx d=true) (p q:List Int):Norm.join (p ++ d::q)=Norm.join p ++ d::Norm.join q:=by
 unfold Norm.join Norm.Ag6
 rw [List.foldl_append,List.foldl_cons,Apm hd,show d::p.foldl Norm.step []=[] ++ d::p.foldl Norm.step [] from rfl,Wc hd,List.reverse_append]
 simp
theorem Agb {d:Int} (hd:Bx d=true) (x:Int):∀ L M:List Int,Norm.ins x (L ++ d::M)=Norm.ins x L ++ d::M
 | [],M=>by
  show Norm.ins x (d::M)=[x] ++ d::M
  unfold Norm.ins
  rw [if_neg (by rw [Wy hd];omega)]
  rfl
 | y::L,M=>by
  show Norm.ins x (y::(L ++ d::M))=_
  unfold Norm.ins
  split
  · rw [Agb hd x L M];rfl
  · rfl
theorem Xa {d:Int} (hd:Bx d=true):∀ p q:List Int,Norm.order (p ++ d::q)=Norm.order p ++ d::Norm.order q
 | [],q=>by
  show Norm.ins d (Norm.order q)=d::Norm.order q
  cases Norm.order q with
  | nil=>rfl
  | cons y l =>
   unfold Norm.ins
   rw [if_neg (by rw [Wy hd];omega)]
 | x::p,q=>by
  show Norm.ins x (Norm.order (p ++ d::q))=Norm.ins x (Norm.order p) ++ _
  rw [Xa hd p q,Agb hd]
theorem Abj {d:Int} (hd:Bx d=true) (p q:List Int):Norm.down false (p ++ d::q)=Norm.down false p ++ d::Norm.down false q:=by
 unfold Norm.down
 rw [Norm.Gl,show d::q=[d] ++ q from rfl,Norm.Gl,show Norm.split false [d]=[d] by unfold Norm.split;rw [List.flatMap_cons,Tt hd];rfl]
 exact Xa hd _ _
theorem U9 {d:Int} (hd:Bx d=true) (p q:List Int):Fold.fold (p ++ d::q)=Fold.fold p ++ d::Fold.fold q:=by
 unfold Fold.fold
 rw [List.map_append,List.map_cons,Av2 hd,Abj hd,Abk hd]
theorem Anx {d r:Int} (hd:Bx d=true) (h:d ∈ Norm.pieces false r):r=d:=by
 rw [Norm.A9] at h
 cases hs:Norm.syl r with
 | true =>
  rw [hs,if_pos rfl] at h
  have:=(Norm.Hq d).1 (Norm.Mj hs d h)
  have:=O7 hd
  omega
 | false =>
  cases ho:Aj r with
  | none=>rw [hs,ho] at h;exact (by simpa using h:d=r).symm
  | some y =>
   rcases Bk ho with ⟨h1,rfl⟩ | ⟨h1,hy⟩
   ·have h2:=(Zv y h1).2
    rw [List.all_eq_true] at h2
    rw [<- Norm.A9] at h
    have:=h2 d h
    rw [hd] at this
    exact absurd this (by decide)
   ·rw [hs,ho,hy] at h
    exact (by simpa using h:d=r).symm
theorem Aud {p:List Int} {d:Int} (hd:Bx d=true) (h:d ∈ Norm.join (Norm.down false p)):d ∈ p:=by
 have hs:=Norm.Ag0 false (l:=Norm.down false p) (Norm.Ox false p)
 have h1:d ∈ Norm.split false (Norm.join (Norm.down false p)):=by
  unfold Norm.split
  exact List.mem_flatMap.2 ⟨d,h,by rw [Tt hd];simp⟩
 have h2:=(Norm.Alk hs d).1 h1
 obtain ⟨r,hr,hp⟩:=Norm.Rk false p d h2
 rwa [<- Anx hd hp]
end Wall
end
section
open Go.RowKit Utf
namespace Dom
def Cd (x:Int):Bool:=x == 46 || x == 12290
theorem An7 {d:Int} (h:Cd d=true):d=46\/d=12290:=by
 unfold Cd at h
 simpa using h
theorem Ql {d:Int} (h:Cd d=true):Wall.Bx d=true:=by rcases An7 h with rfl | rfl<;>decide
theorem U9 {d:Int} (hd:Cd d=true) (p q:List Int):Fold.fold (p ++ d::q)=Fold.fold p ++ d::Fold.fold q:=Wall.U9 (Ql hd) p q
theorem Ag8 (p q:List Int):Fold.fold (p ++ 46::q)=Fold.fold p ++ 46::Fold.fold q:=U9 (by decide) p q
def cut:List Int->List (List Int)
 | []=>[[]]
 | x::l=>if Cd x then []::cut l else match cut l with | []=>[[x]] | h::t=>(x::h)::t
theorem Fv (l:List Int):∃ h t,cut l=h::t:=by
 cases l with
 | nil=>exact ⟨_,_,rfl⟩
 | cons x l =>
  unfold cut
  split
  ·exact ⟨_,_,rfl⟩
  ·split
   · exact ⟨_,_,rfl⟩
   · exact ⟨_,_,rfl⟩
theorem Ac7:∀ p q:List Int,cut (p ++ 46::q)=cut p ++ cut q
 | [],q=>by
  show cut (46::q)=[[]] ++ cut q
  rw [cut,if_pos (by decide)]
  rfl
 | x::p,q=>by
  show cut (x::(p ++ 46::q))=_
  rw [cut,cut,Ac7 p q]
  split
  ·rfl
  ·obtain ⟨h,t,e⟩:=Fv p
   rw [e]
   rfl
theorem Xg:∀ {l:List Int},(∀ x ∈ l,Cd x=false)->cut l=[l]
 | [],_=>rfl
 | x::l,h=>by
  rw [cut,if_neg (by rw [h x (by simp)];decide),Xg (λy hy=>h y (by simp [hy]))]
theorem Au5 {l:List Int} (h:(cut l).length=1):cut l=[l]:=by
 induction l with
 | nil=>rfl
 | cons x l ih =>
  rw [cut] at h ⊢
  obtain ⟨a,t,e⟩:=Fv l
  by_cases hx:Cd x=true
  ·rw [if_pos hx,e] at h
   simp at h
  ·rw [if_neg hx] at h ⊢
   rw [e] at h ih ⊢
   simp only [List.length_cons,Nat.add_eq_right,List.length_eq_zero_iff] at h
   subst h
   have:=ih rfl
   injection this with h1
   subst h1
   rfl
def Cy:List (List Int)->List Int
 | []=>[]
 | [x]=>x
 | x::y::t=>x ++ 46::Cy (y::t)
theorem Afm:∀ {ps:List (List Int)},ps ≠ []->(∀ p ∈ ps,∀ x ∈ p,Cd x=false)->cut (Cy ps)=ps
 | [],h,_=>absurd rfl h
 | [x],_,h=>Xg (h x (by simp))
 | x::y::t,_,h=>by
  show cut (x ++ 46::Cy (y::t))=_
  rw [Ac7,Xg (h x (by simp)),Afm (by simp) (λp hp=>h p (by simp only [List.mem_cons] at hp ⊢;exact .inr hp))]
  rfl
theorem Aaw:∀ {ps:List (List Int)},(∀ p ∈ ps,Fold.fold p=p)->Fold.fold (Cy ps)=Cy ps
 | [],_=>rfl
 | [x],h=>h x (by simp)
 | x::y::t,h=>by
  show Fold.fold (x ++ 46::Cy (y::t))=_
  rw [Ag8,h x (by simp),Aaw (λp hp=>h p (by simp only [List.mem_cons] at hp ⊢;exact .inr hp))]
  rfl
theorem X9:∀ {ps:List (List Int)},(∀ p ∈ ps,Ag p=true)->Ag (Cy ps)=true
 | [],_=>rfl
 | [x],h=>h x (by simp)
 | x::y::t,h=>by
  have h1:=h x (by simp)
  have h2:=X9 (ps:=y::t) (λp hp=>h p (by simp only [List.mem_cons] at hp ⊢;exact .inr hp))
  show Ag (x ++ 46::Cy (y::t))=true
  unfold Ag at h1 h2 ⊢
  rw [List.all_append,h1,List.all_cons,h2]
  decide
theorem Aus {d:Int} {A B p R:List Int} (h:A ++ d::B=p ++ d::R) (hA:d ∈ A->d ∈ p) (hp:d ∉ p):A=p/\B=R:=by
 have hlt:A.length=p.length:=by
  rcases Nat.lt_trichotomy A.length p.length with h1 | h1 | h1
  ·exfalso
   have e:(A ++ d::B)[A.length]? = (p ++ d::R)[A.length]?:=by rw [h]
   rw [List.getElem?_append_right (Nat.le_refl _),Nat.sub_self,List.getElem?_cons_zero,List.getElem?_append_left h1,List.getElem?_eq_getElem h1] at e
   exact hp (by injection e with e;rw [e];exact List.getElem_mem h1)
  ·exact h1
  ·exfalso
   have e:(A ++ d::B)[p.length]? = (p ++ d::R)[p.length]?:=by rw [h]
   rw [List.getElem?_append_left h1,List.getElem?_eq_getElem h1,List.getElem?_append_right (Nat.le_refl _),Nat.sub_self,List.getElem?_cons_zero] at e
   exact hp (hA (by injection e with e;rw [<- e];exact List.getElem_mem h1))
 obtain ⟨h1,h2⟩:=List.append_inj h hlt
 exact ⟨h1,by injection h2⟩
theorem Zm:∀ l:List Int,((∀ x ∈ l,Cd x=false)/\cut l=[l])\/∃ p d R,Cd d=true/\l=p ++ d::R/\(∀ x ∈ p,Cd x=false)/\cut l=p::cut R
 | []=>.inl ⟨λx hx=>(by cases hx),rfl⟩
 | x::l=>by
  cases hx:Cd x with
  | true=>exact .inr ⟨[],x,l,hx,rfl,λy hy=>(by cases hy),by rw [cut,if_pos hx]⟩
  | false =>
   rcases Zm l with ⟨h1,h2⟩ | ⟨p,d,R,hd,rfl,h1,h2⟩
   · exact .inl ⟨λy hy=>(by
    rcases List.mem_cons.1 hy with rfl | hy
    · exact hx
    · exact h1 y hy),by rw [cut,if_neg (by rw [hx];decide),h2]⟩
   · exact .inr ⟨x::p,d,R,hd,rfl,λy hy=>(by
    rcases List.mem_cons.1 hy with rfl | hy
    · exact hx
    · exact h1 y hy),by rw [cut,if_neg (by rw [hx];decide),h2]⟩
theorem Are (n:Nat):∀ L:List Int,L.length<=n->Norm.join (Norm.down false L)=L->(∀ c ∈ L,Fold.fo c=c)->∀ p ∈ cut L,Fold.fold p=p:=by
 induction n with
 | zero =>
  intro L hn _ _ p hp
  obtain rfl:L=[]:=List.eq_nil_of_length_eq_zero (by omega)
  rw [List.mem_singleton.1 hp];rfl
 | succ n ih =>
  intro L hn hj hf p hp
  have one:∀ q:List Int,Norm.join (Norm.down false q)=q->(∀ c ∈ q,Fold.fo c=c)->Fold.fold q=q:=λq h1 h2=>by
   unfold Fold.fold
   rw [Fold.Q8 h2]
   exact h1
  rcases Zm L with ⟨-,h⟩ | ⟨q,d,R,hd,rfl,hq,h⟩
  ·rw [h] at hp
   rw [List.mem_singleton.1 hp]
   exact one L hj hf
  ·rw [Wall.Abj (Ql hd),Wall.Abk (Ql hd)] at hj
   have hdq:d ∉ q:=λhm=>by rw [hq d hm] at hd;cases hd
   obtain ⟨e1,e2⟩:=Aus hj (Wall.Aud (Ql hd)) hdq
   rw [h] at hp
   rcases List.mem_cons.1 hp with rfl | hp
   ·exact one p e1 λc hc=>hf c (by simp [hc])
   ·refine ih R ?_ e2 (λc hc=>hf c (by simp [hc])) p hp
    rw [List.length_append,List.length_cons] at hn
    omega
theorem Wn (l:List Int):∀ p ∈ cut (Fold.fold l),Fold.fold p=p :=
 Are _ _ (Nat.le_refl _) (Fold.Asy l) (Fold.Ko l)
end Dom
end
section
open Go.RowKit Utf
namespace Dom
theorem Ks {x:Int} (hx:Cd x=true):∀ l:List Int,cut (l ++ [x])=cut l ++ [[]]
 | []=>by
  show cut [x]=[[]] ++ [[]]
  rw [cut,if_pos hx]
  rfl
 | y::l=>by
  show cut (y::(l ++ [x]))=_
  rw [cut,cut,Ks hx l]
  split
  ·rfl
  ·obtain ⟨a,t,e⟩:=Fv l
   rw [e]
   rfl
theorem X1 {x:Int} (hx:Cd x=false):∀ (l:List Int) (q:Nat),(cut l).length=q+1->cut (l ++ [x])=(cut l).set q ((cut l)[q]! ++ [x])
 | [],q,h=>by
  obtain rfl:q=0:=by have:(1:Nat)=q+1:=h;omega
  show cut [x]=[[x]]
  rw [cut,if_neg (by rw [hx];decide)]
  rfl
 | y::l,q,h=>by
  show cut (y::(l ++ [x]))=_
  rw [cut] at h ⊢
  rw [cut]
  obtain ⟨a,t,e⟩:=Fv l
  by_cases hy:Cd y=true
  ·rw [if_pos hy] at h
   rw [if_pos hy,if_pos hy]
   obtain ⟨q',rfl⟩:∃ q',q=q'+1:=by
    cases q with
    | zero=>rw [e] at h;simp at h
    | succ q'=>exact ⟨q',rfl⟩
   rw [X1 hx l q' (by simpa using h)]
   rfl
  ·rw [if_neg hy] at h
   rw [if_neg hy,if_neg hy]
   rw [e] at h
   have ih:=X1 hx l q (by rw [e];simpa using h)
   rw [ih,e]
   cases q with
   | zero=>rfl
   | succ q'=>rfl
theorem get_at (A X:List UInt8) (j:Nat):(⟨(A ++ X).toArray⟩:ByteArray).get! (A.length+j)=X.getD j 0:=by
 show (A ++ X).toArray[A.length+j]! = _
 by_cases h:j<X.length
 ·rw [getElem!_pos _ _ (by simp;omega)]
  simp [List.getElem_append_right,List.getD,h]
 ·rw [getElem!_neg _ _ (by simp;omega)]
  simp [List.getD,h]
  rfl
theorem Ah6 (A B:List UInt8) (r:Nat) (h:right r=true):Utf8.decode ⟨(A ++ (enc r ++ B)).toArray⟩ A.length=(r,(enc r).length):=by
 rw [Dn] at h
 have g0:=get_at A (enc r ++ B) 0
 rw [Nat.add_zero] at g0
 rw [Lib.decode_at,g0,get_at,get_at,get_at]
 have hs:(⟨(A ++ (enc r ++ B)).toArray⟩:ByteArray).size - A.length=(enc r).length+B.length:=by
  show (A ++ (enc r ++ B)).toArray.size - A.length=_
  simp
 rw [hs]
 unfold enc
 by_cases h1:r<128
 ·rw [if_pos h1]
  simp only [List.cons_append,List.nil_append,List.getD_cons_zero,Bb (show r<256 by omega),List.length_cons,List.length_nil]
  unfold Lib.decodeN
  rw [if_pos h1]
 rw [if_neg h1]
 by_cases h2:r<2048
 ·rw [if_pos h2]
  simp only [List.cons_append,List.nil_append,List.getD_cons_zero,List.getD_cons_succ,Bb (show 192+r / 64<256 by omega),Bb (show 128+r % 64<256 by omega),List.length_cons,List.length_nil]
  unfold Lib.decodeN
  rw [if_neg (by omega),if_pos (by omega),if_pos (by omega)]
  congr 1
  omega
 rw [if_neg h2]
 by_cases h3:r<65536
 ·rw [if_pos h3]
  simp only [List.cons_append,List.nil_append,List.getD_cons_zero,List.getD_cons_succ,Bb (show 224+r / 4096<256 by omega),Bb (show 128+r / 64 % 64<256 by omega),Bb (show 128+r % 64<256 by omega),List.length_cons,List.length_nil]
  unfold Lib.decodeN
  rw [if_neg (by omega),if_neg (by omega),if_pos (by omega),if_pos (by omega)]
  congr 1
  omega
 rw [if_neg h3]
 simp only [List.cons_append,List.nil_append,List.getD_cons_zero,List.getD_cons_succ,Bb (show 240+r / 262144<256 by omega),Bb (show 128+r / 4096 % 64<256 by omega),Bb (show 128+r / 64 % 64<256 by omega),Bb (show 128+r % 64<256 by omega),List.length_cons,List.length_nil]
 unfold Lib.decodeN
 rw [if_neg (by omega),if_neg (by omega),if_neg (by omega),if_pos (by omega),if_pos (by omega)]
 congr 1
 omega
theorem Md (a b:List Int):Ah (a ++ b)=Ah a ++ Ah b:=by unfold Ah;exact List.flatMap_append
theorem Ab2 {L:List Int} (h:Ag L=true) {k:Nat} (hk:k<L.length):0<=L[k]!/\right (L[k]!).toNat=true:=by
 unfold Ag at h
 rw [List.all_eq_true] at h
 have h2:=h _ (List.getElem_mem hk)
 rw [getElem!_pos L k hk]
 unfold Ak at h2
 rw [Bool.and_eq_true,decide_eq_true_eq] at h2
 exact h2
theorem Vr {L:List Int} {k:Nat} (hk:k<L.length):L=L.take k ++ L[k]!::L.drop (k+1):=by
 rw [getElem!_pos L k hk]
 exact (List.take_append_drop k L).symm.trans (by rw [List.drop_eq_getElem_cons hk])
def at_ (L:List Int) (k:Nat):Nat:=(Ah (L.take k)).length
theorem Als {L:List Int} {k:Nat} (hk:k<L.length):at_ L (k+1)=at_ L k+(enc (L[k]!).toNat).length:=by
 unfold at_
 rw [show L.take (k+1)=L.take k ++ [L[k]!] by rw [List.take_add_one,List.getElem?_eq_getElem hk,getElem!_pos L k hk];rfl,Oc,List.length_append]
theorem Axs (L:List Int):at_ L L.length=(Ah L).length:=by unfold at_;rw [List.take_length]
theorem Kw (r:Nat):1<=(enc r).length:=by unfold enc;split<;>(try split)<;>(try split)<;>simp
theorem Au6 (r:Nat):(enc r).length<=4:=by unfold enc;split<;>(try split)<;>(try split)<;>simp
theorem Ayb {L:List Int} {k:Nat} (hk:k<L.length):at_ L k+(enc (L[k]!).toNat).length<=(Ah L).length:=by
 have e:=congrArg Ah (Vr hk)
 rw [Md,show L[k]!::L.drop (k+1)=[L[k]!] ++ L.drop (k+1) from rfl,Md,show Ah [L[k]!]=enc (L[k]!).toNat by simp [Ah]] at e
 have:=congrArg List.length e
 rw [List.length_append,List.length_append] at this
 unfold at_
 omega
theorem Av4 {L:List Int} (h:Ag L=true) {k:Nat} (hk:k<L.length):Utf8.decode ⟨(Ah L).toArray⟩ (at_ L k)=((L[k]!).toNat,(enc (L[k]!).toNat).length):=by
 have e:=congrArg Ah (Vr hk)
 rw [Md,show L[k]!::L.drop (k+1)=[L[k]!] ++ L.drop (k+1) from rfl,Md,show Ah [L[k]!]=enc (L[k]!).toNat by simp [Ah]] at e
 rw [e]
 exact Ah6 _ _ _ (Ab2 h hk).2
theorem Agx {d:Int} (hd:Cd d=true):∀ p R:List Int,cut (p ++ d::R)=cut p ++ cut R
 | [],R=>by
  show cut (d::R)=[[]] ++ cut R
  rw [cut,if_pos hd]
  rfl
 | y::p,R=>by
  show cut (y::(p ++ d::R))=_
  rw [cut,cut,Agx hd p R]
  split
  ·rfl
  ·obtain ⟨a,t,e⟩:=Fv p
   rw [e]
   rfl
def Hv (L:List Int) (k q b:Nat):Prop:=(cut (L.take k)).length=q+1/\∃ A,Ah (L.take k)=A ++ Ah (cut (L.take k))[q]!/\A.length=b
def gone (L:List Int) (k q:Nat):List (List UInt8):=((cut (L.take k)).take q).map Ah
theorem Axd (L:List Int):Hv L 0 0 0:=⟨rfl,[],rfl,rfl⟩
theorem Aey {L:List Int} {k q b:Nat} (h:Hv L k q b):(gone L k q).length=q:=by unfold gone;rw [List.length_map,List.length_take,h.1];omega
theorem Awk {L:List Int} {k q b:Nat} (h:Hv L k q b):b<=at_ L k:=by obtain ⟨-,A,e,rfl⟩:=h;unfold at_;rw [e,List.length_append];omega
theorem Agz:∀ l:List Int,(cut l).length<=l.length+1
 | []=>Nat.le_refl _
 | x::l=>by
  have ih:=Agz l
  rw [cut]
  obtain ⟨a,t,e⟩:=Fv l
  rw [e] at ih ⊢
  split
  · simp at ih ⊢;omega
  · simp at ih ⊢;omega
theorem Art {L:List Int} {k q b:Nat} (h:Hv L k q b):q<=k:=by have:=Agz (L.take k);rw [h.1,List.length_take] at this;omega
theorem take_one {L:List Int} {k:Nat} (hk:k<L.length):L.take (k+1)=L.take k ++ [L[k]!]:=by rw [List.take_add_one,List.getElem?_eq_getElem hk,getElem!_pos L k hk];rfl
theorem Ave {L:List Int} {k q b:Nat} (h:Hv L k q b) (hk:k<L.length) (hd:Cd L[k]! = false):Hv L (k+1) q b/\gone L (k+1) q=gone L k q:=by
 obtain ⟨hq,A,e,rfl⟩:=h
 have hc:=X1 hd (L.take k) q hq
 have hql:q<(cut (L.take k)).length:=by omega
 refine ⟨⟨?_,A,?_,rfl⟩,?_⟩
 ·rw [take_one hk,hc,List.length_set];exact hq
 ·rw [take_one hk,hc,getElem!_pos _ q (by rw [List.length_set];exact hql),List.getElem_set_self,Oc,e,Oc,List.append_assoc]
 ·unfold gone
  rw [take_one hk,hc,List.take_set_of_le (Nat.le_refl q)]
theorem Agf {L:List Int} {k q b:Nat} (h:Hv L k q b) (hk:k<L.length) (hd:Cd L[k]! = true):Hv L (k+1) (q+1) (at_ L k+(enc (L[k]!).toNat).length)/\gone L (k+1) (q+1)=gone L k q ++ [Ah (cut (L.take k))[q]!]:=by
 obtain ⟨hq,A,e,rfl⟩:=h
 have hc:=Ks hd (L.take k)
 have hql:q<(cut (L.take k)).length:=by omega
 refine ⟨⟨?_,Ah (L.take (k+1)),?_,Als hk⟩,?_⟩
 ·rw [take_one hk,hc,List.length_append,hq];rfl
 ·rw [take_one hk,hc,getElem!_pos _ (q+1) (by rw [List.length_append,hq];simp),List.getElem_append_right (by omega)]
  simp [hq,Ah]
 ·unfold gone
  rw [take_one hk,hc,List.take_append_of_le_length (by omega),show q+1=q+1 from rfl,List.take_add_one,List.getElem?_eq_getElem hql,getElem!_pos _ q hql,List.map_append]
  rfl
theorem Atp {L:List Int} {k q b:Nat} (h:Hv L k q b) (hk:k<L.length) (hd:Cd L[k]! = true):gone L k q ++ [Ah (cut (L.take k))[q]!] <+: (cut L).map Ah:=by
 rw [<- (Agf h hk hd).2]
 refine ⟨(cut (L.drop (k+1))).map Ah,?_⟩
 have e:cut L=cut (L.take k) ++ cut (L.drop (k+1)):=by
  have:=Agx hd (L.take k) (L.drop (k+1))
  rw [<- Vr hk] at this
  exact this
 unfold gone
 rw [e,List.map_append,take_one hk,Ks hd,List.take_append_of_le_length (by rw [h.1];omega),List.take_of_length_le (by rw [h.1];omega)]
theorem Arq {L:List Int} {q b:Nat} (h:Hv L L.length q b):gone L L.length q ++ [Ah (cut L)[q]!]=(cut L).map Ah:=by
 obtain ⟨hq,-⟩:=h
 unfold gone
 rw [List.take_length] at hq ⊢
 have hql:q<(cut L).length:=by omega
 have:cut L=(cut L).take q ++ [(cut L)[q]!]:=by
  rw [getElem!_pos _ q hql]
  have:=List.take_add_one (l:=cut L) (i:=q)
  rw [List.take_of_length_le (by omega),List.getElem?_eq_getElem hql] at this
  exact this
 exact (by rw [List.map_append];rfl:((cut L).take q).map Ah ++ [Ah (cut L)[q]!]=((cut L).take q ++ [(cut L)[q]!]).map Ah).trans (congrArg _ this.symm)
theorem Amg {L:List Int} {k q b:Nat} (h:Hv L k q b):(⟨(Ah L).toArray⟩:ByteArray).extract b (at_ L k)=⟨(Ah (cut (L.take k))[q]!).toArray⟩:=by
 obtain ⟨hq,A,e,rfl⟩:=h
 have e2:Ah L=Ah (L.take k) ++ Ah (L.drop k):=by rw [<- Md,List.take_append_drop]
 have ha:at_ L k=A.length+(Ah (cut (L.take k))[q]!).length:=by unfold at_;rw [e,List.length_append]
 apply ByteArray.ext
 rw [ByteArray.data_extract,e2,e,ha]
 simp
end Dom
end
section
open Go.RowKit Utf
namespace Lab
theorem Q0:Bj 46=false/\Bj 12290=false/\Ctx.Bw 46=false/\Ctx.Bw 12290=false:=by decide +kernel
theorem Aje {l:List Int} (h:Ei l=0):∀ x ∈ l,Dom.Cd x=false:=by
 have hb:Fu l=false:=by
  unfold Ei at h
  split at h
  ·omega
  ·split at h
   ·omega
   ·split at h
    ·omega
    ·split at h
     ·omega
     ·rename_i h4
      simpa using h4
 intro x hx
 obtain ⟨k,hk,rfl⟩:=List.getElem_of_mem hx
 unfold Fu at hb
 rw [List.any_eq_false] at hb
 have h1:=hb k (List.mem_range.2 hk)
 rw [Bool.or_eq_true,not_or,getElem!_pos l k hk] at h1
 cases hd:Dom.Cd l[k] with
 | false=>rfl
 | true =>
  exfalso
  have hc:Bj l[k]=false/\Ctx.Bw l[k]=false:=by
   unfold Dom.Cd at hd
   simp only [Bool.or_eq_true,beq_iff_eq] at hd
   rcases hd with e | e<;>rw [e]
   ·exact ⟨Q0.1,Q0.2.2.1⟩
   ·exact ⟨Q0.2.1,Q0.2.2.2⟩
  refine h1.2 ?_
  rw [Ctx.He hk,getElem!_pos l k hk,hc.1,hc.2]
  rfl
theorem Aj5 {l:List Int} (h:Ag l=true) (hd:∀ x ∈ l,Dom.Cd x=false):∀ c ∈ Puny.Bn l,c.toNat ≠ 46:=by
 have hp:∀ x ∈ l,0<=x:=λx hx=>by
  have:=List.all_eq_true.1 (show l.all Ak=true from h) x hx
  have:=(Al x).1 this
  omega
 intro c hc
 unfold Puny.Bn at hc
 rcases List.mem_append.1 hc with hc | hc
 ·rcases List.mem_append.1 hc with hc | hc
  ·unfold Puny.Bg at hc
   obtain ⟨x,hx,rfl⟩:=List.mem_map.1 hc
   have hm:x ∈ l/\x<128:=by
    unfold Puny.lt at hx
    have:=List.mem_filter.1 hx
    exact ⟨this.1,by simpa using this.2⟩
   show (u x.toNat).toNat ≠ 46
   rw [Bb (by have:=hp x hm.1;omega)]
   intro e
   have hx46:x=46:=by have:=hp x hm.1;omega
   have:=hd x hm.1
   rw [hx46] at this
   exact absurd this (by decide)
  ·unfold Puny.Jy at hc
   split at hc
   ·cases hc
   ·rw [List.mem_singleton.1 hc];decide
 ·unfold Puny.Cx at hc
  obtain ⟨x,hx,rfl⟩:=List.mem_map.1 hc
  obtain ⟨h0,h1⟩:=Puny.Kp _ _ _ _ (Puny.G6 (En h)) x hx
  have:∀ i:Nat,i<36->(Puny.Ja (i:Int)).toNat ≠ 46:=by decide +kernel
  have:=this x.toNat (by omega)
  rwa [show ((x.toNat:Nat):Int)=x by omega] at this
theorem clean {L:List Int} (hr:Ag L=true) (hf:Fold.fold L=L) {a u:List UInt8} (h:Ej L=(0,a,u)) :
  ∃
   U:List Int,u=Ah U/\Ag U=true/\Fold.fold U=U/\Ej U=(0,a,u)/\(∀ c ∈ a,c.toNat<128)/\Fold.fold (chars a)=chars a/\Ej (chars a)=(0,a,u)/\0<a.length/\a.length<=63 /\
   U.length<=a.length/\(∀ x ∈ U,Dom.Cd x=false)/\(∀ x ∈ chars a,Dom.Cd x=false):=by
 obtain ⟨U,hu,rU,fU,-,bU,aA,fA,bA,l0,l1⟩:=back hr hf h
 have hA:(∀ c ∈ a,c.toNat ≠ 46)->∀ x ∈ chars a,Dom.Cd x=false:=λhn x hx=>by
  obtain ⟨c,hc,rfl⟩:=List.mem_map.1 hx
  have h1:=hn c hc
  have h2:=aA c hc
  unfold Dom.Cd
  rw [beq_eq_false_iff_ne.2 (show ((c.toNat:Nat):Int) ≠ 46 by omega),beq_eq_false_iff_ne.2 (show ((c.toNat:Nat):Int) ≠ 12290 by omega)]
  rfl
 have hb:=bU
 unfold Ej at hb
 by_cases h1:D6 (Ah U)=false
 ·rw [if_pos h1] at hb
  by_cases h2:Ei U=0
  ·rw [if_pos h2] at hb
   injection hb with e1 e2
   injection e2 with e2 e3
   have hge:=Aj0 rU
   have hnd:=Aje h2
   refine ⟨U,hu,rU,fU,bU,aA,fA,bA,l0,l1,by rw [<- e2,List.length_append];omega,hnd,hA λc hc=>?_⟩
   rw [<- e2] at hc
   rcases List.mem_append.1 hc with hc | hc
   ·exact (by decide:∀ c ∈ sign,c.toNat ≠ 46) c hc
   ·exact Aj5 rU hnd c hc
  ·rw [if_neg h2] at hb
   injection hb with e1 e2
   exact absurd e1 h2
 ·rw [if_neg h1] at hb
  have haU:∀ c ∈ Ah U,c.toNat<128:=Fe.1 (by simpa using h1)
  have hch:chars (Ah U)=U:=Is (D8 haU) rU (Em _ haU)
  by_cases h3:(Ah U).take 4=sign
  ·exfalso
   rw [if_pos h3] at hb
   cases hd:Puny.Hp ((Ah U).drop 4) with
   | none=>rw [hd] at hb;simp only at hb;injection hb with e1 e2;exact absurd e1 (by decide)
   | some l =>
    rw [hd] at hb
    simp only at hb
    split at hb
    ·injection hb with e1 e2;exact absurd e1 (by decide)
    ·split at hb
     ·rename_i h5;injection hb with e1 e2;exact h5 e1
     ·rename_i h5
      split at hb
      ·injection hb with e1 e2;exact absurd e1 (by decide)
      ·injection hb with e1 e2
       injection e2 with e2 e3
       rw [Decidable.not_not] at h5
       have R:=Mu h5
       have:=R.wide
       rw [e3,hu] at this
       exact h1 this
  ·rw [if_neg h3] at hb
   by_cases h4:F3 (Ah U)=0
   ·rw [if_pos h4] at hb
    injection hb with e1 e2
    injection e2 with e2 e3
    have hp:=(Apq (Ah U)).1 h4
    have hn:∀ c ∈ Ah U,c.toNat ≠ 46:=λc hc=>by
     obtain ⟨k,hk,rfl⟩:=List.getElem_of_mem hc
     have:=hp.2.2 k hk
     unfold So at this
     rw [Io hk] at this
     intro e
     rw [e] at this
     revert this
     have:Bidi.Bl ((46:Nat):Int)=false:=by decide
     rw [this]
     simp
    refine ⟨U,hu,rU,fU,bU,aA,fA,bA,l0,l1,?_,?_,hA (by rw [<- e2];exact hn)⟩
    ·rw [<- e2]
     have:=congrArg List.length hch
     unfold chars at this
     rw [List.length_map] at this
     omega
    ·have:=hA (by rw [<- e2];exact hn)
     rw [<- e2,hch] at this
     exact this
   ·rw [if_neg h4] at hb
    injection hb with e1 e2
    exact absurd e1 h4
end Lab
namespace Dom
def Cq:List (List UInt8)->List UInt8
 | []=>[]
 | [x]=>x
 | x::y::t=>x ++ 46::Cq (y::t)
theorem Amh (x y:List Int):Ah (x ++ 46::y)=Ah x ++ 46::Ah y:=by
 unfold Ah
 rw [List.flatMap_append,List.flatMap_cons,show enc (46:Int).toNat=[46] by decide]
 rfl
theorem Wl:∀ ps:List (List Int),Ah (Cy ps)=Cq (ps.map Ah)
 | []=>rfl
 | [x]=>rfl
 | x::y::t=>by
  show Ah (x ++ 46::Cy (y::t))=Ah x ++ 46::Cq ((y::t).map Ah)
  rw [Amh,Wl (y::t)]
def Dj (bs:List UInt8):Int × List (List Int) :=
 if (Aq bs).2=-1 then
  (if Fold.fold (ints (Aq bs).1)=[] then (13,[]) else if 32<(cut (Fold.fold (ints (Aq bs).1))).length then (2,[]) else (0,cut (Fold.fold (ints (Aq bs).1))))
 else (7,[])
def Dh (p:List Int):Int:=(Lab.Ds (Ah p)).1
def As (p:List Int):List UInt8:=(Lab.Ds (Ah p)).2.1
def Ck (p:List Int):List UInt8:=(Lab.Ds (Ah p)).2.2
def Fw (ps:List (List Int)):Int × List UInt8 × List UInt8 :=
 match ps.find? (λp=>Dh p != 0) with
 | some p=>(Dh p,[],[])
 | none=>if 253<(Cq (ps.map As)).length then (5,[],[]) else (0,Cq (ps.map As),Cq (ps.map Ck))
def Bt (bs:List UInt8):Int × List UInt8 × List UInt8:=if (Dj bs).1=0 then Fw (Dj bs).2 else ((Dj bs).1,[],[])
def Pt (bs:List UInt8):List UInt8:=if (Bt bs).1=0/\Lab.D6 bs=true then bs else (Bt bs).2.1
theorem Alv {bs a u:List UInt8} {E:Int} (h:Bt bs=(E,a,u)) (hE:E ≠ 0):a=[]/\u=[]:=by
 unfold Bt at h
 split at h
 ·unfold Fw at h
  split at h
  ·injection h with e1 e2;injection e2 with e2 e3;exact ⟨e2.symm,e3.symm⟩
  ·split at h
   · injection h with e1 e2;injection e2 with e2 e3;exact ⟨e2.symm,e3.symm⟩
   · injection h with e1 e2;exact absurd e1.symm hE
 ·injection h with e1 e2;injection e2 with e2 e3;exact ⟨e2.symm,e3.symm⟩
theorem Wd {l:List Int} (h:Ag l=true):Dj (Ah l)=if Fold.fold l=[] then (13,[]) else if 32<(cut (Fold.fold l)).length then (2,[]) else (0,cut (Fold.fold l)):=by
 unfold Dj
 rw [E8 h,if_pos rfl,(Cr h).1]
theorem Nz:∀ {l:List Int},Ag l=true->∀ p ∈ cut l,Ag p=true
 | [],_,p,hp=>by rw [List.mem_singleton.1 hp];rfl
 | x::l,h,p,hp=>by
  have h2:Ak x=true/\Ag l=true:=by unfold Ag at h ⊢;simpa using h
  have ih:=Nz h2.2
  rw [cut] at hp
  obtain ⟨a,t,e⟩:=Fv l
  rw [e] at ih hp
  split at hp
  ·rcases List.mem_cons.1 hp with rfl | hp
   ·rfl
   ·exact ih p hp
  ·rcases List.mem_cons.1 hp with rfl | hp
   ·have:=ih a (by simp)
    unfold Ag at this ⊢
    rw [List.all_cons,h2.1,this]
    rfl
   ·exact ih p (by simp [hp])
theorem Ama:∀ l:List Int,∀ p ∈ cut l,p.length<=l.length
 | [],p,hp=>by rw [List.mem_singleton.1 hp];exact Nat.le_refl _
 | x::l,p,hp=>by
  have ih:=Ama l
  rw [cut] at hp
  obtain ⟨a,t,e⟩:=Fv l
  rw [e] at ih hp
  split at hp
  ·rcases List.mem_cons.1 hp with rfl | hp
   · simp
   · have:=ih p hp;simp only [List.length_cons];omega
  ·rcases List.mem_cons.1 hp with rfl | hp
   · have:=ih a (by simp);simp only [List.length_cons];omega
   · have:=ih p (by simp [hp]);simp only [List.length_cons];omega
theorem Adz {bs a u:List UInt8} (h:Bt bs=(0,a,u)):∃ l:List Int,Ag l=true/\bs=Ah l/\Fold.fold l ≠ []/\(cut (Fold.fold l)).length<=32/\(∀ p ∈ cut (Fold.fold l),Dh p=0)/\a=Cq ((cut (Fold.fold l)).map As)/\u=Cq ((cut (Fold.fold l)).map Ck)/\a.length<=253:=by
 unfold Bt at h
 by_cases hl:(Dj bs).1=0
 ·rw [if_pos hl] at h
  unfold Dj at hl h
  by_cases hz:(Aq bs).2=-1
  ·obtain ⟨h1,h2⟩:=Lab.Lr hz
   rw [if_pos hz] at hl h
   generalize ints (Aq bs).1=l at hl h h1 h2
   by_cases h3:Fold.fold l=[]
   ·rw [if_pos h3] at hl;exact absurd hl (by decide)
   ·rw [if_neg h3] at hl h
    by_cases h4:32<(cut (Fold.fold l)).length
    ·rw [if_pos h4] at hl;exact absurd hl (by decide)
    ·rw [if_neg h4] at h
     unfold Fw at h
     simp only at h
     cases hf:(cut (Fold.fold l)).find? (λp=>Dh p != 0) with
     | some p =>
      rw [hf] at h
      simp only at h
      injection h with e1 e2
      have:=List.find?_some hf
      rw [e1] at this
      exact absurd this (by decide)
     | none =>
      rw [hf] at h
      simp only at h
      by_cases h5:253<(Cq ((cut (Fold.fold l)).map As)).length
      ·rw [if_pos h5] at h;injection h with e1 e2;exact absurd e1 (by decide)
      ·rw [if_neg h5] at h
       injection h with e1 e2
       injection e2 with e2 e3
       refine ⟨l,h1,h2,h3,by omega,λp hp=>?_,e2.symm,e3.symm,by rw [<- e2];omega⟩
       have:=List.find?_eq_none.1 hf p hp
       simpa using this
  ·rw [if_neg hz] at hl
   exact absurd hl (by decide)
 ·rw [if_neg hl] at h
  injection h with e1 e2
  exact absurd e1 hl
theorem Al4 {l:List Int} (hr:Ag l=true) (h0:Fold.fold l ≠ []) (h1:(cut (Fold.fold l)).length<=32) (h2:∀ p ∈ cut (Fold.fold l),Dh p=0) :
  Bt (Ah l)=if 253<(Cq ((cut (Fold.fold l)).map As)).length then (5,[],[]) else (0,Cq ((cut (Fold.fold l)).map As),Cq ((cut (Fold.fold l)).map Ck)):=by
 have hf:(cut (Fold.fold l)).find? (λp=>Dh p != 0)=none:=by
  rw [List.find?_eq_none]
  intro p hp
  rw [h2 p hp]
  decide
 unfold Bt Fw
 rw [Wd hr,if_neg h0,if_neg (show ¬ 32<(cut (Fold.fold l)).length by omega)]
 simp only
 rw [if_pos trivial,hf]
def Hj (p:List Int):List Int:=ints (Aq (Ck p)).1
theorem Aha {p:List Int} (hr:Ag p=true) (h:Dh p=0):Ck p=Ah (Hj p)/\Ag (Hj p)=true/\Fold.fold (Hj p)=Hj p/\(Hj p).length<=(As p).length/\(∀ x ∈ Hj p,Cd x=false)/\Dh (Hj p)=0/\As (Hj p)=As p/\Ck (Hj p)=Ck p /\
  0<(As p).length/\(∀ c ∈ As p,c.toNat<128)/\Fold.fold (Lab.chars (As p))=Lab.chars (As p)/\(∀ x ∈ Lab.chars (As p),Cd x=false)/\Dh (Lab.chars (As p))=0/\As (Lab.chars (As p))=As p/\Ck (Lab.chars (As p))=Ck p:=by
 have hb:Lab.Ej (Fold.fold p)=(0,As p,Ck p):=by
  rw [<- Lab.Fc hr,<- h]
  rfl
 obtain ⟨U,hu,rU,fU,bU,aA,fA,bA,l0,-,hlen,hd,hda⟩:=Lab.clean (Dg hr) (Fold.Il p) hb
 have e:Hj p=U:=by
  unfold Hj
  rw [hu,E8 rU]
  exact (Cr rU).1
 rw [e]
 have h1:Lab.Ds (Ah U)=(0,As p,Ck p):=by rw [Lab.Fc rU,fU];exact bU
 have h2:Lab.Ds (Ah (Lab.chars (As p)))=(0,As p,Ck p):=by rw [Lab.Fc (Lab.D8 aA),fA];exact bA
 exact ⟨hu,rU,fU,hlen,hd,by unfold Dh;rw [h1],by show (Lab.Ds (Ah U)).2.1=_;rw [h1],by show (Lab.Ds (Ah U)).2.2=_;rw [h1],l0,aA,fA,hda,by unfold Dh;rw [h2],by show (Lab.Ds (Ah (Lab.chars (As p)))).2.1=_;rw [h2],by show (Lab.Ds (Ah (Lab.chars (As p)))).2.2=_;rw [h2]⟩
theorem Avv:∀ {ps:List (List Int)},ps ≠ []->(∀ p ∈ ps,p ≠ [])->Cy ps ≠ []
 | [],h,_=>absurd rfl h
 | [x],_,h=>h x (by simp)
 | x::y::t,_,_=>by
  show x ++ 46::Cy (y::t) ≠ []
  simp
theorem Aga:∀ (ps:List (List Int)) (f:List Int->List UInt8),(∀ p ∈ ps,p.length<=(f p).length)->(Cy ps).length<=(Cq (ps.map f)).length
 | [],_,_=>Nat.le_refl _
 | [x],f,h=>h x (by simp)
 | x::y::t,f,h=>by
  have h1:=h x (by simp)
  have h2:=Aga (y::t) f (λp hp=>h p (by simp only [List.mem_cons] at hp ⊢;exact .inr hp))
  show (x ++ 46::Cy (y::t)).length<=(f x ++ 46::Cq ((y::t).map f)).length
  rw [List.length_append,List.length_append,List.length_cons,List.length_cons]
  omega
theorem again {ps qs:List (List Int)} (f:List Int->List Int) (hq:qs=ps.map f) (hne:ps ≠ []) (hn:ps.length<=32) (hl:(Cq (ps.map As)).length<=253)
  (h:∀ p ∈ ps,Ag (f p)=true/\Fold.fold (f p)=f p/\(∀ x ∈ f p,Cd x=false)/\f p ≠ []/\Dh (f p)=0/\As (f p)=As p/\Ck (f p)=Ck p) :
  Ag (Cy qs)=true/\Fold.fold (Cy qs)=Cy qs/\Bt (Ah (Cy qs))=(0,Cq (ps.map As),Cq (ps.map Ck)):=by
 subst hq
 have hq1:∀ q ∈ ps.map f,∃ p ∈ ps,f p=q:=λq hq=>List.mem_map.1 hq
 have r:Ag (Cy (ps.map f))=true:=X9 λq hq=>by obtain ⟨p,hp,rfl⟩:=hq1 q hq;exact (h p hp).1
 have ff:Fold.fold (Cy (ps.map f))=Cy (ps.map f):=Aaw λq hq=>by obtain ⟨p,hp,rfl⟩:=hq1 q hq;exact (h p hp).2.1
 have hne':ps.map f ≠ []:=by simpa using hne
 have hc:cut (Fold.fold (Cy (ps.map f)))=ps.map f:=by
  rw [ff]
  exact Afm hne' λq hq=>by obtain ⟨p,hp,rfl⟩:=hq1 q hq;exact (h p hp).2.2.1
 have ha:(ps.map f).map As=ps.map As:=by rw [List.map_map];exact List.map_congr_left λp hp=>(h p hp).2.2.2.2.2.1
 have hu:(ps.map f).map Ck=ps.map Ck:=by rw [List.map_map];exact List.map_congr_left λp hp=>(h p hp).2.2.2.2.2.2
 refine ⟨r,ff,?_⟩
 rw [Al4 r (by rw [ff];exact Avv hne' λq hq=>by obtain ⟨p,hp,rfl⟩:=hq1 q hq;exact (h p hp).2.2.2.1) (by rw [hc,List.length_map];exact hn) (by rw [hc];intro q hq;obtain ⟨p,hp,rfl⟩:=hq1 q hq;exact (h p hp).2.2.2.2.1),hc,ha,hu,if_neg (by omega)]
theorem back {bs a u:List UInt8} (h:Bt bs=(0,a,u)):∃ U A:List Int,u=Ah U/\Ag U=true/\Fold.fold U=U/\U.length<=253/\Bt u=(0,a,u)/\a=Ah A/\Ag A=true/\Fold.fold A=A/\A.length<=253/\Bt a=(0,a,u)/\Ao a=-1/\a.length<=253:=by
 obtain ⟨l,hr,rfl,h0,h1,h2,rfl,rfl,hlen⟩:=Adz h
 obtain ⟨ps,hps⟩:∃ ps,cut (Fold.fold l)=ps:=⟨_,rfl⟩
 have hne:ps ≠ []:=by obtain ⟨a,t,e⟩:=Fv (Fold.fold l);rw [<- hps,e];simp
 have hrp:∀ p ∈ ps,Ag p=true:=by rw [<- hps];exact Nz (Dg hr)
 rw [hps] at h1 h2 hlen ⊢
 have lc:=λp hp=>Aha (hrp p hp) (h2 p hp)
 obtain ⟨r1,f1,b1⟩:=again Hj (qs:=ps.map Hj) rfl hne h1 hlen λp hp=>by
  obtain ⟨c1,c2,c3,c4,c5,c6,c7,c8,c9,-⟩:=lc p hp
  refine ⟨c2,c3,c5,λe=>?_,c6,c7,c8⟩
  rw [e] at c6
  exact absurd c6 (by decide +kernel)
 obtain ⟨r2,f2,b2⟩:=again (λp=>Lab.chars (As p)) (qs:=ps.map λp=>Lab.chars (As p)) rfl hne h1 hlen λp hp=>by
  obtain ⟨-,-,-,-,-,-,-,-,c9,c10,c11,c12,c13,c14,c15⟩:=lc p hp
  refine ⟨Lab.D8 c10,c11,c12,λe=>?_,c13,c14,c15⟩
  have:=congrArg List.length e
  unfold Lab.chars at this
  rw [List.length_map] at this
  simp only [List.length_nil] at this
  omega
 have eu:Ah (Cy (ps.map Hj))=Cq (ps.map Ck):=by
  rw [Wl,List.map_map]
  congr 1
  exact List.map_congr_left λp hp=>(lc p hp).1.symm
 have ea:Ah (Cy (ps.map λp=>Lab.chars (As p)))=Cq (ps.map As):=by
  rw [Wl,List.map_map]
  congr 1
  exact List.map_congr_left λp hp=>Em _ (lc p hp).2.2.2.2.2.2.2.2.2.1
 have hA:∀ c ∈ Cq (ps.map As),c.toNat<128:=by
  have:∀ qs:List (List Int),(∀ p ∈ qs,∀ c ∈ As p,c.toNat<128)->∀ c ∈ Cq (qs.map As),c.toNat<128:=by
   intro qs
   induction qs with
   | nil=>intro _ c hc;cases hc
   | cons x t ih =>
    intro h c hc
    cases t with
    | nil=>exact h x (by simp) c hc
    | cons y t =>
     have hc':c ∈ As x ++ 46::Cq ((y::t).map As):=hc
     rcases List.mem_append.1 hc' with hc | hc
     ·exact h x (by simp) c hc
     ·rcases List.mem_cons.1 hc with rfl | hc
      ·decide
      ·exact ih (λp hp=>h p (by simp only [List.mem_cons] at hp ⊢;exact .inr hp)) c hc
  exact this ps λp hp=>(lc p hp).2.2.2.2.2.2.2.2.2.1
 refine ⟨Cy (ps.map Hj),Cy (ps.map λp=>Lab.chars (As p)),eu.symm,r1,f1,?_,by rw [<- eu] at b1 ⊢;exact b1,ea.symm,r2,f2,?_,by rw [<- ea] at b2 ⊢;exact b2,?_,hlen⟩
 ·have:=Aga (ps.map Hj) As (λq hq=>by
   obtain ⟨p,hp,rfl⟩:=List.mem_map.1 hq
   obtain ⟨-,-,-,c4,-,-,c7,-⟩:=lc p hp
   rw [c7];exact c4)
  rw [List.map_map,show ps.map (As ∘ Hj)=ps.map As from List.map_congr_left λp hp=>(lc p hp).2.2.2.2.2.2.1] at this
  omega
 ·have:=congrArg List.length ea
  have h3:(Cy (ps.map λp=>Lab.chars (As p))).length<=(Ah (Cy (ps.map λp=>Lab.chars (As p)))).length:=by
   have:∀ x:List Int,x.length<=(Ah x).length:=by
    intro x
    induction x with
    | nil=>exact Nat.le_refl _
    | cons y x ih =>
     have:0<(enc y.toNat).length:=by
      unfold enc
      split
      ·simp
      ·split
       · simp
       · split<;>simp
     unfold Ah at ih ⊢
     rw [List.flatMap_cons,List.length_append,List.length_cons]
     omega
   exact this _
  omega
 ·rcases Lab.C8 (Cq (ps.map As)) with ⟨-,h⟩ | ⟨h,-⟩
  ·exact h
  ·rw [Lab.Fe.2 hA] at h;cases h
theorem one {s:List UInt8} {L:List (List Int)} (h:Dj s=(0,L)) (h1:L.length=1):Bt s=Lab.Ds s:=by
 unfold Dj at h
 by_cases hz:(Aq s).2=-1
 ·obtain ⟨hr,he⟩:=Lab.Lr hz
  rw [if_pos hz] at h
  generalize ints (Aq s).1=l at h hr he
  subst he
  by_cases h3:Fold.fold l=[]
  ·rw [if_pos h3] at h;injection h with e1 e2;exact absurd e1 (by decide)
  ·rw [if_neg h3] at h
   by_cases h4:32<(cut (Fold.fold l)).length
   ·rw [if_pos h4] at h;injection h with e1 e2;exact absurd e1 (by decide)
   ·rw [if_neg h4] at h
    injection h with e1 e2
    subst e2
    have hc:=Au5 h1
    have hb:Lab.Ds (Ah (Fold.fold l))=Lab.Ds (Ah l):=by rw [Lab.Fc (Dg hr),Lab.Fc hr,Fold.Il]
    obtain ⟨⟨E,A,V⟩,hE⟩:∃ z,Lab.Ds (Ah l)=z:=⟨_,rfl⟩
    have ha:Dh (Fold.fold l)=E/\As (Fold.fold l)=A/\Ck (Fold.fold l)=V:=by
     unfold Dh As Ck
     rw [hb,hE]
     exact ⟨rfl,rfl,rfl⟩
    by_cases hE0:E=0
    ·subst hE0
     rw [Al4 hr h3 (by omega) (by rw [hc];intro p hp;rw [List.mem_singleton.1 hp];exact ha.1),hc]
     show (if 253<(As (Fold.fold l)).length then _ else ((0:Int),As (Fold.fold l),Ck (Fold.fold l)))=_
     have hlen:A.length<=63:=by
      have hL:Lab.Ej (Fold.fold l)=(0,A,V):=by rw [<- Lab.Fc hr];exact hE
      obtain ⟨U,-,-,-,-,-,-,-,-,hl,-⟩:=Lab.clean (Dg hr) (Fold.Il l) hL
      exact hl
     rw [ha.2.1,ha.2.2,if_neg (by omega),hE]
    ·obtain ⟨rfl,rfl⟩:=Lab.Alv hE hE0
     unfold Bt Fw
     rw [Wd hr,if_neg h3,if_neg h4]
     simp only
     rw [if_pos trivial,hc]
     have hfn:([Fold.fold l].find? λp=>Dh p != 0)=some (Fold.fold l):=by
      rw [List.find?_cons_of_pos (by rw [ha.1];exact bne_iff_ne.2 hE0)]
     rw [hfn]
     simp only
     rw [ha.1,hE]
 ·rw [if_neg hz] at h
  injection h with e1 e2
  exact absurd e1 (by decide)
end Dom
end
end Go.Proofs.YtppmbilonaflfaaGreatDoor
