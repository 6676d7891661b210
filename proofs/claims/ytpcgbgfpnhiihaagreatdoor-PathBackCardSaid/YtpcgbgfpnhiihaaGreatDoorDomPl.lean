import Derived.Test.YtpcgbgfpnhiihaaGreatDoorLabFine
import Derived.Lib.DecodeN
namespace Go.Proofs.YtpcgbgfpnhiihaaGreatDoor
section
open Go.RowKit Utf
namespace Wall
def Bv (x:Int):Bool:=(decide (0<=x) && decide (x<=47)) || (decide (58<=x) && decide (x<=64)) || (decide (91<=x) && decide (x<=96)) || (decide (123<=x) && decide (x<=127)) || x == 12290
theorem Amz {d:Int} (h:Bv d=true):d=12290\/∃ n:Nat,n<128/\d=n:=by
 unfold Bv at h
 simp only [Bool.or_eq_true,Bool.and_eq_true,decide_eq_true_eq,beq_iff_eq] at h
 by_cases e:d=12290
 · exact .inl e
 · exact .inr ⟨d.toNat,by omega,by omega⟩
theorem Po {d:Int} (h:Bv d=true):(0<=d/\d<=127)\/d=12290:=by
 rcases Amz h with h | ⟨n,h1,rfl⟩
 · exact .inr h
 · exact .inl (by omega)
theorem Abf:∀ y ∈ splits,(y.soft=false->y.out=false->Bv y.one=false/\Bv y.two=false)/\(Norm.pieces false y.rune).all (λc=>!Bv c)=true:=by decide +kernel
def Yp (x:Int):Bool:=!Bv x || (Ae x == 0 && decide (Norm.pieces false x=[x]) && decide (Fold.fo x=x))
theorem Ri:(∀ n,n<128->Yp ((n:Nat):Int)=true)/\Yp 12290=true:=by decide +kernel
theorem Yq {d:Int} (h:Bv d=true):Ae d=0/\Norm.pieces false d=[d]/\Fold.fo d=d:=by
 have:Yp d=true:=by
  rcases Amz h with rfl | ⟨n,h1,rfl⟩
  · exact Ri.2
  · exact Ri.1 n h1
 unfold Yp at this
 rw [h] at this
 simp only [Bool.not_true,Bool.false_or,Bool.and_eq_true,beq_iff_eq,decide_eq_true_eq] at this
 exact ⟨this.1.1,this.1.2,this.2⟩
theorem V6 {d:Int} (h:Bv d=true):Ae d=0:=(Yq h).1
theorem Ug {d:Int} (h:Bv d=true):Norm.pieces false d=[d]:=(Yq h).2.1
theorem Av6 {d:Int} (h:Bv d=true):Fold.fo d=d:=(Yq h).2.2
theorem Apc {a b:Int} (h:Bv a=true\/Bv b=true):Gg a b=none:=by
 cases hp:Gg a b with
 | none=>rfl
 | some z =>
  obtain ⟨y,hy,h1,h2,ho⟩:=Ft hp
  obtain ⟨-,-,h4⟩:=Pl hy ho
  rcases Bi hy with ⟨h3,-⟩ | ⟨-,rfl⟩
  ·have:=(Abf y h3).1 h4 ho
   rw [h1,h2] at this
   rcases h with h | h
   · rw [h] at this;exact absurd this.1 (by decide)
   · rw [h] at this;exact absurd this.2 (by decide)
  ·cases ho
theorem Aax {a b:Int} (h:Bv a=true\/Bv b=true):Norm.Dr a b=none:=by
 have ha:Bv a=true->(0<=a/\a<=127)\/a=12290:=Po
 have hb:Bv b=true->(0<=b/\b<=127)\/b=12290:=Po
 unfold Norm.Dr
 rw [if_neg (by rcases h with h | h;have:=ha h;omega;have:=hb h;omega),if_neg (λe=>by
  have:=(Norm.Cd a).1 e.1
  rcases h with h | h
  · have:=ha h;omega
  · have:=hb h;omega)]
 exact Apc h
theorem Aqs {d:Int} (hd:Bv d=true) (S R:List Int) (c:Int):Norm.step (S ++ d::R) c=Norm.step S c ++ d::R:=by
 have h0:¬ 0<Ae d:=by rw [V6 hd];omega
 unfold Norm.step
 rw [List.dropWhile_append,List.takeWhile_append]
 cases hdw:S.dropWhile (λy=>decide (0<Ae y)) with
 | nil =>
  have ht:S.takeWhile (λy=>decide (0<Ae y))=S:=by
   have:=List.takeWhile_append_dropWhile (p:=λy=>decide (0<Ae y)) (l:=S)
   rw [hdw,List.append_nil] at this
   exact this
  rw [ht,if_pos rfl]
  simp only [List.isEmpty_nil,if_true,List.dropWhile_cons,h0,decide_false,Bool.false_eq_true,if_false,Aax (Or.inl hd)]
  split<;>rfl
 | cons s A =>
  have ht:¬ (S.takeWhile (λy=>decide (0<Ae y))).length=S.length:=by
   have:=congrArg List.length (List.takeWhile_append_dropWhile (p:=λy=>decide (0<Ae y)) (l:=S))
   rw [hdw,List.length_append,List.length_cons] at this
   omega
  rw [if_neg ht]
  simp only [List.isEmpty_cons,Bool.false_eq_true,if_false,List.cons_append]
  split
  ·split
   · rw [List.append_assoc];rfl
   · rfl
  ·rfl
theorem Aqt {d:Int} (hd:Bv d=true) (R:List Int):Norm.step R d=d::R:=by
 unfold Norm.step
 split
 ·rfl
 ·split
  · rw [Aax (Or.inr hd)]
  · rfl
theorem Ye {d:Int} (hd:Bv d=true):∀ (q S R:List Int),q.foldl Norm.step (S ++ d::R)=q.foldl Norm.step S ++ d::R
 | [],_,_=>rfl
 | c::q,S,R=>by rw [List.foldl_cons,List.foldl_cons,Aqs hd,Ye hd q]
theorem Aar {d:Int} (hd:Bv d=true) (p q:List Int):Norm.join (p ++ d::q)=Norm.join p ++ d::Norm.join q:=by
 unfold Norm.join Norm.Afv
 rw [List.foldl_append,List.foldl_cons,Aqt hd,show d::p.foldl Norm.step []=[] ++ d::p.foldl Norm.step [] from rfl,Ye hd,List.reverse_append]
 simp
theorem Afr {d:Int} (hd:Bv d=true) (x:Int):∀ L M:List Int,Norm.ins x (L ++ d::M)=Norm.ins x L ++ d::M
 | [],M=>by
  show Norm.ins x (d::M)=[x] ++ d::M
  unfold Norm.ins
  rw [if_neg (by rw [V6 hd];omega)]
  rfl
 | y::L,M=>by
  show Norm.ins x (y::(L ++ d::M))=_
  unfold Norm.ins
  split
  · rw [Afr hd x L M];rfl
  · rfl
theorem Xh {d:Int} (hd:Bv d=true):∀ p q:List Int,Norm.order (p ++ d::q)=Norm.order p ++ d::Norm.order q
 | [],q=>by
  show Norm.ins d (Norm.order q)=d::Norm.order q
  cases Norm.order q with
  | nil=>rfl
  | cons y l =>
   unfold Norm.ins
   rw [if_neg (by rw [V6 hd];omega)]
 | x::p,q=>by
  show Norm.ins x (Norm.order (p ++ d::q))=Norm.ins x (Norm.order p) ++ _
  rw [Xh hd p q,Afr hd]
theorem Aac {d:Int} (hd:Bv d=true) (p q:List Int):Norm.down false (p ++ d::q)=Norm.down false p ++ d::Norm.down false q:=by
 unfold Norm.down
 rw [Norm.Gl,show d::q=[d] ++ q from rfl,Norm.Gl,show Norm.split false [d]=[d] by unfold Norm.split;rw [List.flatMap_cons,Ug hd];rfl]
 exact Xh hd _ _
theorem U6 {d:Int} (hd:Bv d=true) (p q:List Int):Fold.fold (p ++ d::q)=Fold.fold p ++ d::Fold.fold q:=by
 unfold Fold.fold
 rw [List.map_append,List.map_cons,Av6 hd,Aac hd,Aar hd]
theorem An9 {d r:Int} (hd:Bv d=true) (h:d ∈ Norm.pieces false r):r=d:=by
 rw [Norm.Ay] at h
 cases hs:Norm.syl r with
 | true =>
  rw [hs,if_pos rfl] at h
  have:=(Norm.Hk d).1 (Norm.Ng hs d h)
  have:=Po hd
  omega
 | false =>
  cases ho:Aj r with
  | none=>rw [hs,ho] at h;exact (by simpa using h:d=r).symm
  | some y =>
   rcases Bi ho with ⟨h1,rfl⟩ | ⟨h1,hy⟩
   ·have h2:=(Abf y h1).2
    rw [List.all_eq_true] at h2
    rw [<- Norm.Ay] at h
    have:=h2 d h
    rw [hd] at this
    exact absurd this (by decide)
   ·rw [hs,ho,hy] at h
    exact (by simpa using h:d=r).symm
theorem Atr {p:List Int} {d:Int} (hd:Bv d=true) (h:d ∈ Norm.join (Norm.down false p)):d ∈ p:=by
 have hs:=Norm.Afz false (l:=Norm.down false p) (Norm.Oz false p)
 have h1:d ∈ Norm.split false (Norm.join (Norm.down false p)):=by
  unfold Norm.split
  exact List.mem_flatMap.2 ⟨d,h,by rw [Ug hd];simp⟩
 have h2:=(Norm.Amv hs d).1 h1
 obtain ⟨r,hr,hp⟩:=Norm.Qk false p d h2
 rwa [<- An9 hd hp]
end Wall
end
section
open Go.RowKit Utf
namespace Dom
def Ck (x:Int):Bool:=x == 46 || x == 12290
theorem Anz {d:Int} (h:Ck d=true):d=46\/d=12290:=by
 unfold Ck at h
 simpa using h
theorem Rs {d:Int} (h:Ck d=true):Wall.Bv d=true:=by rcases Anz h with rfl | rfl<;>decide
theorem U6 {d:Int} (hd:Ck d=true) (p q:List Int):Fold.fold (p ++ d::q)=Fold.fold p ++ d::Fold.fold q:=Wall.U6 (Rs hd) p q
theorem Asv (p q:List Int):Fold.fold (p ++ 46::q)=Fold.fold p ++ 46::Fold.fold q:=U6 (by decide) p q
def cut:List Int->List (List Int)
 | []=>[[]]
 | x::l=>if Ck x then []::cut l else match cut l with | []=>[[x]] | h::t=>(x::h)::t
theorem Ff (l:List Int):∃ h t,cut l=h::t:=by
 cases l with
 | nil=>exact ⟨_,_,rfl⟩
 | cons x l =>
  unfold cut
  split
  ·exact ⟨_,_,rfl⟩
  ·split
   · exact ⟨_,_,rfl⟩
   · exact ⟨_,_,rfl⟩
theorem Al2:∀ p q:List Int,cut (p ++ 46::q)=cut p ++ cut q
 | [],q=>by
  show cut (46::q)=[[]] ++ cut q
  rw [cut,if_pos (by decide)]
  rfl
 | x::p,q=>by
  show cut (x::(p ++ 46::q))=_
  rw [cut,cut,Al2 p q]
  split
  ·rfl
  ·obtain ⟨h,t,e⟩:=Ff p
   rw [e]
   rfl
theorem cut_none:∀ {l:List Int},(∀ x ∈ l,Ck x=false)->cut l=[l]
 | [],_=>rfl
 | x::l,h=>by
  rw [cut,if_neg (by rw [h x (by simp)];decide),cut_none (λy hy=>h y (by simp [hy]))]
theorem Avv {l:List Int} (h:(cut l).length=1):cut l=[l]:=by
 induction l with
 | nil=>rfl
 | cons x l ih =>
  rw [cut] at h ⊢
  obtain ⟨a,t,e⟩:=Ff l
  by_cases hx:Ck x=true
  ·rw [if_pos hx,e] at h
   simp at h
  ·rw [if_neg hx] at h ⊢
   rw [e] at h ih ⊢
   simp only [List.length_cons,Nat.add_eq_right,List.length_eq_zero_iff] at h
   subst h
   have:=ih rfl
   injection this with h1
   subst h1
   rfl
def Dd:List (List Int)->List Int
 | []=>[]
 | [x]=>x
 | x::y::t=>x ++ 46::Dd (y::t)
theorem cut_dots:∀ {ps:List (List Int)},ps ≠ []->(∀ p ∈ ps,∀ x ∈ p,Ck x=false)->cut (Dd ps)=ps
 | [],h,_=>absurd rfl h
 | [x],_,h=>cut_none (h x (by simp))
 | x::y::t,_,h=>by
  show cut (x ++ 46::Dd (y::t))=_
  rw [Al2,cut_none (h x (by simp)),cut_dots (by simp) (λp hp=>h p (by simp only [List.mem_cons] at hp ⊢;exact .inr hp))]
  rfl
theorem fold_dots:∀ {ps:List (List Int)},(∀ p ∈ ps,Fold.fold p=p)->Fold.fold (Dd ps)=Dd ps
 | [],_=>rfl
 | [x],h=>h x (by simp)
 | x::y::t,h=>by
  show Fold.fold (x ++ 46::Dd (y::t))=_
  rw [Asv,h x (by simp),fold_dots (λp hp=>h p (by simp only [List.mem_cons] at hp ⊢;exact .inr hp))]
  rfl
theorem right_dots:∀ {ps:List (List Int)},(∀ p ∈ ps,Af p=true)->Af (Dd ps)=true
 | [],_=>rfl
 | [x],h=>h x (by simp)
 | x::y::t,h=>by
  have h1:=h x (by simp)
  have h2:=right_dots (ps:=y::t) (λp hp=>h p (by simp only [List.mem_cons] at hp ⊢;exact .inr hp))
  show Af (x ++ 46::Dd (y::t))=true
  unfold Af at h1 h2 ⊢
  rw [List.all_append,h1,List.all_cons,h2]
  decide
theorem Aum {d:Int} {A B p R:List Int} (h:A ++ d::B=p ++ d::R) (hA:d ∈ A->d ∈ p) (hp:d ∉ p):A=p/\B=R:=by
 have hlt:A.length=p.length:=by
  rcases Nat.lt_trichotomy A.length p.length with h1 | h1 | h1
  ·exfalso
   have e:(A ++ d::B)[A.length]? = (p ++ d::R)[A.length]?:=by rw [h]
   rw [List.getElem?_append_right (Nat.le_refl _),Nat.sub_self,List.getElem?_cons_zero,List.getElem?_append_left h1,List.getElem?_eq_getElem h1] at e
   exact hp (by injection e with e;rw [e];exact List.getElem_mem h1)
  ·exact h1
  ·exfalso
   have e:(A ++ d::B)[p.length]? = (p ++ d::R)[p.length]?:=by rw [h]
   rw [List.getElem?_append_left h1,List.getElem?_eq_getElem h1,List.getElem?_append_right (Nat.le_refl _),Nat.sub_self,List.getElem?_cons_zero] at e
   exact hp (hA (by injection e with e;rw [<- e];exact List.getElem_mem h1))
 obtain ⟨h1,h2⟩:=List.append_inj h hlt
 exact ⟨h1,by injection h2⟩
theorem Z4:∀ l:List Int,((∀ x ∈ l,Ck x=false)/\cut l=[l])\/∃ p d R,Ck d=true/\l=p ++ d::R/\(∀ x ∈ p,Ck x=false)/\cut l=p::cut R
 | []=>.inl ⟨λx hx=>(by cases hx),rfl⟩
 | x::l=>by
  cases hx:Ck x with
  | true=>exact .inr ⟨[],x,l,hx,rfl,λy hy=>(by cases hy),by rw [cut,if_pos hx]⟩
  | false =>
   rcases Z4 l with ⟨h1,h2⟩ | ⟨p,d,R,hd,rfl,h1,h2⟩
   · exact .inl ⟨λy hy=>(by
    rcases List.mem_cons.1 hy with rfl | hy
    · exact hx
    · exact h1 y hy),by rw [cut,if_neg (by rw [hx];decide),h2]⟩
   · exact .inr ⟨x::p,d,R,hd,rfl,λy hy=>(by
    rcases List.mem_cons.1 hy with rfl | hy
    · exact hx
    · exact h1 y hy),by rw [cut,if_neg (by rw [hx];decide),h2]⟩
theorem Ar6 (n:Nat):∀ L:List Int,L.length<=n->Norm.join (Norm.down false L)=L->(∀ c ∈ L,Fold.fo c=c)->∀ p ∈ cut L,Fold.fold p=p:=by
 induction n with
 | zero =>
  intro L hn _ _ p hp
  obtain rfl:L=[]:=List.eq_nil_of_length_eq_zero (by omega)
  rw [List.mem_singleton.1 hp];rfl
 | succ n ih =>
  intro L hn hj hf p hp
  have one:∀ q:List Int,Norm.join (Norm.down false q)=q->(∀ c ∈ q,Fold.fo c=c)->Fold.fold q=q:=λq h1 h2=>by
   unfold Fold.fold
   rw [Fold.Vd h2]
   exact h1
  rcases Z4 L with ⟨-,h⟩ | ⟨q,d,R,hd,rfl,hq,h⟩
  ·rw [h] at hp
   rw [List.mem_singleton.1 hp]
   exact one L hj hf
  ·rw [Wall.Aac (Rs hd),Wall.Aar (Rs hd)] at hj
   have hdq:d ∉ q:=λhm=>by rw [hq d hm] at hd;cases hd
   obtain ⟨e1,e2⟩:=Aum hj (Wall.Atr (Rs hd)) hdq
   rw [h] at hp
   rcases List.mem_cons.1 hp with rfl | hp
   ·exact one p e1 λc hc=>hf c (by simp [hc])
   ·refine ih R ?_ e2 (λc hc=>hf c (by simp [hc])) p hp
    rw [List.length_append,List.length_cons] at hn
    omega
theorem Xm (l:List Int):∀ p ∈ cut (Fold.fold l),Fold.fold p=p :=
 Ar6 _ _ (Nat.le_refl _) (Fold.Atq l) (Fold.Qs l)
end Dom
end
section
open Go.RowKit Utf
namespace Dom
theorem Ks {x:Int} (hx:Ck x=true):∀ l:List Int,cut (l ++ [x])=cut l ++ [[]]
 | []=>by
  show cut [x]=[[]] ++ [[]]
  rw [cut,if_pos hx]
  rfl
 | y::l=>by
  show cut (y::(l ++ [x]))=_
  rw [cut,cut,Ks hx l]
  split
  ·rfl
  ·obtain ⟨a,t,e⟩:=Ff l
   rw [e]
   rfl
theorem V8 {x:Int} (hx:Ck x=false):∀ (l:List Int) (q:Nat),(cut l).length=q+1->cut (l ++ [x])=(cut l).set q ((cut l)[q]! ++ [x])
 | [],q,h=>by
  obtain rfl:q=0:=by have:(1:Nat)=q+1:=h;omega
  show cut [x]=[[x]]
  rw [cut,if_neg (by rw [hx];decide)]
  rfl
 | y::l,q,h=>by
  show cut (y::(l ++ [x]))=_
  rw [cut] at h ⊢
  rw [cut]
  obtain ⟨a,t,e⟩:=Ff l
  by_cases hy:Ck y=true
  ·rw [if_pos hy] at h
   rw [if_pos hy,if_pos hy]
   obtain ⟨q',rfl⟩:∃ q',q=q'+1:=by
    cases q with
    | zero=>rw [e] at h;simp at h
    | succ q'=>exact ⟨q',rfl⟩
   rw [V8 hx l q' (by simpa using h)]
   rfl
  ·rw [if_neg hy] at h
   rw [if_neg hy,if_neg hy]
   rw [e] at h
   have ih:=V8 hx l q (by rw [e];simpa using h)
   rw [ih,e]
   cases q with
   | zero=>rfl
   | succ q'=>rfl
theorem get_at (A X:List UInt8) (j:Nat):(⟨(A ++ X).toArray⟩:ByteArray).get! (A.length+j)=X.getD j 0:=by
 show (A ++ X).toArray[A.length+j]! = _
 by_cases h:j<X.length
 ·rw [getElem!_pos _ _ (by simp;omega)]
  simp [List.getElem_append_right,List.getD,h]
 ·rw [getElem!_neg _ _ (by simp;omega)]
  simp [List.getD,h]
  rfl
theorem Aiz (A B:List UInt8) (r:Nat) (h:right r=true):Utf8.decode ⟨(A ++ (enc r ++ B)).toArray⟩ A.length=(r,(enc r).length):=by
 rw [Dh] at h
 have g0:=get_at A (enc r ++ B) 0
 rw [Nat.add_zero] at g0
 rw [Lib.decode_at,g0,get_at,get_at,get_at]
 have hs:(⟨(A ++ (enc r ++ B)).toArray⟩:ByteArray).size - A.length=(enc r).length+B.length:=by
  show (A ++ (enc r ++ B)).toArray.size - A.length=_
  simp
 rw [hs]
 unfold enc
 by_cases h1:r<128
 ·rw [if_pos h1]
  simp only [List.cons_append,List.nil_append,List.getD_cons_zero,A9 (show r<256 by omega),List.length_cons,List.length_nil]
  unfold Lib.decodeN
  rw [if_pos h1]
 rw [if_neg h1]
 by_cases h2:r<2048
 ·rw [if_pos h2]
  simp only [List.cons_append,List.nil_append,List.getD_cons_zero,List.getD_cons_succ,A9 (show 192+r / 64<256 by omega),A9 (show 128+r % 64<256 by omega),List.length_cons,List.length_nil]
  unfold Lib.decodeN
  rw [if_neg (by omega),if_pos (by omega),if_pos (by omega)]
  congr 1
  omega
 rw [if_neg h2]
 by_cases h3:r<65536
 ·rw [if_pos h3]
  simp only [List.cons_append,List.nil_append,List.getD_cons_zero,List.getD_cons_succ,A9 (show 224+r / 4096<256 by omega),A9 (show 128+r / 64 % 64<256 by omega),A9 (show 128+r % 64<256 by omega),List.length_cons,List.length_nil]
  unfold Lib.decodeN
  rw [if_neg (by omega),if_neg (by omega),if_pos (by omega),if_pos (by omega)]
  congr 1
  omega
 rw [if_neg h3]
 simp only [List.cons_append,List.nil_append,List.getD_cons_zero,List.getD_cons_succ,A9 (show 240+r / 262144<256 by omega),A9 (show 128+r / 4096 % 64<256 by omega),A9 (show 128+r / 64 % 64<256 by omega),A9 (show 128+r % 64<256 by omega),List.length_cons,List.length_nil]
 unfold Lib.decodeN
 rw [if_neg (by omega),if_neg (by omega),if_neg (by omega),if_pos (by omega),if_pos (by omega)]
 congr 1
 omega
theorem Mf (a b:List Int):Ah (a ++ b)=Ah a ++ Ah b:=by unfold Ah;exact List.flatMap_append
theorem Abd {L:List Int} (h:Af L=true) {k:Nat} (hk:k<L.length):0<=L[k]!/\right (L[k]!).toNat=true:=by
 unfold Af at h
 rw [List.all_eq_true] at h
 have h2:=h _ (List.getElem_mem hk)
 rw [getElem!_pos L k hk]
 unfold Ak at h2
 rw [Bool.and_eq_true,decide_eq_true_eq] at h2
 exact h2
theorem X7 {L:List Int} {k:Nat} (hk:k<L.length):L=L.take k ++ L[k]!::L.drop (k+1):=by
 rw [getElem!_pos L k hk]
 exact (List.take_append_drop k L).symm.trans (by rw [List.drop_eq_getElem_cons hk])
def at_ (L:List Int) (k:Nat):Nat:=(Ah (L.take k)).length
theorem Alw {L:List Int} {k:Nat} (hk:k<L.length):at_ L (k+1)=at_ L k+(enc (L[k]!).toNat).length:=by
 unfold at_
 rw [show L.take (k+1)=L.take k ++ [L[k]!] by rw [List.take_add_one,List.getElem?_eq_getElem hk,getElem!_pos L k hk];rfl,Nu,List.length_append]
theorem Axx (L:List Int):at_ L L.length=(Ah L).length:=by unfold at_;rw [List.take_length]
theorem Kx (r:Nat):1<=(enc r).length:=by unfold enc;split<;>(try split)<;>(try split)<;>simp
theorem Av3 (r:Nat):(enc r).length<=4:=by unfold enc;split<;>(try split)<;>(try split)<;>simp
theorem Ayq {L:List Int} {k:Nat} (hk:k<L.length):at_ L k+(enc (L[k]!).toNat).length<=(Ah L).length:=by
 have e:=congrArg Ah (X7 hk)
 rw [Mf,show L[k]!::L.drop (k+1)=[L[k]!] ++ L.drop (k+1) from rfl,Mf,show Ah [L[k]!]=enc (L[k]!).toNat by simp [Ah]] at e
 have:=congrArg List.length e
 rw [List.length_append,List.length_append] at this
 unfold at_
 omega
theorem Aw1 {L:List Int} (h:Af L=true) {k:Nat} (hk:k<L.length):Utf8.decode ⟨(Ah L).toArray⟩ (at_ L k)=((L[k]!).toNat,(enc (L[k]!).toNat).length):=by
 have e:=congrArg Ah (X7 hk)
 rw [Mf,show L[k]!::L.drop (k+1)=[L[k]!] ++ L.drop (k+1) from rfl,Mf,show Ah [L[k]!]=enc (L[k]!).toNat by simp [Ah]] at e
 rw [e]
 exact Aiz _ _ _ (Abd h hk).2
theorem Aex {d:Int} (hd:Ck d=true):∀ p R:List Int,cut (p ++ d::R)=cut p ++ cut R
 | [],R=>by
  show cut (d::R)=[[]] ++ cut R
  rw [cut,if_pos hd]
  rfl
 | y::p,R=>by
  show cut (y::(p ++ d::R))=_
  rw [cut,cut,Aex hd p R]
  split
  ·rfl
  ·obtain ⟨a,t,e⟩:=Ff p
   rw [e]
   rfl
def Ho (L:List Int) (k q b:Nat):Prop:=(cut (L.take k)).length=q+1/\∃ A,Ah (L.take k)=A ++ Ah (cut (L.take k))[q]!/\A.length=b
def gone (L:List Int) (k q:Nat):List (List UInt8):=((cut (L.take k)).take q).map Ah
theorem Axz (L:List Int):Ho L 0 0 0:=⟨rfl,[],rfl,rfl⟩
theorem Afm {L:List Int} {k q b:Nat} (h:Ho L k q b):(gone L k q).length=q:=by unfold gone;rw [List.length_map,List.length_take,h.1];omega
theorem Avt {L:List Int} {k q b:Nat} (h:Ho L k q b):b<=at_ L k:=by obtain ⟨-,A,e,rfl⟩:=h;unfold at_;rw [e,List.length_append];omega
theorem Aew:∀ l:List Int,(cut l).length<=l.length+1
 | []=>Nat.le_refl _
 | x::l=>by
  have ih:=Aew l
  rw [cut]
  obtain ⟨a,t,e⟩:=Ff l
  rw [e] at ih ⊢
  split
  · simp at ih ⊢;omega
  · simp at ih ⊢;omega
theorem Ar5 {L:List Int} {k q b:Nat} (h:Ho L k q b):q<=k:=by have:=Aew (L.take k);rw [h.1,List.length_take] at this;omega
theorem take_one {L:List Int} {k:Nat} (hk:k<L.length):L.take (k+1)=L.take k ++ [L[k]!]:=by rw [List.take_add_one,List.getElem?_eq_getElem hk,getElem!_pos L k hk];rfl
theorem Avu {L:List Int} {k q b:Nat} (h:Ho L k q b) (hk:k<L.length) (hd:Ck L[k]! = false):Ho L (k+1) q b/\gone L (k+1) q=gone L k q:=by
 obtain ⟨hq,A,e,rfl⟩:=h
 have hc:=V8 hd (L.take k) q hq
 have hql:q<(cut (L.take k)).length:=by omega
 refine ⟨⟨?_,A,?_,rfl⟩,?_⟩
 ·rw [take_one hk,hc,List.length_set];exact hq
 ·rw [take_one hk,hc,getElem!_pos _ q (by rw [List.length_set];exact hql),List.getElem_set_self,Nu,e,Nu,List.append_assoc]
 ·unfold gone
  rw [take_one hk,hc,List.take_set_of_le (Nat.le_refl q)]
theorem Aeu {L:List Int} {k q b:Nat} (h:Ho L k q b) (hk:k<L.length) (hd:Ck L[k]! = true):Ho L (k+1) (q+1) (at_ L k+(enc (L[k]!).toNat).length)/\gone L (k+1) (q+1)=gone L k q ++ [Ah (cut (L.take k))[q]!]:=by
 obtain ⟨hq,A,e,rfl⟩:=h
 have hc:=Ks hd (L.take k)
 have hql:q<(cut (L.take k)).length:=by omega
 refine ⟨⟨?_,Ah (L.take (k+1)),?_,Alw hk⟩,?_⟩
 ·rw [take_one hk,hc,List.length_append,hq];rfl
 ·rw [take_one hk,hc,getElem!_pos _ (q+1) (by rw [List.length_append,hq];simp),List.getElem_append_right (by omega)]
  simp [hq,Ah]
 ·unfold gone
  rw [take_one hk,hc,List.take_append_of_le_length (by omega),show q+1=q+1 from rfl,List.take_add_one,List.getElem?_eq_getElem hql,getElem!_pos _ q hql,List.map_append]
  rfl
theorem Asw {L:List Int} {k q b:Nat} (h:Ho L k q b) (hk:k<L.length) (hd:Ck L[k]! = true):gone L k q ++ [Ah (cut (L.take k))[q]!] <+: (cut L).map Ah:=by
 rw [<- (Aeu h hk hd).2]
 refine ⟨(cut (L.drop (k+1))).map Ah,?_⟩
 have e:cut L=cut (L.take k) ++ cut (L.drop (k+1)):=by
  have:=Aex hd (L.take k) (L.drop (k+1))
  rw [<- X7 hk] at this
  exact this
 unfold gone
 rw [e,List.map_append,take_one hk,Ks hd,List.take_append_of_le_length (by rw [h.1];omega),List.take_of_length_le (by rw [h.1];omega)]
theorem Asx {L:List Int} {q b:Nat} (h:Ho L L.length q b):gone L L.length q ++ [Ah (cut L)[q]!]=(cut L).map Ah:=by
 obtain ⟨hq,-⟩:=h
 unfold gone
 rw [List.take_length] at hq ⊢
 have hql:q<(cut L).length:=by omega
 have:cut L=(cut L).take q ++ [(cut L)[q]!]:=by
  rw [getElem!_pos _ q hql]
  have:=List.take_add_one (l:=cut L) (i:=q)
  rw [List.take_of_length_le (by omega),List.getElem?_eq_getElem hql] at this
  exact this
 exact (by rw [List.map_append];rfl:((cut L).take q).map Ah ++ [Ah (cut L)[q]!]=((cut L).take q ++ [(cut L)[q]!]).map Ah).trans (congrArg _ this.symm)
theorem Amq {L:List Int} {k q b:Nat} (h:Ho L k q b):(⟨(Ah L).toArray⟩:ByteArray).extract b (at_ L k)=⟨(Ah (cut (L.take k))[q]!).toArray⟩:=by
 obtain ⟨hq,A,e,rfl⟩:=h
 have e2:Ah L=Ah (L.take k) ++ Ah (L.drop k):=by rw [<- Mf,List.take_append_drop]
 have ha:at_ L k=A.length+(Ah (cut (L.take k))[q]!).length:=by unfold at_;rw [e,List.length_append]
 apply ByteArray.ext
 rw [ByteArray.data_extract,e2,e,ha]
 simp
end Dom
end
section
open Go.RowKit Utf
namespace Lab
theorem Qj:Bo 46=false/\Bo 12290=false/\Ctx.Br 46=false/\Ctx.Br 12290=false:=by decide +kernel
theorem Alh {l:List Int} (h:Ez l=0):∀ x ∈ l,Dom.Ck x=false:=by
 have hb:Hg l=false:=by
  unfold Ez at h
  split at h
  ·omega
  ·split at h
   ·omega
   ·split at h
    ·omega
    ·split at h
     ·omega
     ·rename_i h4
      simpa using h4
 intro x hx
 obtain ⟨k,hk,rfl⟩:=List.getElem_of_mem hx
 unfold Hg at hb
 rw [List.any_eq_false] at hb
 have h1:=hb k (List.mem_range.2 hk)
 rw [Bool.or_eq_true,not_or,getElem!_pos l k hk] at h1
 cases hd:Dom.Ck l[k] with
 | false=>rfl
 | true =>
  exfalso
  have hc:Bo l[k]=false/\Ctx.Br l[k]=false:=by
   unfold Dom.Ck at hd
   simp only [Bool.or_eq_true,beq_iff_eq] at hd
   rcases hd with e | e<;>rw [e]
   ·exact ⟨Qj.1,Qj.2.2.1⟩
   ·exact ⟨Qj.2.1,Qj.2.2.2⟩
  refine h1.2 ?_
  rw [Ctx.Ha hk,getElem!_pos l k hk,hc.1,hc.2]
  rfl
theorem Ajc {l:List Int} (h:Af l=true) (hd:∀ x ∈ l,Dom.Ck x=false):∀ c ∈ Puny.Bm l,c.toNat ≠ 46:=by
 have hp:∀ x ∈ l,0<=x:=λx hx=>by
  have:=List.all_eq_true.1 (show l.all Ak=true from h) x hx
  have:=(Al x).1 this
  omega
 intro c hc
 unfold Puny.Bm at hc
 rcases List.mem_append.1 hc with hc | hc
 ·rcases List.mem_append.1 hc with hc | hc
  ·unfold Puny.Bc at hc
   obtain ⟨x,hx,rfl⟩:=List.mem_map.1 hc
   have hm:x ∈ l/\x<128:=by
    unfold Puny.lt at hx
    have:=List.mem_filter.1 hx
    exact ⟨this.1,by simpa using this.2⟩
   show (u x.toNat).toNat ≠ 46
   rw [A9 (by have:=hp x hm.1;omega)]
   intro e
   have hx46:x=46:=by have:=hp x hm.1;omega
   have:=hd x hm.1
   rw [hx46] at this
   exact absurd this (by decide)
  ·unfold Puny.Jy at hc
   split at hc
   ·cases hc
   ·rw [List.mem_singleton.1 hc];decide
 ·unfold Puny.Cs at hc
  obtain ⟨x,hx,rfl⟩:=List.mem_map.1 hc
  obtain ⟨h0,h1⟩:=Puny.Kv _ _ _ _ (Puny.Gp (Ef h)) x hx
  have:∀ i:Nat,i<36->(Puny.Iw (i:Int)).toNat ≠ 46:=by decide +kernel
  have:=this x.toNat (by omega)
  rwa [show ((x.toNat:Nat):Int)=x by omega] at this
theorem clean {L:List Int} (hr:Af L=true) (hf:Fold.fold L=L) {a u:List UInt8} (h:Ej L=(0,a,u)) :
  ∃
   U:List Int,u=Ah U/\Af U=true/\Fold.fold U=U/\Ej U=(0,a,u)/\(∀ c ∈ a,c.toNat<128)/\Fold.fold (chars a)=chars a/\Ej (chars a)=(0,a,u)/\0<a.length/\a.length<=63 /\
   U.length<=a.length/\(∀ x ∈ U,Dom.Ck x=false)/\(∀ x ∈ chars a,Dom.Ck x=false):=by
 obtain ⟨U,hu,rU,fU,-,bU,aA,fA,bA,l0,l1⟩:=back hr hf h
 have hA:(∀ c ∈ a,c.toNat ≠ 46)->∀ x ∈ chars a,Dom.Ck x=false:=λhn x hx=>by
  obtain ⟨c,hc,rfl⟩:=List.mem_map.1 hx
  have h1:=hn c hc
  have h2:=aA c hc
  unfold Dom.Ck
  rw [beq_eq_false_iff_ne.2 (show ((c.toNat:Nat):Int) ≠ 46 by omega),beq_eq_false_iff_ne.2 (show ((c.toNat:Nat):Int) ≠ 12290 by omega)]
  rfl
 have hb:=bU
 unfold Ej at hb
 by_cases h1:Du (Ah U)=false
 ·rw [if_pos h1] at hb
  by_cases h2:Ez U=0
  ·rw [if_pos h2] at hb
   injection hb with e1 e2
   injection e2 with e2 e3
   have hge:=Aje rU
   have hnd:=Alh h2
   refine ⟨U,hu,rU,fU,bU,aA,fA,bA,l0,l1,by rw [<- e2,List.length_append];omega,hnd,hA λc hc=>?_⟩
   rw [<- e2] at hc
   rcases List.mem_append.1 hc with hc | hc
   ·exact (by decide:∀ c ∈ sign,c.toNat ≠ 46) c hc
   ·exact Ajc rU hnd c hc
  ·rw [if_neg h2] at hb
   injection hb with e1 e2
   exact absurd e1 h2
 ·rw [if_neg h1] at hb
  have haU:∀ c ∈ Ah U,c.toNat<128:=Fx.1 (by simpa using h1)
  have hch:chars (Ah U)=U:=Io (Et haU) rU (Ee _ haU)
  by_cases h3:(Ah U).take 4=sign
  ·exfalso
   rw [if_pos h3] at hb
   cases hd:Puny.Hi ((Ah U).drop 4) with
   | none=>rw [hd] at hb;simp only at hb;injection hb with e1 e2;exact absurd e1 (by decide)
   | some l =>
    rw [hd] at hb
    simp only at hb
    split at hb
    ·injection hb with e1 e2;exact absurd e1 (by decide)
    ·split at hb
     ·rename_i h5;injection hb with e1 e2;exact h5 e1
     ·rename_i h5
      split at hb
      ·injection hb with e1 e2;exact absurd e1 (by decide)
      ·injection hb with e1 e2
       injection e2 with e2 e3
       rw [Decidable.not_not] at h5
       have R:=Rf h5
       have:=R.wide
       rw [e3,hu] at this
       exact h1 this
  ·rw [if_neg h3] at hb
   by_cases h4:Fu (Ah U)=0
   ·rw [if_pos h4] at hb
    injection hb with e1 e2
    injection e2 with e2 e3
    have hp:=(Apk (Ah U)).1 h4
    have hn:∀ c ∈ Ah U,c.toNat ≠ 46:=λc hc=>by
     obtain ⟨k,hk,rfl⟩:=List.getElem_of_mem hc
     have:=hp.2.2 k hk
     unfold Sy at this
     rw [Ib hk] at this
     intro e
     rw [e] at this
     revert this
     have:Bidi.Ca ((46:Nat):Int)=false:=by decide
     rw [this]
     simp
    refine ⟨U,hu,rU,fU,bU,aA,fA,bA,l0,l1,?_,?_,hA (by rw [<- e2];exact hn)⟩
    ·rw [<- e2]
     have:=congrArg List.length hch
     unfold chars at this
     rw [List.length_map] at this
     omega
    ·have:=hA (by rw [<- e2];exact hn)
     rw [<- e2,hch] at this
     exact this
   ·rw [if_neg h4] at hb
    injection hb with e1 e2
    exact absurd e1 h4
end Lab
namespace Dom
def Cw:List (List UInt8)->List UInt8
 | []=>[]
 | [x]=>x
 | x::y::t=>x ++ 46::Cw (y::t)
theorem Al6 (x y:List Int):Ah (x ++ 46::y)=Ah x ++ 46::Ah y:=by
 unfold Ah
 rw [List.flatMap_append,List.flatMap_cons,show enc (46:Int).toNat=[46] by decide]
 rfl
theorem Wg:∀ ps:List (List Int),Ah (Dd ps)=Cw (ps.map Ah)
 | []=>rfl
 | [x]=>rfl
 | x::y::t=>by
  show Ah (x ++ 46::Dd (y::t))=Ah x ++ 46::Cw ((y::t).map Ah)
  rw [Al6,Wg (y::t)]
def Db (bs:List UInt8):Int × List (List Int) :=
 if (As bs).2=-1 then
  (if Fold.fold (ints (As bs).1)=[] then (13,[]) else if 32<(cut (Fold.fold (ints (As bs).1))).length then (2,[]) else (0,cut (Fold.fold (ints (As bs).1))))
 else (7,[])
def D5 (p:List Int):Int:=(Lab.Er (Ah p)).1
def Bh (p:List Int):List UInt8:=(Lab.Er (Ah p)).2.1
def Dq (p:List Int):List UInt8:=(Lab.Er (Ah p)).2.2
def Fj (ps:List (List Int)):Int × List UInt8 × List UInt8 :=
 match ps.find? (λp=>D5 p != 0) with
 | some p=>(D5 p,[],[])
 | none=>if 253<(Cw (ps.map Bh)).length then (5,[],[]) else (0,Cw (ps.map Bh),Cw (ps.map Dq))
def Cj (bs:List UInt8):Int × List UInt8 × List UInt8:=if (Db bs).1=0 then Fj (Db bs).2 else ((Db bs).1,[],[])
def Afa (bs:List UInt8):List UInt8:=if (Cj bs).1=0/\Lab.Du bs=true then bs else (Cj bs).2.1
theorem Amn {bs a u:List UInt8} {E:Int} (h:Cj bs=(E,a,u)) (hE:E ≠ 0):a=[]/\u=[]:=by
 unfold Cj at h
 split at h
 ·unfold Fj at h
  split at h
  ·injection h with e1 e2;injection e2 with e2 e3;exact ⟨e2.symm,e3.symm⟩
  ·split at h
   · injection h with e1 e2;injection e2 with e2 e3;exact ⟨e2.symm,e3.symm⟩
   · injection h with e1 e2;exact absurd e1.symm hE
 ·injection h with e1 e2;injection e2 with e2 e3;exact ⟨e2.symm,e3.symm⟩
theorem Wy {l:List Int} (h:Af l=true):Db (Ah l)=if Fold.fold l=[] then (13,[]) else if 32<(cut (Fold.fold l)).length then (2,[]) else (0,cut (Fold.fold l)):=by
 unfold Db
 rw [Fv h,if_pos rfl,(Dg h).1]
theorem Nt:∀ {l:List Int},Af l=true->∀ p ∈ cut l,Af p=true
 | [],_,p,hp=>by rw [List.mem_singleton.1 hp];rfl
 | x::l,h,p,hp=>by
  have h2:Ak x=true/\Af l=true:=by unfold Af at h ⊢;simpa using h
  have ih:=Nt h2.2
  rw [cut] at hp
  obtain ⟨a,t,e⟩:=Ff l
  rw [e] at ih hp
  split at hp
  ·rcases List.mem_cons.1 hp with rfl | hp
   ·rfl
   ·exact ih p hp
  ·rcases List.mem_cons.1 hp with rfl | hp
   ·have:=ih a (by simp)
    unfold Af at this ⊢
    rw [List.all_cons,h2.1,this]
    rfl
   ·exact ih p (by simp [hp])
theorem Al3:∀ l:List Int,∀ p ∈ cut l,p.length<=l.length
 | [],p,hp=>by rw [List.mem_singleton.1 hp];exact Nat.le_refl _
 | x::l,p,hp=>by
  have ih:=Al3 l
  rw [cut] at hp
  obtain ⟨a,t,e⟩:=Ff l
  rw [e] at ih hp
  split at hp
  ·rcases List.mem_cons.1 hp with rfl | hp
   · simp
   · have:=ih p hp;simp only [List.length_cons];omega
  ·rcases List.mem_cons.1 hp with rfl | hp
   · have:=ih a (by simp);simp only [List.length_cons];omega
   · have:=ih p (by simp [hp]);simp only [List.length_cons];omega
theorem Acf {bs a u:List UInt8} (h:Cj bs=(0,a,u)):∃ l:List Int,Af l=true/\bs=Ah l/\Fold.fold l ≠ []/\(cut (Fold.fold l)).length<=32/\(∀ p ∈ cut (Fold.fold l),D5 p=0)/\a=Cw ((cut (Fold.fold l)).map Bh)/\u=Cw ((cut (Fold.fold l)).map Dq)/\a.length<=253:=by
 unfold Cj at h
 by_cases hl:(Db bs).1=0
 ·rw [if_pos hl] at h
  unfold Db at hl h
  by_cases hz:(As bs).2=-1
  ·obtain ⟨h1,h2⟩:=Lab.Mw hz
   rw [if_pos hz] at hl h
   generalize ints (As bs).1=l at hl h h1 h2
   by_cases h3:Fold.fold l=[]
   ·rw [if_pos h3] at hl;exact absurd hl (by decide)
   ·rw [if_neg h3] at hl h
    by_cases h4:32<(cut (Fold.fold l)).length
    ·rw [if_pos h4] at hl;exact absurd hl (by decide)
    ·rw [if_neg h4] at h
     unfold Fj at h
     simp only at h
     cases hf:(cut (Fold.fold l)).find? (λp=>D5 p != 0) with
     | some p =>
      rw [hf] at h
      simp only at h
      injection h with e1 e2
      have:=List.find?_some hf
      rw [e1] at this
      exact absurd this (by decide)
     | none =>
      rw [hf] at h
      simp only at h
      by_cases h5:253<(Cw ((cut (Fold.fold l)).map Bh)).length
      ·rw [if_pos h5] at h;injection h with e1 e2;exact absurd e1 (by decide)
      ·rw [if_neg h5] at h
       injection h with e1 e2
       injection e2 with e2 e3
       refine ⟨l,h1,h2,h3,by omega,λp hp=>?_,e2.symm,e3.symm,by rw [<- e2];omega⟩
       have:=List.find?_eq_none.1 hf p hp
       simpa using this
  ·rw [if_neg hz] at hl
   exact absurd hl (by decide)
 ·rw [if_neg hl] at h
  injection h with e1 e2
  exact absurd e1 hl
theorem Alx {l:List Int} (hr:Af l=true) (h0:Fold.fold l ≠ []) (h1:(cut (Fold.fold l)).length<=32) (h2:∀ p ∈ cut (Fold.fold l),D5 p=0) :
  Cj (Ah l)=if 253<(Cw ((cut (Fold.fold l)).map Bh)).length then (5,[],[]) else (0,Cw ((cut (Fold.fold l)).map Bh),Cw ((cut (Fold.fold l)).map Dq)):=by
 have hf:(cut (Fold.fold l)).find? (λp=>D5 p != 0)=none:=by
  rw [List.find?_eq_none]
  intro p hp
  rw [h2 p hp]
  decide
 unfold Cj Fj
 rw [Wy hr,if_neg h0,if_neg (show ¬ 32<(cut (Fold.fold l)).length by omega)]
 simp only
 rw [if_pos trivial,hf]
def Abu (p:List Int):List Int:=ints (As (Dq p)).1
theorem label_clean {p:List Int} (hr:Af p=true) (h:D5 p=0):Dq p=Ah (Abu p)/\Af (Abu p)=true/\Fold.fold (Abu p)=Abu p/\(Abu p).length<=(Bh p).length/\(∀ x ∈ Abu p,Ck x=false)/\D5 (Abu p)=0/\Bh (Abu p)=Bh p/\Dq (Abu p)=Dq p /\
  0<(Bh p).length/\(∀ c ∈ Bh p,c.toNat<128)/\Fold.fold (Lab.chars (Bh p))=Lab.chars (Bh p)/\(∀ x ∈ Lab.chars (Bh p),Ck x=false)/\D5 (Lab.chars (Bh p))=0/\Bh (Lab.chars (Bh p))=Bh p/\Dq (Lab.chars (Bh p))=Dq p:=by
 have hb:Lab.Ej (Fold.fold p)=(0,Bh p,Dq p):=by
  rw [<- Lab.Ia hr,<- h]
  rfl
 obtain ⟨U,hu,rU,fU,bU,aA,fA,bA,l0,-,hlen,hd,hda⟩:=Lab.clean (D8 hr) (Fold.Nv p) hb
 have e:Abu p=U:=by
  unfold Abu
  rw [hu,Fv rU]
  exact (Dg rU).1
 rw [e]
 have h1:Lab.Er (Ah U)=(0,Bh p,Dq p):=by rw [Lab.Ia rU,fU];exact bU
 have h2:Lab.Er (Ah (Lab.chars (Bh p)))=(0,Bh p,Dq p):=by rw [Lab.Ia (Lab.Et aA),fA];exact bA
 exact ⟨hu,rU,fU,hlen,hd,by unfold D5;rw [h1],by show (Lab.Er (Ah U)).2.1=_;rw [h1],by show (Lab.Er (Ah U)).2.2=_;rw [h1],l0,aA,fA,hda,by unfold D5;rw [h2],by show (Lab.Er (Ah (Lab.chars (Bh p)))).2.1=_;rw [h2],by show (Lab.Er (Ah (Lab.chars (Bh p)))).2.2=_;rw [h2]⟩
theorem Av1:∀ {ps:List (List Int)},ps ≠ []->(∀ p ∈ ps,p ≠ [])->Dd ps ≠ []
 | [],h,_=>absurd rfl h
 | [x],_,h=>h x (by simp)
 | x::y::t,_,_=>by
  show x ++ 46::Dd (y::t) ≠ []
  simp
theorem dots_len:∀ (ps:List (List Int)) (f:List Int->List UInt8),(∀ p ∈ ps,p.length<=(f p).length)->(Dd ps).length<=(Cw (ps.map f)).length
 | [],_,_=>Nat.le_refl _
 | [x],f,h=>h x (by simp)
 | x::y::t,f,h=>by
  have h1:=h x (by simp)
  have h2:=dots_len (y::t) f (λp hp=>h p (by simp only [List.mem_cons] at hp ⊢;exact .inr hp))
  show (x ++ 46::Dd (y::t)).length<=(f x ++ 46::Cw ((y::t).map f)).length
  rw [List.length_append,List.length_append,List.length_cons,List.length_cons]
  omega
theorem again {ps qs:List (List Int)} (f:List Int->List Int) (hq:qs=ps.map f) (hne:ps ≠ []) (hn:ps.length<=32) (hl:(Cw (ps.map Bh)).length<=253)
  (h:∀ p ∈ ps,Af (f p)=true/\Fold.fold (f p)=f p/\(∀ x ∈ f p,Ck x=false)/\f p ≠ []/\D5 (f p)=0/\Bh (f p)=Bh p/\Dq (f p)=Dq p) :
  Af (Dd qs)=true/\Fold.fold (Dd qs)=Dd qs/\Cj (Ah (Dd qs))=(0,Cw (ps.map Bh),Cw (ps.map Dq)):=by
 subst hq
 have hq1:∀ q ∈ ps.map f,∃ p ∈ ps,f p=q:=λq hq=>List.mem_map.1 hq
 have r:Af (Dd (ps.map f))=true:=right_dots λq hq=>by obtain ⟨p,hp,rfl⟩:=hq1 q hq;exact (h p hp).1
 have ff:Fold.fold (Dd (ps.map f))=Dd (ps.map f):=fold_dots λq hq=>by obtain ⟨p,hp,rfl⟩:=hq1 q hq;exact (h p hp).2.1
 have hne':ps.map f ≠ []:=by simpa using hne
 have hc:cut (Fold.fold (Dd (ps.map f)))=ps.map f:=by
  rw [ff]
  exact cut_dots hne' λq hq=>by obtain ⟨p,hp,rfl⟩:=hq1 q hq;exact (h p hp).2.2.1
 have ha:(ps.map f).map Bh=ps.map Bh:=by rw [List.map_map];exact List.map_congr_left λp hp=>(h p hp).2.2.2.2.2.1
 have hu:(ps.map f).map Dq=ps.map Dq:=by rw [List.map_map];exact List.map_congr_left λp hp=>(h p hp).2.2.2.2.2.2
 refine ⟨r,ff,?_⟩
 rw [Alx r (by rw [ff];exact Av1 hne' λq hq=>by obtain ⟨p,hp,rfl⟩:=hq1 q hq;exact (h p hp).2.2.2.1) (by rw [hc,List.length_map];exact hn) (by rw [hc];intro q hq;obtain ⟨p,hp,rfl⟩:=hq1 q hq;exact (h p hp).2.2.2.2.1),hc,ha,hu,if_neg (by omega)]
theorem back {bs a u:List UInt8} (h:Cj bs=(0,a,u)):∃ U A:List Int,u=Ah U/\Af U=true/\Fold.fold U=U/\U.length<=253/\Cj u=(0,a,u)/\a=Ah A/\Af A=true/\Fold.fold A=A/\A.length<=253/\Cj a=(0,a,u)/\Bj a=-1/\a.length<=253:=by
 obtain ⟨l,hr,rfl,h0,h1,h2,rfl,rfl,hlen⟩:=Acf h
 obtain ⟨ps,hps⟩:∃ ps,cut (Fold.fold l)=ps:=⟨_,rfl⟩
 have hne:ps ≠ []:=by obtain ⟨a,t,e⟩:=Ff (Fold.fold l);rw [<- hps,e];simp
 have hrp:∀ p ∈ ps,Af p=true:=by rw [<- hps];exact Nt (D8 hr)
 rw [hps] at h1 h2 hlen ⊢
 have lc:=λp hp=>label_clean (hrp p hp) (h2 p hp)
 obtain ⟨r1,f1,b1⟩:=again Abu (qs:=ps.map Abu) rfl hne h1 hlen λp hp=>by
  obtain ⟨c1,c2,c3,c4,c5,c6,c7,c8,c9,-⟩:=lc p hp
  refine ⟨c2,c3,c5,λe=>?_,c6,c7,c8⟩
  rw [e] at c6
  exact absurd c6 (by decide +kernel)
 obtain ⟨r2,f2,b2⟩:=again (λp=>Lab.chars (Bh p)) (qs:=ps.map λp=>Lab.chars (Bh p)) rfl hne h1 hlen λp hp=>by
  obtain ⟨-,-,-,-,-,-,-,-,c9,c10,c11,c12,c13,c14,c15⟩:=lc p hp
  refine ⟨Lab.Et c10,c11,c12,λe=>?_,c13,c14,c15⟩
  have:=congrArg List.length e
  unfold Lab.chars at this
  rw [List.length_map] at this
  simp only [List.length_nil] at this
  omega
 have eu:Ah (Dd (ps.map Abu))=Cw (ps.map Dq):=by
  rw [Wg,List.map_map]
  congr 1
  exact List.map_congr_left λp hp=>(lc p hp).1.symm
 have ea:Ah (Dd (ps.map λp=>Lab.chars (Bh p)))=Cw (ps.map Bh):=by
  rw [Wg,List.map_map]
  congr 1
  exact List.map_congr_left λp hp=>Ee _ (lc p hp).2.2.2.2.2.2.2.2.2.1
 have hA:∀ c ∈ Cw (ps.map Bh),c.toNat<128:=by
  have:∀ qs:List (List Int),(∀ p ∈ qs,∀ c ∈ Bh p,c.toNat<128)->∀ c ∈ Cw (qs.map Bh),c.toNat<128:=by
   intro qs
   induction qs with
   | nil=>intro _ c hc;cases hc
   | cons x t ih =>
    intro h c hc
    cases t with
    | nil=>exact h x (by simp) c hc
    | cons y t =>
     have hc':c ∈ Bh x ++ 46::Cw ((y::t).map Bh):=hc
     rcases List.mem_append.1 hc' with hc | hc
     ·exact h x (by simp) c hc
     ·rcases List.mem_cons.1 hc with rfl | hc
      ·decide
      ·exact ih (λp hp=>h p (by simp only [List.mem_cons] at hp ⊢;exact .inr hp)) c hc
  exact this ps λp hp=>(lc p hp).2.2.2.2.2.2.2.2.2.1
 refine ⟨Dd (ps.map Abu),Dd (ps.map λp=>Lab.chars (Bh p)),eu.symm,r1,f1,?_,by rw [<- eu] at b1 ⊢;exact b1,ea.symm,r2,f2,?_,by rw [<- ea] at b2 ⊢;exact b2,?_,hlen⟩
 ·have:=dots_len (ps.map Abu) Bh (λq hq=>by
   obtain ⟨p,hp,rfl⟩:=List.mem_map.1 hq
   obtain ⟨-,-,-,c4,-,-,c7,-⟩:=lc p hp
   rw [c7];exact c4)
  rw [List.map_map,show ps.map (Bh ∘ Abu)=ps.map Bh from List.map_congr_left λp hp=>(lc p hp).2.2.2.2.2.2.1] at this
  omega
 ·have:=congrArg List.length ea
  have h3:(Dd (ps.map λp=>Lab.chars (Bh p))).length<=(Ah (Dd (ps.map λp=>Lab.chars (Bh p)))).length:=by
   have:∀ x:List Int,x.length<=(Ah x).length:=by
    intro x
    induction x with
    | nil=>exact Nat.le_refl _
    | cons y x ih =>
     have:0<(enc y.toNat).length:=by
      unfold enc
      split
      ·simp
      ·split
       · simp
       · split<;>simp
     unfold Ah at ih ⊢
     rw [List.flatMap_cons,List.length_append,List.length_cons]
     omega
   exact this _
  omega
 ·rcases Lab.F2 (Cw (ps.map Bh)) with ⟨-,h⟩ | ⟨h,-⟩
  ·exact h
  ·rw [Lab.Fx.2 hA] at h;cases h
theorem one {s:List UInt8} {L:List (List Int)} (h:Db s=(0,L)) (h1:L.length=1):Cj s=Lab.Er s:=by
 unfold Db at h
 by_cases hz:(As s).2=-1
 ·obtain ⟨hr,he⟩:=Lab.Mw hz
  rw [if_pos hz] at h
  generalize ints (As s).1=l at h hr he
  subst he
  by_cases h3:Fold.fold l=[]
  ·rw [if_pos h3] at h;injection h with e1 e2;exact absurd e1 (by decide)
  ·rw [if_neg h3] at h
   by_cases h4:32<(cut (Fold.fold l)).length
   ·rw [if_pos h4] at h;injection h with e1 e2;exact absurd e1 (by decide)
   ·rw [if_neg h4] at h
    injection h with e1 e2
    subst e2
    have hc:=Avv h1
    have hb:Lab.Er (Ah (Fold.fold l))=Lab.Er (Ah l):=by rw [Lab.Ia (D8 hr),Lab.Ia hr,Fold.Nv]
    obtain ⟨⟨E,A,V⟩,hE⟩:∃ z,Lab.Er (Ah l)=z:=⟨_,rfl⟩
    have ha:D5 (Fold.fold l)=E/\Bh (Fold.fold l)=A/\Dq (Fold.fold l)=V:=by
     unfold D5 Bh Dq
     rw [hb,hE]
     exact ⟨rfl,rfl,rfl⟩
    by_cases hE0:E=0
    ·subst hE0
     rw [Alx hr h3 (by omega) (by rw [hc];intro p hp;rw [List.mem_singleton.1 hp];exact ha.1),hc]
     show (if 253<(Bh (Fold.fold l)).length then _ else ((0:Int),Bh (Fold.fold l),Dq (Fold.fold l)))=_
     have hlen:A.length<=63:=by
      have hL:Lab.Ej (Fold.fold l)=(0,A,V):=by rw [<- Lab.Ia hr];exact hE
      obtain ⟨U,-,-,-,-,-,-,-,-,hl,-⟩:=Lab.clean (D8 hr) (Fold.Nv l) hL
      exact hl
     rw [ha.2.1,ha.2.2,if_neg (by omega),hE]
    ·obtain ⟨rfl,rfl⟩:=Lab.Amn hE hE0
     unfold Cj Fj
     rw [Wy hr,if_neg h3,if_neg h4]
     simp only
     rw [if_pos trivial,hc]
     have hfn:([Fold.fold l].find? λp=>D5 p != 0)=some (Fold.fold l):=by
      rw [List.find?_cons_of_pos (by rw [ha.1];exact bne_iff_ne.2 hE0)]
     rw [hfn]
     simp only
     rw [ha.1,hE]
 ·rw [if_neg hz] at h
  injection h with e1 e2
  exact absurd e1 (by decide)
end Dom
end
end Go.Proofs.YtpcgbgfpnhiihaaGreatDoor
