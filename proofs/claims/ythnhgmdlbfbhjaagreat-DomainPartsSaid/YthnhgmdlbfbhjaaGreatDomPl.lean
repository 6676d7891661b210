import Derived.Test.YthnhgmdlbfbhjaaGreatLabFine
import Derived.Lib.DecodeN
namespace Go.Proofs.YthnhgmdlbfbhjaaGreat
section
open Go.RowKit Utf
namespace Wall
def Cr (x:Int):Bool:=(decide (0<=x) && decide (x<=47)) || (decide (58<=x) && decide (x<=64)) || (decide (91<=x) && decide (x<=96)) || (decide (123<=x) && decide (x<=127)) || x == 12290
theorem Ag7 {d:Int} (h:Cr d=true):d=12290\/∃ n:Nat,n<128/\d=n:=by
 unfold Cr at h;simp only [Bool.or_eq_true,jag,decide_eq_true_eq,beq_iff_eq] at h;by_cases e:d=12290
 · exact .inl e
 · exact .inr ⟨d.toNat,by omega,by omega⟩
theorem Oi {d:Int} (h:Cr d=true):(0<=d/\d<=127)\/d=12290:=by
 rcases Ag7 h with h | ⟨n,h1,rfl⟩
 · exact .inr h
 · exact .inl jO
theorem Yr:∀ y ∈ splits,(y.soft=false->y.out=false->Cr y.one=false/\Cr y.two=false)/\(Norm.pieces false y.rune).all (λc=>!Cr c)=true:=by decide +kernel
def Aam (x:Int):Bool:=!Cr x || (Ab x == 0 && decide (Norm.pieces false x=[x]) && decide (Fold.fo x=x))
theorem Qe:(∀ n,n<128->Aam ((n:Nat):Int)=true)/\Aam 12290=true:=by decide +kernel
theorem Wp {d:Int} (h:Cr d=true):Ab d=0/\Norm.pieces false d=[d]/\Fold.fo d=d:=by
 have:Aam d=true:=by
  rcases Ag7 h with rfl | ⟨n,h1,rfl⟩
  · exact Qe.2
  · exact Qe.1 n h1
 unfold Aam at this;rw [h] at this;simp only [Bool.not_true,Bool.false_or,jag,beq_iff_eq,decide_eq_true_eq] at this;exact ⟨this.1.1,this.1.2,this.2⟩
theorem Ul {d:Int} (h:Cr d=true):Ab d=0:=(Wp h).1
theorem Sr {d:Int} (h:Cr d=true):Norm.pieces false d=[d]:=(Wp h).2.1
theorem Anx {d:Int} (h:Cr d=true):Fold.fo d=d:=(Wp h).2.2
theorem Aiw {a b:Int} (h:Cr a=true\/Cr b=true):D3 a b=none:=by
 cases hp:D3 a b with
 | none=>rfl
 | some z =>
  obtain ⟨y,hy,h1,h2,ho⟩:=Fu hp;obtain ⟨-,-,h4⟩:=Og hy ho;rcases Bv hy with ⟨h3,-⟩ | ⟨-,rfl⟩
  ·have:=(Yr y h3).1 h4 ho;rw [h1,h2] at this;rcases h with h | h
   · rw [h] at this;exact absurd this.1 jD
   · rw [h] at this;exact absurd this.2 jD
  ·cases ho
theorem Yf {a b:Int} (h:Cr a=true\/Cr b=true):Norm.Ct a b=none:=by
 have ha:Cr a=true->(0<=a/\a<=127)\/a=12290:=Oi;have hb:Cr b=true->(0<=b/\b<=127)\/b=12290:=Oi;unfold Norm.Ct;rw [if_neg (by rcases h with h | h;have:=ha h;omega;have:=hb h;omega),if_neg (λe=>by
  have:=(Norm.Br a).1 e.1;rcases h with h | h
  · have:=ha h;omega
  · have:=hb h;omega)]
 exact Aiw h
theorem Ajy {d:Int} (hd:Cr d=true) (S R:List Int) (c:Int):Norm.step (S ++ d::R) c=Norm.step S c ++ d::R:=by
 have h0:¬ 0<Ab d:=by rw [Ul hd];omega
 unfold Norm.step;rw [List.dropWhile_append,List.takeWhile_append];cases hdw:S.dropWhile (λy=>decide (0<Ab y)) with
 | nil =>
  have ht:S.takeWhile (λy=>decide (0<Ab y))=S:=by
   have:=List.takeWhile_append_dropWhile (p:=λy=>decide (0<Ab y)) (l:=S);rw [hdw,List.append_nil] at this;exact this
  rw [ht,if_pos rfl];simp only [List.isEmpty_nil,if_true,List.dropWhile_cons,h0,decide_false,Bool.false_eq_true,if_false,Yf (Or.inl hd)];split<;>rfl
 | cons s A =>
  have ht:¬ (S.takeWhile (λy=>decide (0<Ab y))).length=S.length:=by
   have:=congrArg List.length (List.takeWhile_append_dropWhile (p:=λy=>decide (0<Ab y)) (l:=S));rw [hdw,jab,jac] at this;omega
  rw [if_neg ht];simp only [List.isEmpty_cons,Bool.false_eq_true,if_false,jah];split
  ·split
   · rw [jaq];rfl
   · rfl
  ·rfl
theorem Ajz {d:Int} (hd:Cr d=true) (R:List Int):Norm.step R d=d::R:=by
 unfold Norm.step;split
 ·rfl
 ·split
  · rw [Yf (Or.inr hd)]
  · rfl
theorem Wj {d:Int} (hd:Cr d=true):∀ (q S R:List Int),q.foldl Norm.step (S ++ d::R)=q.foldl Norm.step S ++ d::R
 | [],_,_=>rfl
 | c::q,S,R=>by rw [List.foldl_cons,List.foldl_cons,Ajy hd,Wj hd q]
theorem X7 {d:Int} (hd:Cr d=true) (p q:List Int):Norm.join (p ++ d::q)=Norm.join p ++ d::Norm.join q:=by
 unfold Norm.join Norm.X5;rw [List.foldl_append,List.foldl_cons,Ajz hd,show d::p.foldl Norm.step []=[] ++ d::p.foldl Norm.step [] from rfl,Wj hd,List.reverse_append];simp
theorem Abq {d:Int} (hd:Cr d=true) (x:Int):∀ L M:List Int,Norm.ins x (L ++ d::M)=Norm.ins x L ++ d::M
 | [],M=>by
  show Norm.ins x (d::M)=[x] ++ d::M;unfold Norm.ins;rw [if_neg (by rw [Ul hd];omega)];rfl
 | y::L,M=>by
  show Norm.ins x (y::(L ++ d::M))=_;unfold Norm.ins;split
  · rw [Abq hd x L M];rfl
  · rfl
theorem Vq {d:Int} (hd:Cr d=true):∀ p q:List Int,Norm.order (p ++ d::q)=Norm.order p ++ d::Norm.order q
 | [],q=>by
  show Norm.ins d (Norm.order q)=d::Norm.order q;cases Norm.order q with
  | nil=>rfl
  | cons y l =>
   unfold Norm.ins;rw [if_neg (by rw [Ul hd];omega)]
 | x::p,q=>by
  show Norm.ins x (Norm.order (p ++ d::q))=Norm.ins x (Norm.order p) ++ _;rw [Vq hd p q,Abq hd]
theorem Xs {d:Int} (hd:Cr d=true) (p q:List Int):Norm.down false (p ++ d::q)=Norm.down false p ++ d::Norm.down false q:=by
 unfold Norm.down;rw [Norm.Gi,show d::q=[d] ++ q from rfl,Norm.Gi,show Norm.split false [d]=[d] by unfold Norm.split;rw [jao,Sr hd];rfl];exact Vq hd _ _
theorem Tm {d:Int} (hd:Cr d=true) (p q:List Int):Fold.fold (p ++ d::q)=Fold.fold p ++ d::Fold.fold q:=by
 unfold Fold.fold;rw [List.map_append,List.map_cons,Anx hd,Xs hd,X7 hd]
theorem Ah3 {d r:Int} (hd:Cr d=true) (h:d ∈ Norm.pieces false r):r=d:=by
 rw [Norm.Ax] at h;cases hs:Norm.syl r with
 | true =>
  rw [hs,if_pos rfl] at h;have:=(Norm.Fl d).1 (Norm.I8 hs d h);have:=Oi hd;omega
 | false =>
  cases ho:Aj r with
  | none=>rw [hs,ho] at h;exact (by simpa using h:d=r).symm
  | some y =>
   rcases Bv ho with ⟨h1,rfl⟩ | ⟨h1,hy⟩
   ·have h2:=(Yr y h1).2;rw [jar] at h2;rw [<- Norm.Ax] at h;have:=h2 d h;rw [hd] at this;exact absurd this jD
   ·rw [hs,ho,hy] at h;exact (by simpa using h:d=r).symm
theorem Al6 {p:List Int} {d:Int} (hd:Cr d=true) (h:d ∈ Norm.join (Norm.down false p)):d ∈ p:=by
 have hs:=Norm.Va false (l:=Norm.down false p) (Norm.N6 false p);have h1:d ∈ Norm.split false (Norm.join (Norm.down false p)):=by
  unfold Norm.split
  exact List.mem_flatMap.2 ⟨d,h,by rw [Sr hd];simp⟩
 have h2:=(Norm.Ag4 hs d).1 h1;obtain ⟨r,hr,hp⟩:=Norm.Ma false p d h2;rwa [<- Ah3 hd hp]
end Wall
end
section
open Go.RowKit Utf
namespace Dom
def Cp (x:Int):Bool:=x == 46 || x == 12290
theorem Xr {d:Int} (h:Cp d=true):d=46\/d=12290:=by
 unfold Cp at h;simpa using h
theorem Qn {d:Int} (h:Cp d=true):Wall.Cr d=true:=by rcases Xr h with rfl | rfl<;>decide
theorem Tm {d:Int} (hd:Cp d=true) (p q:List Int):Fold.fold (p ++ d::q)=Fold.fold p ++ d::Fold.fold q:=Wall.Tm (Qn hd) p q
theorem U3 (p q:List Int):Fold.fold (p ++ 46::q)=Fold.fold p ++ 46::Fold.fold q:=Tm jD p q
def cut:List Int->List (List Int)
 | []=>[[]]
 | x::l=>if Cp x then []::cut l else match cut l with | []=>[[x]] | h::t=>(x::h)::t
theorem Ev (l:List Int):∃ h t,cut l=h::t:=by
 cases l with
 | nil=>exact ⟨_,_,rfl⟩
 | cons x l =>
  unfold cut;split
  ·exact ⟨_,_,rfl⟩
  ·split
   · exact ⟨_,_,rfl⟩
   · exact ⟨_,_,rfl⟩
theorem Zm:∀ p q:List Int,cut (p ++ 46::q)=cut p ++ cut q
 | [],q=>by
  show cut (46::q)=[[]] ++ cut q;rw [cut,if_pos jD];rfl
 | x::p,q=>by
  show cut (x::(p ++ 46::q))=_;rw [cut,cut,Zm p q];split
  ·rfl
  ·obtain ⟨h,t,e⟩:=Ev p;rw [e];rfl
theorem Um:∀ {l:List Int},(∀ x ∈ l,Cp x=false)->cut l=[l]
 | [],_=>rfl
 | x::l,h=>by
  rw [cut,if_neg (by rw [h x jS];decide),Um (λy hy=>h y (by simp [hy]))]
theorem Ann {l:List Int} (h:(cut l).length=1):cut l=[l]:=by
 induction l with
 | nil=>rfl
 | cons x l ih =>
  rw [cut] at h ⊢;obtain ⟨a,t,e⟩:=Ev l;by_cases hx:Cp x=true
  ·rw [if_pos hx,e] at h;simp at h
  ·rw [if_neg hx] at h ⊢;rw [e] at h ih ⊢;simp only [jac,Nat.add_eq_right,List.length_eq_zero_iff] at h;subst h;have:=ih rfl;injection this with h1
   subst h1;rfl
def F9:List (List Int)->List Int
 | []=>[]
 | [x]=>x
 | x::y::t=>x ++ 46::F9 (y::t)
theorem Aa4:∀ {ps:List (List Int)},ps ≠ []->(∀ p ∈ ps,∀ x ∈ p,Cp x=false)->cut (F9 ps)=ps
 | [],h,_=>absurd rfl h
 | [x],_,h=>Um (h x jS)
 | x::y::t,_,h=>by
  show cut (x ++ 46::F9 (y::t))=_;rw [Zm,Um (h x jS),Aa4 jS (λp hp=>h p (by simp only [jal] at hp ⊢;exact .inr hp))];rfl
theorem Xz:∀ {ps:List (List Int)},(∀ p ∈ ps,Fold.fold p=p)->Fold.fold (F9 ps)=F9 ps
 | [],_=>rfl
 | [x],h=>h x jS
 | x::y::t,h=>by
  show Fold.fold (x ++ 46::F9 (y::t))=_;rw [U3,h x jS,Xz (λp hp=>h p (by simp only [jal] at hp ⊢;exact .inr hp))];rfl
theorem V0:∀ {ps:List (List Int)},(∀ p ∈ ps,Ad p=true)->Ad (F9 ps)=true
 | [],_=>rfl
 | [x],h=>h x jS
 | x::y::t,h=>by
  have h1:=h x jS;have h2:=V0 (ps:=y::t) (λp hp=>h p (by simp only [jal] at hp ⊢;exact .inr hp));show Ad (x ++ 46::F9 (y::t))=true;unfold Ad at h1 h2 ⊢;rw [List.all_append,h1,List.all_cons,h2];decide
theorem Amo {d:Int} {A B p R:List Int} (h:A ++ d::B=p ++ d::R) (hA:d ∈ A->d ∈ p) (hp:d ∉ p):A=p/\B=R:=by
 have hlt:A.length=p.length:=by
  rcases Nat.lt_trichotomy A.length p.length with h1 | h1 | h1
  ·exfalso;have e:(A ++ d::B)[A.length]? = (p ++ d::R)[A.length]?:=by rw [h]
   rw [List.getElem?_append_right (jaa _),Nat.sub_self,List.getElem?_cons_zero,List.getElem?_append_left h1,List.getElem?_eq_getElem h1] at e;exact hp (by injection e with e;rw [e];exact List.getElem_mem h1)
  ·exact h1
  ·exfalso;have e:(A ++ d::B)[p.length]? = (p ++ d::R)[p.length]?:=by rw [h]
   rw [List.getElem?_append_left h1,List.getElem?_eq_getElem h1,List.getElem?_append_right (jaa _),Nat.sub_self,List.getElem?_cons_zero] at e;exact hp (hA (by injection e with e;rw [<- e];exact List.getElem_mem h1))
 obtain ⟨h1,h2⟩:=List.append_inj h hlt;exact ⟨h1,by injection h2⟩
theorem Xm:∀ l:List Int,((∀ x ∈ l,Cp x=false)/\cut l=[l])\/∃ p d R,Cp d=true/\l=p ++ d::R/\(∀ x ∈ p,Cp x=false)/\cut l=p::cut R
 | []=>.inl ⟨λx hx=>(by cases hx),rfl⟩
 | x::l=>by
  cases hx:Cp x with
  | true=>exact .inr ⟨[],x,l,hx,rfl,λy hy=>(by cases hy),by rw [cut,if_pos hx]⟩
  | false =>
   rcases Xm l with ⟨h1,h2⟩ | ⟨p,d,R,hd,rfl,h1,h2⟩
   · exact .inl ⟨λy hy=>(by
    rcases jal.1 hy with rfl | hy
    · exact hx
    · exact h1 y hy),by rw [cut,if_neg (by rw [hx];decide),h2]⟩
   · exact .inr ⟨x::p,d,R,hd,rfl,λy hy=>(by
    rcases jal.1 hy with rfl | hy
    · exact hx
    · exact h1 y hy),by rw [cut,if_neg (by rw [hx];decide),h2]⟩
theorem Akq (n:Nat):∀ L:List Int,L.length<=n->Norm.join (Norm.down false L)=L->(∀ c ∈ L,Fold.fo c=c)->∀ p ∈ cut L,Fold.fold p=p:=by
 induction n with
 | zero =>
  intro L hn _ _ p hp;obtain rfl:L=[]:=List.eq_nil_of_length_eq_zero jO;rw [List.mem_singleton.1 hp];rfl
 | succ n ih =>
  intro L hn hj hf p hp;have one:∀ q:List Int,Norm.join (Norm.down false q)=q->(∀ c ∈ q,Fold.fo c=c)->Fold.fold q=q:=λq h1 h2=>by
   unfold Fold.fold;rw [Fold.P1 h2];exact h1
  rcases Xm L with ⟨-,h⟩ | ⟨q,d,R,hd,rfl,hq,h⟩
  ·rw [h] at hp;rw [List.mem_singleton.1 hp];exact one L hj hf
  ·rw [Wall.Xs (Qn hd),Wall.X7 (Qn hd)] at hj;have hdq:d ∉ q:=λhm=>by rw [hq d hm] at hd;cases hd
   obtain ⟨e1,e2⟩:=Amo hj (Wall.Al6 (Qn hd)) hdq;rw [h] at hp;rcases jal.1 hp with rfl | hp
   ·exact one p e1 λc hc=>hf c (by simp [hc])
   ·refine ih R ?_ e2 (λc hc=>hf c (by simp [hc])) p hp;rw [jab,jac] at hn;omega
theorem Ae7 (l:List Int):∀ p ∈ cut (Fold.fold l),Fold.fold p=p :=
 Akq _ _ (jaa _) (Fold.Ab7 l) (Fold.Km l)
end Dom
end
section
open Go.RowKit Utf
namespace Dom
theorem F7 {x:Int} (hx:Cp x=true):∀ l:List Int,cut (l ++ [x])=cut l ++ [[]]
 | []=>by
  show cut [x]=[[]] ++ [[]]
  rw [cut,if_pos hx];rfl
 | y::l=>by
  show cut (y::(l ++ [x]))=_;rw [cut,cut,F7 hx l];split
  ·rfl
  ·obtain ⟨a,t,e⟩:=Ev l;rw [e];rfl
theorem Lr {x:Int} (hx:Cp x=false):∀ (l:List Int) (q:Nat),(cut l).length=q+1->cut (l ++ [x])=(cut l).set q ((cut l)[q]! ++ [x])
 | [],q,h=>by
  obtain rfl:q=0:=by have:(1:Nat)=q+1:=h;omega
  show cut [x]=[[x]]
  rw [cut,if_neg (by rw [hx];decide)];rfl
 | y::l,q,h=>by
  show cut (y::(l ++ [x]))=_;rw [cut] at h ⊢;rw [cut];obtain ⟨a,t,e⟩:=Ev l;by_cases hy:Cp y=true
  ·rw [if_pos hy] at h;rw [if_pos hy,if_pos hy];obtain ⟨q',rfl⟩:∃ q',q=q'+1:=by
    cases q with
    | zero=>rw [e] at h;simp at h
    | succ q'=>exact ⟨q',rfl⟩
   rw [Lr hx l q' (by simpa using h)];rfl
  ·rw [if_neg hy] at h;rw [if_neg hy,if_neg hy];rw [e] at h;have ih:=Lr hx l q (by rw [e];simpa using h);rw [ih,e];cases q with
   | zero=>rfl
   | succ q'=>rfl
theorem get_at (A X:List UInt8) (j:Nat):(⟨(A ++ X).toArray⟩:ByteArray).get! (A.length+j)=X.getD j 0:=by
 show (A ++ X).toArray[A.length+j]! = _;by_cases h:j<X.length
 ·rw [getElem!_pos _ _ (by simp;omega)];simp [List.getElem_append_right,List.getD,h]
 ·rw [getElem!_neg _ _ (by simp;omega)];simp [List.getD,h];rfl
theorem Ad2 (A B:List UInt8) (r:Nat) (h:right r=true):Utf8.decode ⟨(A ++ (enc r ++ B)).toArray⟩ A.length=(r,(enc r).length):=by
 rw [D7] at h;have g0:=get_at A (enc r ++ B) 0;rw [Nat.add_zero] at g0;rw [Lib.decode_at,g0,get_at,get_at,get_at];have hs:(⟨(A ++ (enc r ++ B)).toArray⟩:ByteArray).size - A.length=(enc r).length+B.length:=by
  show (A ++ (enc r ++ B)).toArray.size - A.length=_;simp
 rw [hs];unfold enc;by_cases h1:r<128
 ·rw [if_pos h1];simp only [jah,List.nil_append,List.getD_cons_zero,Au (show r<256 by omega),jac,List.length_nil];unfold Lib.decodeN;rw [if_pos h1]
 rw [if_neg h1];by_cases h2:r<2048
 ·rw [if_pos h2];simp only [jah,List.nil_append,List.getD_cons_zero,List.getD_cons_succ,Au (show 192+r / 64<256 by omega),Au (show 128+r % 64<256 by omega),jac,List.length_nil];unfold Lib.decodeN;rw [if_neg jO,if_pos jO,if_pos jO];congr 1;omega
 rw [if_neg h2];by_cases h3:r<65536
 ·rw [if_pos h3];simp only [jah,List.nil_append,List.getD_cons_zero,List.getD_cons_succ,Au (show 224+r / 4096<256 by omega),Au (show 128+r / 64 % 64<256 by omega),Au (show 128+r % 64<256 by omega),jac,List.length_nil];unfold Lib.decodeN;rw [if_neg jO,if_neg jO,if_pos jO,if_pos jO];congr 1;omega
 rw [if_neg h3];simp only [jah,List.nil_append,List.getD_cons_zero,List.getD_cons_succ,Au (show 240+r / 262144<256 by omega),Au (show 128+r / 4096 % 64<256 by omega),Au (show 128+r / 64 % 64<256 by omega),Au (show 128+r % 64<256 by omega),jac,List.length_nil];unfold Lib.decodeN;rw [if_neg jO,if_neg jO,if_neg jO,if_pos jO,if_pos jO];congr 1;omega
theorem Mc (a b:List Int):Ae (a ++ b)=Ae a ++ Ae b:=by unfold Ae;exact List.flatMap_append
theorem Yp {L:List Int} (h:Ad L=true) {k:Nat} (hk:k<L.length):0<=L[k]!/\right (L[k]!).toNat=true:=by
 unfold Ad at h;rw [jar] at h;have h2:=h _ (List.getElem_mem hk);rw [getElem!_pos L k hk];unfold Ak at h2;rw [jag,decide_eq_true_eq] at h2;exact h2
theorem Wd {L:List Int} {k:Nat} (hk:k<L.length):L=L.take k ++ L[k]!::L.drop (k+1):=by
 rw [getElem!_pos L k hk];exact (List.take_append_drop k L).symm.trans (by rw [List.drop_eq_getElem_cons hk])
def at_ (L:List Int) (k:Nat):Nat:=(Ae (L.take k)).length
theorem Agf {L:List Int} {k:Nat} (hk:k<L.length):at_ L (k+1)=at_ L k+(enc (L[k]!).toNat).length:=by
 unfold at_
 rw [show L.take (k+1)=L.take k ++ [L[k]!] by rw [List.take_add_one,List.getElem?_eq_getElem hk,getElem!_pos L k hk];rfl,Jw,jab]
theorem Aph (L:List Int):at_ L L.length=(Ae L).length:=by unfold at_;rw [List.take_length]
theorem Kl (r:Nat):1<=(enc r).length:=by unfold enc;split<;>(try split)<;>(try split)<;>simp
theorem Anq (r:Nat):(enc r).length<=4:=by unfold enc;split<;>(try split)<;>(try split)<;>simp
theorem Aq8 {L:List Int} {k:Nat} (hk:k<L.length):at_ L k+(enc (L[k]!).toNat).length<=(Ae L).length:=by
 have e:=congrArg Ae (Wd hk);rw [Mc,show L[k]!::L.drop (k+1)=[L[k]!] ++ L.drop (k+1) from rfl,Mc,show Ae [L[k]!]=enc (L[k]!).toNat by simp [Ae]] at e;have:=congrArg List.length e;rw [jab,jab] at this;unfold at_
 omega
theorem Aoe {L:List Int} (h:Ad L=true) {k:Nat} (hk:k<L.length):Utf8.decode ⟨(Ae L).toArray⟩ (at_ L k)=((L[k]!).toNat,(enc (L[k]!).toNat).length):=by
 have e:=congrArg Ae (Wd hk);rw [Mc,show L[k]!::L.drop (k+1)=[L[k]!] ++ L.drop (k+1) from rfl,Mc,show Ae [L[k]!]=enc (L[k]!).toNat by simp [Ae]] at e;rw [e];exact Ad2 _ _ _ (Yp h hk).2
theorem Aa6 {d:Int} (hd:Cp d=true):∀ p R:List Int,cut (p ++ d::R)=cut p ++ cut R
 | [],R=>by
  show cut (d::R)=[[]] ++ cut R;rw [cut,if_pos hd];rfl
 | y::p,R=>by
  show cut (y::(p ++ d::R))=_;rw [cut,cut,Aa6 hd p R];split
  ·rfl
  ·obtain ⟨a,t,e⟩:=Ev p;rw [e];rfl
def Hq (L:List Int) (k q b:Nat):Prop:=(cut (L.take k)).length=q+1/\∃ A,Ae (L.take k)=A ++ Ae (cut (L.take k))[q]!/\A.length=b
def gone (L:List Int) (k q:Nat):List (List UInt8):=((cut (L.take k)).take q).map Ae
theorem Apl (L:List Int):Hq L 0 0 0:=⟨rfl,[],rfl,rfl⟩
theorem Abo {L:List Int} {k q b:Nat} (h:Hq L k q b):(gone L k q).length=q:=by unfold gone;rw [jai,jak,h.1];omega
theorem Anl {L:List Int} {k q b:Nat} (h:Hq L k q b):b<=at_ L k:=by obtain ⟨-,A,e,rfl⟩:=h;unfold at_;rw [e,jab];omega
theorem Aa5:∀ l:List Int,(cut l).length<=l.length+1
 | []=>jaa _
 | x::l=>by
  have ih:=Aa5 l;rw [cut];obtain ⟨a,t,e⟩:=Ev l;rw [e] at ih ⊢;split
  · simp at ih ⊢;omega
  · simp at ih ⊢;omega
theorem Akp {L:List Int} {k q b:Nat} (h:Hq L k q b):q<=k:=by have:=Aa5 (L.take k);rw [h.1,jak] at this;omega
theorem take_one {L:List Int} {k:Nat} (hk:k<L.length):L.take (k+1)=L.take k ++ [L[k]!]:=by rw [List.take_add_one,List.getElem?_eq_getElem hk,getElem!_pos L k hk];rfl
theorem Anm {L:List Int} {k q b:Nat} (h:Hq L k q b) (hk:k<L.length) (hd:Cp L[k]! = false):Hq L (k+1) q b/\gone L (k+1) q=gone L k q:=by
 obtain ⟨hq,A,e,rfl⟩:=h;have hc:=Lr hd (L.take k) q hq;have hql:q<(cut (L.take k)).length:=jO
 refine ⟨⟨?_,A,?_,rfl⟩,?_⟩
 ·rw [take_one hk,hc,List.length_set];exact hq
 ·rw [take_one hk,hc,getElem!_pos _ q (by rw [List.length_set];exact hql),List.getElem_set_self,Jw,e,Jw,jaq]
 ·unfold gone;rw [take_one hk,hc,List.take_set_of_le (jaa q)]
theorem Aa2 {L:List Int} {k q b:Nat} (h:Hq L k q b) (hk:k<L.length) (hd:Cp L[k]! = true):Hq L (k+1) (q+1) (at_ L k+(enc (L[k]!).toNat).length)/\gone L (k+1) (q+1)=gone L k q ++ [Ae (cut (L.take k))[q]!]:=by
 obtain ⟨hq,A,e,rfl⟩:=h;have hc:=F7 hd (L.take k);have hql:q<(cut (L.take k)).length:=jO
 refine ⟨⟨?_,Ae (L.take (k+1)),?_,Agf hk⟩,?_⟩
 ·rw [take_one hk,hc,jab,hq];rfl
 ·rw [take_one hk,hc,getElem!_pos _ (q+1) (by rw [jab,hq];simp),List.getElem_append_right jO];simp [hq,Ae]
 ·unfold gone;rw [take_one hk,hc,List.take_append_of_le_length jO,show q+1=q+1 from rfl,List.take_add_one,List.getElem?_eq_getElem hql,getElem!_pos _ q hql,List.map_append];rfl
theorem Ale {L:List Int} {k q b:Nat} (h:Hq L k q b) (hk:k<L.length) (hd:Cp L[k]! = true):gone L k q ++ [Ae (cut (L.take k))[q]!] <+: (cut L).map Ae:=by
 rw [<- (Aa2 h hk hd).2];refine ⟨(cut (L.drop (k+1))).map Ae,?_⟩;have e:cut L=cut (L.take k) ++ cut (L.drop (k+1)):=by
  have:=Aa6 hd (L.take k) (L.drop (k+1));rw [<- Wd hk] at this;exact this
 unfold gone;rw [e,List.map_append,take_one hk,F7 hd,List.take_append_of_le_length (by rw [h.1];omega),List.take_of_length_le (by rw [h.1];omega)]
theorem Alf {L:List Int} {q b:Nat} (h:Hq L L.length q b):gone L L.length q ++ [Ae (cut L)[q]!]=(cut L).map Ae:=by
 obtain ⟨hq,-⟩:=h;unfold gone;rw [List.take_length] at hq ⊢;have hql:q<(cut L).length:=jO
 have:cut L=(cut L).take q ++ [(cut L)[q]!]:=by
  rw [getElem!_pos _ q hql];have:=List.take_add_one (l:=cut L) (i:=q);rw [List.take_of_length_le jO,List.getElem?_eq_getElem hql] at this;exact this
 exact (by rw [List.map_append];rfl:((cut L).take q).map Ae ++ [Ae (cut L)[q]!]=((cut L).take q ++ [(cut L)[q]!]).map Ae).trans (congrArg _ this.symm)
theorem Agz {L:List Int} {k q b:Nat} (h:Hq L k q b):(⟨(Ae L).toArray⟩:ByteArray).extract b (at_ L k)=⟨(Ae (cut (L.take k))[q]!).toArray⟩:=by
 obtain ⟨hq,A,e,rfl⟩:=h;have e2:Ae L=Ae (L.take k) ++ Ae (L.drop k):=by rw [<- Mc,List.take_append_drop]
 have ha:at_ L k=A.length+(Ae (cut (L.take k))[q]!).length:=by unfold at_;rw [e,jab]
 apply ByteArray.ext;rw [ByteArray.data_extract,e2,e,ha];simp
end Dom
end
section
open Go.RowKit Utf
namespace Lab
theorem Ph:C9 46=false/\C9 12290=false/\Ctx.Cj 46=false/\Ctx.Cj 12290=false:=by decide +kernel
theorem Af4 {l:List Int} (h:Dg l=0):∀ x ∈ l,Dom.Cp x=false:=by
 have hb:Fw l=false:=by
  unfold Dg at h;split at h
  ·omega
  ·split at h
   ·omega
   ·split at h
    ·omega
    ·split at h
     ·omega
     ·rename_i h4
      simpa using h4
 intro x hx;obtain ⟨k,hk,rfl⟩:=List.getElem_of_mem hx;unfold Fw at hb;rw [List.any_eq_false] at hb;have h1:=hb k (List.mem_range.2 hk);rw [Bool.or_eq_true,not_or,getElem!_pos l k hk] at h1;cases hd:Dom.Cp l[k] with
 | false=>rfl
 | true =>
  exfalso;have hc:C9 l[k]=false/\Ctx.Cj l[k]=false:=by
   unfold Dom.Cp at hd;simp only [Bool.or_eq_true,beq_iff_eq] at hd;rcases hd with e | e<;>rw [e]
   ·exact ⟨Ph.1,Ph.2.2.1⟩
   ·exact ⟨Ph.2.1,Ph.2.2.2⟩
  refine h1.2 ?_;rw [Ctx.G9 hk,getElem!_pos l k hk,hc.1,hc.2];rfl
theorem Aea {l:List Int} (h:Ad l=true) (hd:∀ x ∈ l,Dom.Cp x=false):∀ c ∈ Puny.Bb l,c.toNat ≠ 46:=by
 have hp:∀ x ∈ l,0<=x:=λx hx=>by
  have:=jar.1 (show l.all Ak=true from h) x hx;have:=(An x).1 this;omega
 intro c hc;unfold Puny.Bb at hc;rcases jap.1 hc with hc | hc
 ·rcases jap.1 hc with hc | hc
  ·unfold Puny.Bd at hc;obtain ⟨x,hx,rfl⟩:=List.mem_map.1 hc;have hm:x ∈ l/\x<128:=by
    unfold Puny.lt at hx;have:=List.mem_filter.1 hx;exact ⟨this.1,by simpa using this.2⟩
   show (u x.toNat).toNat ≠ 46;rw [Au (by have:=hp x hm.1;omega)];intro e;have hx46:x=46:=by have:=hp x hm.1;omega
   have:=hd x hm.1;rw [hx46] at this;exact absurd this jD
  ·unfold Puny.Hh at hc;split at hc
   ·cases hc
   ·rw [List.mem_singleton.1 hc];decide
 ·unfold Puny.Cg at hc;obtain ⟨x,hx,rfl⟩:=List.mem_map.1 hc;obtain ⟨h0,h1⟩:=Puny.Kk _ _ _ _ (Puny.Gn (Em h)) x hx;have:∀ i:Nat,i<36->(Puny.Ia (i:Int)).toNat ≠ 46:=by decide +kernel
  have:=this x.toNat jO;rwa [show ((x.toNat:Nat):Int)=x by omega] at this
theorem clean {L:List Int} (hr:Ad L=true) (hf:Fold.fold L=L) {a u:List UInt8} (h:Eh L=(0,a,u)) :
  ∃
   U:List Int,u=Ae U/\Ad U=true/\Fold.fold U=U/\Eh U=(0,a,u)/\(∀ c ∈ a,c.toNat<128)/\Fold.fold (chars a)=chars a/\Eh (chars a)=(0,a,u)/\0<a.length/\a.length<=63 /\
   U.length<=a.length/\(∀ x ∈ U,Dom.Cp x=false)/\(∀ x ∈ chars a,Dom.Cp x=false):=by
 obtain ⟨U,hu,rU,fU,-,bU,aA,fA,bA,l0,l1⟩:=back hr hf h;have hA:(∀ c ∈ a,c.toNat ≠ 46)->∀ x ∈ chars a,Dom.Cp x=false:=λhn x hx=>by
  obtain ⟨c,hc,rfl⟩:=List.mem_map.1 hx;have h1:=hn c hc;have h2:=aA c hc;unfold Dom.Cp;rw [beq_eq_false_iff_ne.2 (show ((c.toNat:Nat):Int) ≠ 46 by omega),beq_eq_false_iff_ne.2 (show ((c.toNat:Nat):Int) ≠ 12290 by omega)];rfl
 have hb:=bU;unfold Eh at hb;by_cases h1:Bp (Ae U)=false
 ·rw [if_pos h1] at hb;by_cases h2:Dg U=0
  ·rw [if_pos h2] at hb;injection hb with e1 e2
   injection e2 with e2 e3
   have hge:=Ux rU;have hnd:=Af4 h2;refine ⟨U,hu,rU,fU,bU,aA,fA,bA,l0,l1,by rw [<- e2,jab];omega,hnd,hA λc hc=>?_⟩;rw [<- e2] at hc;rcases jap.1 hc with hc | hc
   ·exact (by decide:∀ c ∈ sign,c.toNat ≠ 46) c hc
   ·exact Aea rU hnd c hc
  ·rw [if_neg h2] at hb;injection hb with e1 e2
   exact absurd e1 h2
 ·rw [if_neg h1] at hb;have haU:∀ c ∈ Ae U,c.toNat<128:=D5.1 (by simpa using h1);have hch:chars (Ae U)=U:=Ga (Da haU) rU (Du _ haU);by_cases h3:(Ae U).take 4=sign
  ·exfalso;rw [if_pos h3] at hb;cases hd:Puny.Dt ((Ae U).drop 4) with
   | none=>rw [hd] at hb;simp only at hb;injection hb with e1 e2;exact absurd e1 jD
   | some l =>
    rw [hd] at hb;simp only at hb;split at hb
    ·injection hb with e1 e2;exact absurd e1 jD
    ·split at hb
     ·rename_i h5;injection hb with e1 e2;exact h5 e1
     ·rename_i h5
      split at hb
      ·injection hb with e1 e2;exact absurd e1 jD
      ·injection hb with e1 e2
       injection e2 with e2 e3
       rw [Decidable.not_not] at h5;have R:=Hm h5;have:=R.wide;rw [e3,hu] at this;exact h1 this
  ·rw [if_neg h3] at hb;by_cases h4:Cx (Ae U)=0
   ·rw [if_pos h4] at hb;injection hb with e1 e2
    injection e2 with e2 e3
    have hp:=(Ai2 (Ae U)).1 h4;have hn:∀ c ∈ Ae U,c.toNat ≠ 46:=λc hc=>by
     obtain ⟨k,hk,rfl⟩:=List.getElem_of_mem hc;have:=hp.2.2 k hk;unfold Rn at this;rw [Ih hk] at this;intro e;rw [e] at this
     revert this
     have:Bidi.Bx ((46:Nat):Int)=false:=by decide
     rw [this];simp
    refine ⟨U,hu,rU,fU,bU,aA,fA,bA,l0,l1,?_,?_,hA (by rw [<- e2];exact hn)⟩
    ·rw [<- e2];have:=congrArg List.length hch;unfold chars at this;rw [jai] at this;omega
    ·have:=hA (by rw [<- e2];exact hn);rw [<- e2,hch] at this;exact this
   ·rw [if_neg h4] at hb;injection hb with e1 e2
    exact absurd e1 h4
end Lab
namespace Dom
def Bl:List (List UInt8)->List UInt8
 | []=>[]
 | [x]=>x
 | x::y::t=>x ++ 46::Bl (y::t)
theorem Agn (x y:List Int):Ae (x ++ 46::y)=Ae x ++ 46::Ae y:=by
 unfold Ae;rw [List.flatMap_append,jao,show enc (46:Int).toNat=[46] by decide];rfl
theorem Uw:∀ ps:List (List Int),Ae (F9 ps)=Bl (ps.map Ae)
 | []=>rfl
 | [x]=>rfl
 | x::y::t=>by
  show Ae (x ++ 46::F9 (y::t))=Ae x ++ 46::Bl ((y::t).map Ae);rw [Agn,Uw (y::t)]
theorem Qs:∀ {x y:List (List UInt8)},x ≠ []->y ≠ []->Bl (x ++ y)=Bl x ++ 46::Bl y
 | [],_,h,_=>absurd rfl h
 | [a],[],_,h=>absurd rfl h
 | [a],b::y,_,_=>rfl
 | a::b::x,y,_,hy=>by
  show a ++ 46::Bl (b::x ++ y)=(a ++ 46::Bl (b::x)) ++ 46::Bl y;rw [Qs jS hy,jaq];rfl
def Bi (bs:List UInt8):Int × List (List Int) :=
 if (A9 bs).2=-1 then
  (if Fold.fold (ints (A9 bs).1)=[] then (13,[]) else if 32<(cut (Fold.fold (ints (A9 bs).1))).length then (2,[]) else (0,cut (Fold.fold (ints (A9 bs).1))))
 else (7,[])
def Dc (p:List Int):Int:=(Lab.Bj (Ae p)).1
def Ar (p:List Int):List UInt8:=(Lab.Bj (Ae p)).2.1
def Cc (p:List Int):List UInt8:=(Lab.Bj (Ae p)).2.2
def E7 (ps:List (List Int)):Int × List UInt8 × List UInt8 :=
 match ps.find? (λp=>Dc p != 0) with
 | some p=>(Dc p,[],[])
 | none=>if 253<(Bl (ps.map Ar)).length then (5,[],[]) else (0,Bl (ps.map Ar),Bl (ps.map Cc))
def As (bs:List UInt8):Int × List UInt8 × List UInt8:=if (Bi bs).1=0 then E7 (Bi bs).2 else ((Bi bs).1,[],[])
def Jb (bs:List UInt8):List UInt8:=if (As bs).1=0/\Lab.Bp bs=true then bs else (As bs).2.1
theorem Z5 {bs a u:List UInt8} {E:Int} (h:As bs=(E,a,u)) (hE:E ≠ 0):a=[]/\u=[]:=by
 unfold As at h;split at h
 ·unfold E7 at h;split at h
  ·injection h with e1 e2;injection e2 with e2 e3;exact ⟨e2.symm,e3.symm⟩
  ·split at h
   · injection h with e1 e2;injection e2 with e2 e3;exact ⟨e2.symm,e3.symm⟩
   · injection h with e1 e2;exact absurd e1.symm hE
 ·injection h with e1 e2;injection e2 with e2 e3;exact ⟨e2.symm,e3.symm⟩
theorem Iz {l:List Int} (h:Ad l=true):Bi (Ae l)=if Fold.fold l=[] then (13,[]) else if 32<(cut (Fold.fold l)).length then (2,[]) else (0,cut (Fold.fold l)):=by
 unfold Bi;rw [D4 h,if_pos rfl,(Ce h).1]
theorem Q1:∀ {l:List Int},Ad l=true->∀ p ∈ cut l,Ad p=true
 | [],_,p,hp=>by rw [List.mem_singleton.1 hp];rfl
 | x::l,h,p,hp=>by
  have h2:Ak x=true/\Ad l=true:=by unfold Ad at h ⊢;simpa using h
  have ih:=Q1 h2.2;rw [cut] at hp;obtain ⟨a,t,e⟩:=Ev l;rw [e] at ih hp;split at hp
  ·rcases jal.1 hp with rfl | hp
   ·rfl
   ·exact ih p hp
  ·rcases jal.1 hp with rfl | hp
   ·have:=ih a jS;unfold Ad at this ⊢;rw [List.all_cons,h2.1,this];rfl
   ·exact ih p (by simp [hp])
theorem Zn:∀ l:List Int,∀ p ∈ cut l,p.length<=l.length
 | [],p,hp=>by rw [List.mem_singleton.1 hp];exact jaa _
 | x::l,p,hp=>by
  have ih:=Zn l;rw [cut] at hp;obtain ⟨a,t,e⟩:=Ev l;rw [e] at ih hp;split at hp
  ·rcases jal.1 hp with rfl | hp
   · simp
   · have:=ih p hp;simp only [jac];omega
  ·rcases jal.1 hp with rfl | hp
   · have:=ih a jS;simp only [jac];omega
   · have:=ih p (by simp [hp]);simp only [jac];omega
theorem Mx {bs a u:List UInt8} (h:As bs=(0,a,u)):∃ l:List Int,Ad l=true/\bs=Ae l/\Fold.fold l ≠ []/\(cut (Fold.fold l)).length<=32/\(∀ p ∈ cut (Fold.fold l),Dc p=0)/\a=Bl ((cut (Fold.fold l)).map Ar)/\u=Bl ((cut (Fold.fold l)).map Cc)/\a.length<=253:=by
 unfold As at h;by_cases hl:(Bi bs).1=0
 ·rw [if_pos hl] at h;unfold Bi at hl h;by_cases hz:(A9 bs).2=-1
  ·obtain ⟨h1,h2⟩:=Lab.Jf hz;rw [if_pos hz] at hl h;generalize ints (A9 bs).1=l at hl h h1 h2;by_cases h3:Fold.fold l=[]
   ·rw [if_pos h3] at hl;exact absurd hl jD
   ·rw [if_neg h3] at hl h;by_cases h4:32<(cut (Fold.fold l)).length
    ·rw [if_pos h4] at hl;exact absurd hl jD
    ·rw [if_neg h4] at h;unfold E7 at h;simp only at h;cases hf:(cut (Fold.fold l)).find? (λp=>Dc p != 0) with
     | some p =>
      rw [hf] at h;simp only at h;injection h with e1 e2
      have:=List.find?_some hf;rw [e1] at this;exact absurd this jD
     | none =>
      rw [hf] at h;simp only at h;by_cases h5:253<(Bl ((cut (Fold.fold l)).map Ar)).length
      ·rw [if_pos h5] at h;injection h with e1 e2;exact absurd e1 jD
      ·rw [if_neg h5] at h;injection h with e1 e2
       injection e2 with e2 e3
       refine ⟨l,h1,h2,h3,by omega,λp hp=>?_,e2.symm,e3.symm,by rw [<- e2];omega⟩;have:=List.find?_eq_none.1 hf p hp;simpa using this
  ·rw [if_neg hz] at hl;exact absurd hl jD
 ·rw [if_neg hl] at h;injection h with e1 e2
  exact absurd e1 hl
theorem Zi {l:List Int} (hr:Ad l=true) (h0:Fold.fold l ≠ []) (h1:(cut (Fold.fold l)).length<=32) (h2:∀ p ∈ cut (Fold.fold l),Dc p=0) :
  As (Ae l)=if 253<(Bl ((cut (Fold.fold l)).map Ar)).length then (5,[],[]) else (0,Bl ((cut (Fold.fold l)).map Ar),Bl ((cut (Fold.fold l)).map Cc)):=by
 have hf:(cut (Fold.fold l)).find? (λp=>Dc p != 0)=none:=by
  rw [List.find?_eq_none];intro p hp;rw [h2 p hp];decide
 unfold As E7;rw [Iz hr,if_neg h0,if_neg (show ¬ 32<(cut (Fold.fold l)).length by omega)];simp only;rw [if_pos trivial,hf]
def Hp (p:List Int):List Int:=ints (A9 (Cc p)).1
theorem Aby {p:List Int} (hr:Ad p=true) (h:Dc p=0):Cc p=Ae (Hp p)/\Ad (Hp p)=true/\Fold.fold (Hp p)=Hp p/\(Hp p).length<=(Ar p).length/\(∀ x ∈ Hp p,Cp x=false)/\Dc (Hp p)=0/\Ar (Hp p)=Ar p/\Cc (Hp p)=Cc p /\
  0<(Ar p).length/\(∀ c ∈ Ar p,c.toNat<128)/\Fold.fold (Lab.chars (Ar p))=Lab.chars (Ar p)/\(∀ x ∈ Lab.chars (Ar p),Cp x=false)/\Dc (Lab.chars (Ar p))=0/\Ar (Lab.chars (Ar p))=Ar p/\Cc (Lab.chars (Ar p))=Cc p:=by
 have hb:Lab.Eh (Fold.fold p)=(0,Ar p,Cc p):=by
  rw [<- Lab.Ds hr,<- h];rfl
 obtain ⟨U,hu,rU,fU,bU,aA,fA,bA,l0,-,hlen,hd,hda⟩:=Lab.clean (Dj hr) (Fold.F2 p) hb;have e:Hp p=U:=by
  unfold Hp;rw [hu,D4 rU];exact (Ce rU).1
 rw [e];have h1:Lab.Bj (Ae U)=(0,Ar p,Cc p):=by rw [Lab.Ds rU,fU];exact bU
 have h2:Lab.Bj (Ae (Lab.chars (Ar p)))=(0,Ar p,Cc p):=by rw [Lab.Ds (Lab.Da aA),fA];exact bA
 exact ⟨hu,rU,fU,hlen,hd,by unfold Dc;rw [h1],by show (Lab.Bj (Ae U)).2.1=_;rw [h1],by show (Lab.Bj (Ae U)).2.2=_;rw [h1],l0,aA,fA,hda,by unfold Dc;rw [h2],by show (Lab.Bj (Ae (Lab.chars (Ar p)))).2.1=_;rw [h2],by show (Lab.Bj (Ae (Lab.chars (Ar p)))).2.2=_;rw [h2]⟩
theorem Anp:∀ {ps:List (List Int)},ps ≠ []->(∀ p ∈ ps,p ≠ [])->F9 ps ≠ []
 | [],h,_=>absurd rfl h
 | [x],_,h=>h x jS
 | x::y::t,_,_=>by
  show x ++ 46::F9 (y::t) ≠ [];simp
theorem Abg:∀ (ps:List (List Int)) (f:List Int->List UInt8),(∀ p ∈ ps,p.length<=(f p).length)->(F9 ps).length<=(Bl (ps.map f)).length
 | [],_,_=>jaa _
 | [x],f,h=>h x jS
 | x::y::t,f,h=>by
  have h1:=h x jS;have h2:=Abg (y::t) f (λp hp=>h p (by simp only [jal] at hp ⊢;exact .inr hp));show (x ++ 46::F9 (y::t)).length<=(f x ++ 46::Bl ((y::t).map f)).length;rw [jab,jab,jac,jac];omega
theorem again {ps qs:List (List Int)} (f:List Int->List Int) (hq:qs=ps.map f) (hne:ps ≠ []) (hn:ps.length<=32) (hl:(Bl (ps.map Ar)).length<=253)
  (h:∀ p ∈ ps,Ad (f p)=true/\Fold.fold (f p)=f p/\(∀ x ∈ f p,Cp x=false)/\f p ≠ []/\Dc (f p)=0/\Ar (f p)=Ar p/\Cc (f p)=Cc p) :
  Ad (F9 qs)=true/\Fold.fold (F9 qs)=F9 qs/\As (Ae (F9 qs))=(0,Bl (ps.map Ar),Bl (ps.map Cc)):=by
 subst hq;have hq1:∀ q ∈ ps.map f,∃ p ∈ ps,f p=q:=λq hq=>List.mem_map.1 hq;have r:Ad (F9 (ps.map f))=true:=V0 λq hq=>by obtain ⟨p,hp,rfl⟩:=hq1 q hq;exact (h p hp).1
 have ff:Fold.fold (F9 (ps.map f))=F9 (ps.map f):=Xz λq hq=>by obtain ⟨p,hp,rfl⟩:=hq1 q hq;exact (h p hp).2.1
 have hne':ps.map f ≠ []:=by simpa using hne
 have hc:cut (Fold.fold (F9 (ps.map f)))=ps.map f:=by
  rw [ff];exact Aa4 hne' λq hq=>by obtain ⟨p,hp,rfl⟩:=hq1 q hq;exact (h p hp).2.2.1
 have ha:(ps.map f).map Ar=ps.map Ar:=by rw [List.map_map];exact List.map_congr_left λp hp=>(h p hp).2.2.2.2.2.1
 have hu:(ps.map f).map Cc=ps.map Cc:=by rw [List.map_map];exact List.map_congr_left λp hp=>(h p hp).2.2.2.2.2.2
 refine ⟨r,ff,?_⟩;rw [Zi r (by rw [ff];exact Anp hne' λq hq=>by obtain ⟨p,hp,rfl⟩:=hq1 q hq;exact (h p hp).2.2.2.1) (by rw [hc,jai];exact hn) (by rw [hc];intro q hq;obtain ⟨p,hp,rfl⟩:=hq1 q hq;exact (h p hp).2.2.2.2.1),hc,ha,hu,if_neg jO]
theorem back {bs a u:List UInt8} (h:As bs=(0,a,u)):∃ U A:List Int,u=Ae U/\Ad U=true/\Fold.fold U=U/\U.length<=253/\As u=(0,a,u)/\a=Ae A/\Ad A=true/\Fold.fold A=A/\A.length<=253/\As a=(0,a,u)/\Ba a=-1/\a.length<=253:=by
 obtain ⟨l,hr,rfl,h0,h1,h2,rfl,rfl,hlen⟩:=Mx h;obtain ⟨ps,hps⟩:∃ ps,cut (Fold.fold l)=ps:=⟨_,rfl⟩
 have hne:ps ≠ []:=by obtain ⟨a,t,e⟩:=Ev (Fold.fold l);rw [<- hps,e];simp
 have hrp:∀ p ∈ ps,Ad p=true:=by rw [<- hps];exact Q1 (Dj hr)
 rw [hps] at h1 h2 hlen ⊢;have lc:=λp hp=>Aby (hrp p hp) (h2 p hp);obtain ⟨r1,f1,b1⟩:=again Hp (qs:=ps.map Hp) rfl hne h1 hlen λp hp=>by
  obtain ⟨c1,c2,c3,c4,c5,c6,c7,c8,c9,-⟩:=lc p hp;refine ⟨c2,c3,c5,λe=>?_,c6,c7,c8⟩;rw [e] at c6;exact absurd c6 (by decide +kernel)
 obtain ⟨r2,f2,b2⟩:=again (λp=>Lab.chars (Ar p)) (qs:=ps.map λp=>Lab.chars (Ar p)) rfl hne h1 hlen λp hp=>by
  obtain ⟨-,-,-,-,-,-,-,-,c9,c10,c11,c12,c13,c14,c15⟩:=lc p hp;refine ⟨Lab.Da c10,c11,c12,λe=>?_,c13,c14,c15⟩;have:=congrArg List.length e;unfold Lab.chars at this;rw [jai] at this;simp only [List.length_nil] at this;omega
 have eu:Ae (F9 (ps.map Hp))=Bl (ps.map Cc):=by
  rw [Uw,List.map_map];congr 1;exact List.map_congr_left λp hp=>(lc p hp).1.symm
 have ea:Ae (F9 (ps.map λp=>Lab.chars (Ar p)))=Bl (ps.map Ar):=by
  rw [Uw,List.map_map];congr 1;exact List.map_congr_left λp hp=>Du _ (lc p hp).2.2.2.2.2.2.2.2.2.1
 have hA:∀ c ∈ Bl (ps.map Ar),c.toNat<128:=by
  have:∀ qs:List (List Int),(∀ p ∈ qs,∀ c ∈ Ar p,c.toNat<128)->∀ c ∈ Bl (qs.map Ar),c.toNat<128:=by
   intro qs;induction qs with
   | nil=>intro _ c hc;cases hc
   | cons x t ih =>
    intro h c hc;cases t with
    | nil=>exact h x jS c hc
    | cons y t =>
     have hc':c ∈ Ar x ++ 46::Bl ((y::t).map Ar):=hc;rcases jap.1 hc' with hc | hc
     ·exact h x jS c hc
     ·rcases jal.1 hc with rfl | hc
      ·decide
      ·exact ih (λp hp=>h p (by simp only [jal] at hp ⊢;exact .inr hp)) c hc
  exact this ps λp hp=>(lc p hp).2.2.2.2.2.2.2.2.2.1
 refine ⟨F9 (ps.map Hp),F9 (ps.map λp=>Lab.chars (Ar p)),eu.symm,r1,f1,?_,by rw [<- eu] at b1 ⊢;exact b1,ea.symm,r2,f2,?_,by rw [<- ea] at b2 ⊢;exact b2,?_,hlen⟩
 ·have:=Abg (ps.map Hp) Ar (λq hq=>by
   obtain ⟨p,hp,rfl⟩:=List.mem_map.1 hq;obtain ⟨-,-,-,c4,-,-,c7,-⟩:=lc p hp;rw [c7];exact c4)
  rw [List.map_map,show ps.map (Ar ∘ Hp)=ps.map Ar from List.map_congr_left λp hp=>(lc p hp).2.2.2.2.2.2.1] at this;omega
 ·have:=congrArg List.length ea;have h3:(F9 (ps.map λp=>Lab.chars (Ar p))).length<=(Ae (F9 (ps.map λp=>Lab.chars (Ar p)))).length:=by
   have:∀ x:List Int,x.length<=(Ae x).length:=by
    intro x;induction x with
    | nil=>exact jaa _
    | cons y x ih =>
     have:0<(enc y.toNat).length:=by
      unfold enc;split
      ·simp
      ·split
       · simp
       · split<;>simp
     unfold Ae at ih ⊢;rw [jao,jab,jac];omega
   exact this _
  omega
 ·rcases Lab.D9 (Bl (ps.map Ar)) with ⟨-,h⟩ | ⟨h,-⟩
  ·exact h
  ·rw [Lab.D5.2 hA] at h;cases h
theorem parts {s b x u y v:List UInt8} (hs:As s=(0,x,u)) (hb:As b=(0,y,v)) :
  ∃
   L M:List (List Int),Bi s=(0,L)/\Bi b=(0,M)/\(As (s ++ 46::b)).1=(if 32<L.length+M.length then 2 else if 252<x.length+y.length then 5 else 0) /\
   (¬ 32<L.length+M.length->¬ 252<x.length+y.length->(As (s ++ 46::b)).2.1=x ++ 46::y):=by
 obtain ⟨l,hr,rfl,h0,h1,h2,rfl,rfl,hlen⟩:=Mx hs;obtain ⟨m,kr,rfl,k0,k1,k2,rfl,rfl,klen⟩:=Mx hb;obtain ⟨a1,t1,e1⟩:=Ev (Fold.fold l);obtain ⟨a2,t2,e2⟩:=Ev (Fold.fold m);have n1:cut (Fold.fold l) ≠ []:=by rw [e1];simp
 have n2:cut (Fold.fold m) ≠ []:=by rw [e2];simp
 have r:Ad (l ++ 46::m)=true:=by
  unfold Ad at hr kr ⊢;rw [List.all_append,hr,List.all_cons,kr];decide
 have hc:cut (Fold.fold (l ++ 46::m))=cut (Fold.fold l) ++ cut (Fold.fold m):=by rw [U3,Zm]
 have hne:Fold.fold (l ++ 46::m) ≠ []:=by rw [U3];simp
 have hA:Bl ((cut (Fold.fold (l ++ 46::m))).map Ar)=Bl ((cut (Fold.fold l)).map Ar) ++ 46::Bl ((cut (Fold.fold m)).map Ar):=by
  rw [hc,List.map_append,Qs (by simpa using n1) (by simpa using n2)]
 refine ⟨cut (Fold.fold l),cut (Fold.fold m),by rw [Iz hr,if_neg h0,if_neg jO],by rw [Iz kr,if_neg k0,if_neg jO],?_⟩;rw [<- Agn];by_cases h32:32<(cut (Fold.fold l)).length+(cut (Fold.fold m)).length
 ·rw [if_pos h32];refine ⟨?_,λh=>absurd h32 h⟩;unfold As;rw [Iz r,if_neg hne,if_pos (show 32<(cut (Fold.fold (l ++ 46::m))).length by rw [hc,jab];exact h32)];rfl
 ·rw [if_neg h32];have hb:=Zi r hne (by rw [hc,jab];omega) (by
   rw [hc];intro p hp;rcases jap.1 hp with hp | hp
   · exact h2 p hp
   · exact k2 p hp)
  rw [hA] at hb;rw [hb];by_cases h252:252<(Bl ((cut (Fold.fold l)).map Ar)).length+(Bl ((cut (Fold.fold m)).map Ar)).length
  ·rw [if_pos h252,if_pos (by rw [jab,jac];omega)];exact ⟨rfl,λ_ h=>absurd h252 h⟩
  ·rw [if_neg h252,if_neg (by rw [jab,jac];omega)];exact ⟨rfl,λ_ _=>rfl⟩
theorem one {s:List UInt8} {L:List (List Int)} (h:Bi s=(0,L)) (h1:L.length=1):As s=Lab.Bj s:=by
 unfold Bi at h;by_cases hz:(A9 s).2=-1
 ·obtain ⟨hr,he⟩:=Lab.Jf hz;rw [if_pos hz] at h;generalize ints (A9 s).1=l at h hr he;subst he;by_cases h3:Fold.fold l=[]
  ·rw [if_pos h3] at h;injection h with e1 e2;exact absurd e1 jD
  ·rw [if_neg h3] at h;by_cases h4:32<(cut (Fold.fold l)).length
   ·rw [if_pos h4] at h;injection h with e1 e2;exact absurd e1 jD
   ·rw [if_neg h4] at h;injection h with e1 e2
    subst e2;have hc:=Ann h1;have hb:Lab.Bj (Ae (Fold.fold l))=Lab.Bj (Ae l):=by rw [Lab.Ds (Dj hr),Lab.Ds hr,Fold.F2]
    obtain ⟨⟨E,A,V⟩,hE⟩:∃ z,Lab.Bj (Ae l)=z:=⟨_,rfl⟩
    have ha:Dc (Fold.fold l)=E/\Ar (Fold.fold l)=A/\Cc (Fold.fold l)=V:=by
     unfold Dc Ar Cc;rw [hb,hE];exact ⟨rfl,rfl,rfl⟩
    by_cases hE0:E=0
    ·subst hE0;rw [Zi hr h3 jO (by rw [hc];intro p hp;rw [List.mem_singleton.1 hp];exact ha.1),hc];show (if 253<(Ar (Fold.fold l)).length then _ else ((0:Int),Ar (Fold.fold l),Cc (Fold.fold l)))=_;have hlen:A.length<=63:=by
      have hL:Lab.Eh (Fold.fold l)=(0,A,V):=by rw [<- Lab.Ds hr];exact hE
      obtain ⟨U,-,-,-,-,-,-,-,-,hl,-⟩:=Lab.clean (Dj hr) (Fold.F2 l) hL;exact hl
     rw [ha.2.1,ha.2.2,if_neg jO,hE]
    ·obtain ⟨rfl,rfl⟩:=Lab.Z5 hE hE0;unfold As E7;rw [Iz hr,if_neg h3,if_neg h4];simp only;rw [if_pos trivial,hc];have hfn:([Fold.fold l].find? λp=>Dc p != 0)=some (Fold.fold l):=by
      rw [List.find?_cons_of_pos (by rw [ha.1];exact bne_iff_ne.2 hE0)]
     rw [hfn];simp only;rw [ha.1,hE]
 ·rw [if_neg hz] at h;injection h with e1 e2
  exact absurd e1 jD
end Dom
end
