import Derived.Test.YtpcgbgfpnhiihabGreatDoorLabFine
import Derived.Lib.DecodeN
namespace Go.Proofs.YtpcgbgfpnhiihabGreatDoor
section
open Go.RowKit Utf
namespace Wall
def Bv (x:Int):Bool:=(decide (0<=x) && decide (x<=47)) || (decide (58<=x) && decide (x<=64)) || (decide (91<=x) && decide (x<=96)) || (decide (123<=x) && decide (x<=127)) || x == 12290
theorem Am9 {d:Int} (h:Bv d=true):d=12290\/∃ n:Nat,n<128/\d=n:=by
 unfold Bv at h;simp only [Bool.or_eq_true,jag,decide_eq_true_eq,beq_iff_eq] at h;by_cases e:d=12290
 · exact .inl e
 · exact .inr ⟨d.toNat,by omega,by omega⟩
theorem Po {d:Int} (h:Bv d=true):(0<=d/\d<=127)\/d=12290:=by
 rcases Am9 h with h | ⟨n,h1,rfl⟩
 · exact .inr h
 · exact .inl jO
theorem Abj:∀ y ∈ splits,(y.soft=false->y.out=false->Bv y.one=false/\Bv y.two=false)/\(Norm.pieces false y.rune).all (λc=>!Bv c)=true:=by decide +kernel
def Ys (x:Int):Bool:=!Bv x || (Ad x == 0 && decide (Norm.pieces false x=[x]) && decide (Fold.fo x=x))
theorem Rh:(∀ n,n<128->Ys ((n:Nat):Int)=true)/\Ys 12290=true:=by decide +kernel
theorem Yt {d:Int} (h:Bv d=true):Ad d=0/\Norm.pieces false d=[d]/\Fold.fo d=d:=by
 have:Ys d=true:=by
  rcases Am9 h with rfl | ⟨n,h1,rfl⟩
  · exact Rh.2
  · exact Rh.1 n h1
 unfold Ys at this;rw [h] at this;simp only [Bool.not_true,Bool.false_or,jag,beq_iff_eq,decide_eq_true_eq] at this;exact ⟨this.1.1,this.1.2,this.2⟩
theorem V9 {d:Int} (h:Bv d=true):Ad d=0:=(Yt h).1
theorem Ug {d:Int} (h:Bv d=true):Norm.pieces false d=[d]:=(Yt h).2.1
theorem Awj {d:Int} (h:Bv d=true):Fold.fo d=d:=(Yt h).2.2
theorem Apn {a b:Int} (h:Bv a=true\/Bv b=true):Gi a b=none:=by
 cases hp:Gi a b with
 | none=>rfl
 | some z =>
  obtain ⟨y,hy,h1,h2,ho⟩:=Fy hp;obtain ⟨-,-,h4⟩:=Pl hy ho;rcases Bj hy with ⟨h3,-⟩ | ⟨-,rfl⟩
  ·have:=(Abj y h3).1 h4 ho;rw [h1,h2] at this;rcases h with h | h
   · rw [h] at this;exact absurd this.1 jD
   · rw [h] at this;exact absurd this.2 jD
  ·cases ho
theorem Aa2 {a b:Int} (h:Bv a=true\/Bv b=true):Norm.Dy a b=none:=by
 have ha:Bv a=true->(0<=a/\a<=127)\/a=12290:=Po;have hb:Bv b=true->(0<=b/\b<=127)\/b=12290:=Po;unfold Norm.Dy;rw [if_neg (by rcases h with h | h;have:=ha h;omega;have:=hb h;omega),if_neg (λe=>by
  have:=(Norm.Cf a).1 e.1;rcases h with h | h
  · have:=ha h;omega
  · have:=hb h;omega)]
 exact Apn h
theorem Aq2 {d:Int} (hd:Bv d=true) (S R:List Int) (c:Int):Norm.step (S ++ d::R) c=Norm.step S c ++ d::R:=by
 have h0:¬ 0<Ad d:=by rw [V9 hd];omega
 unfold Norm.step;rw [List.dropWhile_append,List.takeWhile_append];cases hdw:S.dropWhile (λy=>decide (0<Ad y)) with
 | nil =>
  have ht:S.takeWhile (λy=>decide (0<Ad y))=S:=by
   have:=List.takeWhile_append_dropWhile (p:=λy=>decide (0<Ad y)) (l:=S);rw [hdw,List.append_nil] at this;exact this
  rw [ht,if_pos rfl];simp only [List.isEmpty_nil,if_true,List.dropWhile_cons,h0,decide_false,Bool.false_eq_true,if_false,Aa2 (Or.inl hd)];split<;>rfl
 | cons s A =>
  have ht:¬ (S.takeWhile (λy=>decide (0<Ad y))).length=S.length:=by
   have:=congrArg List.length (List.takeWhile_append_dropWhile (p:=λy=>decide (0<Ad y)) (l:=S));rw [hdw,jab,jac] at this;omega
  rw [if_neg ht];simp only [List.isEmpty_cons,Bool.false_eq_true,if_false,jah];split
  ·split
   · rw [jaq];rfl
   · rfl
  ·rfl
theorem Aq3 {d:Int} (hd:Bv d=true) (R:List Int):Norm.step R d=d::R:=by
 unfold Norm.step;split
 ·rfl
 ·split
  · rw [Aa2 (Or.inr hd)]
  · rfl
theorem Yh {d:Int} (hd:Bv d=true):∀ (q S R:List Int),q.foldl Norm.step (S ++ d::R)=q.foldl Norm.step S ++ d::R
 | [],_,_=>rfl
 | c::q,S,R=>by rw [List.foldl_cons,List.foldl_cons,Aq2 hd,Yh hd q]
theorem Aaw {d:Int} (hd:Bv d=true) (p q:List Int):Norm.join (p ++ d::q)=Norm.join p ++ d::Norm.join q:=by
 unfold Norm.join Norm.Af2;rw [List.foldl_append,List.foldl_cons,Aq3 hd,show d::p.foldl Norm.step []=[] ++ d::p.foldl Norm.step [] from rfl,Yh hd,List.reverse_append];simp
theorem Afy {d:Int} (hd:Bv d=true) (x:Int):∀ L M:List Int,Norm.ins x (L ++ d::M)=Norm.ins x L ++ d::M
 | [],M=>by
  show Norm.ins x (d::M)=[x] ++ d::M;unfold Norm.ins;rw [if_neg (by rw [V9 hd];omega)];rfl
 | y::L,M=>by
  show Norm.ins x (y::(L ++ d::M))=_;unfold Norm.ins;split
  · rw [Afy hd x L M];rfl
  · rfl
theorem Xj {d:Int} (hd:Bv d=true):∀ p q:List Int,Norm.order (p ++ d::q)=Norm.order p ++ d::Norm.order q
 | [],q=>by
  show Norm.ins d (Norm.order q)=d::Norm.order q;cases Norm.order q with
  | nil=>rfl
  | cons y l =>
   unfold Norm.ins;rw [if_neg (by rw [V9 hd];omega)]
 | x::p,q=>by
  show Norm.ins x (Norm.order (p ++ d::q))=Norm.ins x (Norm.order p) ++ _;rw [Xj hd p q,Afy hd]
theorem Aag {d:Int} (hd:Bv d=true) (p q:List Int):Norm.down false (p ++ d::q)=Norm.down false p ++ d::Norm.down false q:=by
 unfold Norm.down;rw [Norm.Gp,show d::q=[d] ++ q from rfl,Norm.Gp,show Norm.split false [d]=[d] by unfold Norm.split;rw [jao,Ug hd];rfl];exact Xj hd _ _
theorem U9 {d:Int} (hd:Bv d=true) (p q:List Int):Fold.fold (p ++ d::q)=Fold.fold p ++ d::Fold.fold q:=by
 unfold Fold.fold;rw [List.map_append,List.map_cons,Awj hd,Aag hd,Aaw hd]
theorem Aoh {d r:Int} (hd:Bv d=true) (h:d ∈ Norm.pieces false r):r=d:=by
 rw [Norm.Az] at h;cases hs:Norm.syl r with
 | true =>
  rw [hs,if_pos rfl] at h;have:=(Norm.Hl d).1 (Norm.Nh hs d h);have:=Po hd;omega
 | false =>
  cases ho:Ah r with
  | none=>rw [hs,ho] at h;exact (by simpa using h:d=r).symm
  | some y =>
   rcases Bj ho with ⟨h1,rfl⟩ | ⟨h1,hy⟩
   ·have h2:=(Abj y h1).2;rw [jar] at h2;rw [<- Norm.Az] at h;have:=h2 d h;rw [hd] at this;exact absurd this jD
   ·rw [hs,ho,hy] at h;exact (by simpa using h:d=r).symm
theorem At2 {p:List Int} {d:Int} (hd:Bv d=true) (h:d ∈ Norm.join (Norm.down false p)):d ∈ p:=by
 have hs:=Norm.Af6 false (l:=Norm.down false p) (Norm.O0 false p);have h1:d ∈ Norm.split false (Norm.join (Norm.down false p)):=by
  unfold Norm.split
  exact List.mem_flatMap.2 ⟨d,h,by rw [Ug hd];simp⟩
 have h2:=(Norm.Am5 hs d).1 h1;obtain ⟨r,hr,hp⟩:=Norm.Ql false p d h2;rwa [<- Aoh hd hp]
end Wall
end
section
open Go.RowKit Utf
namespace Dom
def Cd (x:Int):Bool:=x == 46 || x == 12290
theorem An6 {d:Int} (h:Cd d=true):d=46\/d=12290:=by
 unfold Cd at h;simpa using h
theorem Rr {d:Int} (h:Cd d=true):Wall.Bv d=true:=by rcases An6 h with rfl | rfl<;>decide
theorem U9 {d:Int} (hd:Cd d=true) (p q:List Int):Fold.fold (p ++ d::q)=Fold.fold p ++ d::Fold.fold q:=Wall.U9 (Rr hd) p q
theorem Afr (p q:List Int):Fold.fold (p ++ 46::q)=Fold.fold p ++ 46::Fold.fold q:=U9 jD p q
def cut:List Int->List (List Int)
 | []=>[[]]
 | x::l=>if Cd x then []::cut l else match cut l with | []=>[[x]] | h::t=>(x::h)::t
theorem Fl (l:List Int):∃ h t,cut l=h::t:=by
 cases l with
 | nil=>exact ⟨_,_,rfl⟩
 | cons x l =>
  unfold cut;split
  ·exact ⟨_,_,rfl⟩
  ·split
   · exact ⟨_,_,rfl⟩
   · exact ⟨_,_,rfl⟩
theorem Aco:∀ p q:List Int,cut (p ++ 46::q)=cut p ++ cut q
 | [],q=>by
  show cut (46::q)=[[]] ++ cut q;rw [cut,if_pos jD];rfl
 | x::p,q=>by
  show cut (x::(p ++ 46::q))=_;rw [cut,cut,Aco p q];split
  ·rfl
  ·obtain ⟨h,t,e⟩:=Fl p;rw [e];rfl
theorem Wb:∀ {l:List Int},(∀ x ∈ l,Cd x=false)->cut l=[l]
 | [],_=>rfl
 | x::l,h=>by
  rw [cut,if_neg (by rw [h x jS];decide),Wb (λy hy=>h y (by simp [hy]))]
theorem Av7 {l:List Int} (h:(cut l).length=1):cut l=[l]:=by
 induction l with
 | nil=>rfl
 | cons x l ih =>
  rw [cut] at h ⊢;obtain ⟨a,t,e⟩:=Fl l;by_cases hx:Cd x=true
  ·rw [if_pos hx,e] at h;simp at h
  ·rw [if_neg hx] at h ⊢;rw [e] at h ih ⊢;simp only [jac,Nat.add_eq_right,List.length_eq_zero_iff] at h;subst h;have:=ih rfl;injection this with h1
   subst h1;rfl
def Cn:List (List Int)->List Int
 | []=>[]
 | [x]=>x
 | x::y::t=>x ++ 46::Cn (y::t)
theorem Ae1:∀ {ps:List (List Int)},ps ≠ []->(∀ p ∈ ps,∀ x ∈ p,Cd x=false)->cut (Cn ps)=ps
 | [],h,_=>absurd rfl h
 | [x],_,h=>Wb (h x jS)
 | x::y::t,_,h=>by
  show cut (x ++ 46::Cn (y::t))=_;rw [Aco,Wb (h x jS),Ae1 jS (λp hp=>h p (by simp only [jal] at hp ⊢;exact .inr hp))];rfl
theorem Aaq:∀ {ps:List (List Int)},(∀ p ∈ ps,Fold.fold p=p)->Fold.fold (Cn ps)=Cn ps
 | [],_=>rfl
 | [x],h=>h x jS
 | x::y::t,h=>by
  show Fold.fold (x ++ 46::Cn (y::t))=_;rw [Afr,h x jS,Aaq (λp hp=>h p (by simp only [jal] at hp ⊢;exact .inr hp))];rfl
theorem Xu:∀ {ps:List (List Int)},(∀ p ∈ ps,Ae p=true)->Ae (Cn ps)=true
 | [],_=>rfl
 | [x],h=>h x jS
 | x::y::t,h=>by
  have h1:=h x jS;have h2:=Xu (ps:=y::t) (λp hp=>h p (by simp only [jal] at hp ⊢;exact .inr hp));show Ae (x ++ 46::Cn (y::t))=true;unfold Ae at h1 h2 ⊢;rw [List.all_append,h1,List.all_cons,h2];decide
theorem Aux {d:Int} {A B p R:List Int} (h:A ++ d::B=p ++ d::R) (hA:d ∈ A->d ∈ p) (hp:d ∉ p):A=p/\B=R:=by
 have hlt:A.length=p.length:=by
  rcases Nat.lt_trichotomy A.length p.length with h1 | h1 | h1
  ·exfalso;have e:(A ++ d::B)[A.length]? = (p ++ d::R)[A.length]?:=by rw [h]
   rw [List.getElem?_append_right (jaa _),Nat.sub_self,List.getElem?_cons_zero,List.getElem?_append_left h1,List.getElem?_eq_getElem h1] at e;exact hp (by injection e with e;rw [e];exact List.getElem_mem h1)
  ·exact h1
  ·exfalso;have e:(A ++ d::B)[p.length]? = (p ++ d::R)[p.length]?:=by rw [h]
   rw [List.getElem?_append_left h1,List.getElem?_eq_getElem h1,List.getElem?_append_right (jaa _),Nat.sub_self,List.getElem?_cons_zero] at e;exact hp (hA (by injection e with e;rw [<- e];exact List.getElem_mem h1))
 obtain ⟨h1,h2⟩:=List.append_inj h hlt;exact ⟨h1,by injection h2⟩
theorem Z7:∀ l:List Int,((∀ x ∈ l,Cd x=false)/\cut l=[l])\/∃ p d R,Cd d=true/\l=p ++ d::R/\(∀ x ∈ p,Cd x=false)/\cut l=p::cut R
 | []=>.inl ⟨λx hx=>(by cases hx),rfl⟩
 | x::l=>by
  cases hx:Cd x with
  | true=>exact .inr ⟨[],x,l,hx,rfl,λy hy=>(by cases hy),by rw [cut,if_pos hx]⟩
  | false =>
   rcases Z7 l with ⟨h1,h2⟩ | ⟨p,d,R,hd,rfl,h1,h2⟩
   · exact .inl ⟨λy hy=>(by
    rcases jal.1 hy with rfl | hy
    · exact hx
    · exact h1 y hy),by rw [cut,if_neg (by rw [hx];decide),h2]⟩
   · exact .inr ⟨x::p,d,R,hd,rfl,λy hy=>(by
    rcases jal.1 hy with rfl | hy
    · exact hx
    · exact h1 y hy),by rw [cut,if_neg (by rw [hx];decide),h2]⟩
theorem Ash (n:Nat):∀ L:List Int,L.length<=n->Norm.join (Norm.down false L)=L->(∀ c ∈ L,Fold.fo c=c)->∀ p ∈ cut L,Fold.fold p=p:=by
 induction n with
 | zero =>
  intro L hn _ _ p hp;obtain rfl:L=[]:=List.eq_nil_of_length_eq_zero jO;rw [List.mem_singleton.1 hp];rfl
 | succ n ih =>
  intro L hn hj hf p hp;have one:∀ q:List Int,Norm.join (Norm.down false q)=q->(∀ c ∈ q,Fold.fo c=c)->Fold.fold q=q:=λq h1 h2=>by
   unfold Fold.fold;rw [Fold.Vg h2];exact h1
  rcases Z7 L with ⟨-,h⟩ | ⟨q,d,R,hd,rfl,hq,h⟩
  ·rw [h] at hp;rw [List.mem_singleton.1 hp];exact one L hj hf
  ·rw [Wall.Aag (Rr hd),Wall.Aaw (Rr hd)] at hj;have hdq:d ∉ q:=λhm=>by rw [hq d hm] at hd;cases hd
   obtain ⟨e1,e2⟩:=Aux hj (Wall.At2 (Rr hd)) hdq;rw [h] at hp;rcases jal.1 hp with rfl | hp
   ·exact one p e1 λc hc=>hf c (by simp [hc])
   ·refine ih R ?_ e2 (λc hc=>hf c (by simp [hc])) p hp;rw [jab,jac] at hn;omega
theorem Xo (l:List Int):∀ p ∈ cut (Fold.fold l),Fold.fold p=p :=
 Ash _ _ (jaa _) (Fold.At1 l) (Fold.Qt l)
end Dom
end
section
open Go.RowKit Utf
namespace Dom
theorem Ks {x:Int} (hx:Cd x=true):∀ l:List Int,cut (l ++ [x])=cut l ++ [[]]
 | []=>by
  show cut [x]=[[]] ++ [[]]
  rw [cut,if_pos hx];rfl
 | y::l=>by
  show cut (y::(l ++ [x]))=_;rw [cut,cut,Ks hx l];split
  ·rfl
  ·obtain ⟨a,t,e⟩:=Fl l;rw [e];rfl
theorem Wc {x:Int} (hx:Cd x=false):∀ (l:List Int) (q:Nat),(cut l).length=q+1->cut (l ++ [x])=(cut l).set q ((cut l)[q]! ++ [x])
 | [],q,h=>by
  obtain rfl:q=0:=by have:(1:Nat)=q+1:=h;omega
  show cut [x]=[[x]]
  rw [cut,if_neg (by rw [hx];decide)];rfl
 | y::l,q,h=>by
  show cut (y::(l ++ [x]))=_;rw [cut] at h ⊢;rw [cut];obtain ⟨a,t,e⟩:=Fl l;by_cases hy:Cd y=true
  ·rw [if_pos hy] at h;rw [if_pos hy,if_pos hy];obtain ⟨q',rfl⟩:∃ q',q=q'+1:=by
    cases q with
    | zero=>rw [e] at h;simp at h
    | succ q'=>exact ⟨q',rfl⟩
   rw [Wc hx l q' (by simpa using h)];rfl
  ·rw [if_neg hy] at h;rw [if_neg hy,if_neg hy];rw [e] at h;have ih:=Wc hx l q (by rw [e];simpa using h);rw [ih,e];cases q with
   | zero=>rfl
   | succ q'=>rfl
theorem get_at (A X:List UInt8) (j:Nat):(⟨(A ++ X).toArray⟩:ByteArray).get! (A.length+j)=X.getD j 0:=by
 show (A ++ X).toArray[A.length+j]! = _;by_cases h:j<X.length
 ·rw [getElem!_pos _ _ (by simp;omega)];simp [List.getElem_append_right,List.getD,h]
 ·rw [getElem!_neg _ _ (by simp;omega)];simp [List.getD,h];rfl
theorem Ai6 (A B:List UInt8) (r:Nat) (h:right r=true):Utf8.decode ⟨(A ++ (enc r ++ B)).toArray⟩ A.length=(r,(enc r).length):=by
 rw [Dk] at h;have g0:=get_at A (enc r ++ B) 0;rw [Nat.add_zero] at g0;rw [Lib.decode_at,g0,get_at,get_at,get_at];have hs:(⟨(A ++ (enc r ++ B)).toArray⟩:ByteArray).size - A.length=(enc r).length+B.length:=by
  show (A ++ (enc r ++ B)).toArray.size - A.length=_;simp
 rw [hs];unfold enc;by_cases h1:r<128
 ·rw [if_pos h1];simp only [jah,List.nil_append,List.getD_cons_zero,Ba (show r<256 by omega),jac,List.length_nil];unfold Lib.decodeN;rw [if_pos h1]
 rw [if_neg h1];by_cases h2:r<2048
 ·rw [if_pos h2];simp only [jah,List.nil_append,List.getD_cons_zero,List.getD_cons_succ,Ba (show 192+r / 64<256 by omega),Ba (show 128+r % 64<256 by omega),jac,List.length_nil];unfold Lib.decodeN;rw [if_neg jO,if_pos jO,if_pos jO];congr 1;omega
 rw [if_neg h2];by_cases h3:r<65536
 ·rw [if_pos h3];simp only [jah,List.nil_append,List.getD_cons_zero,List.getD_cons_succ,Ba (show 224+r / 4096<256 by omega),Ba (show 128+r / 64 % 64<256 by omega),Ba (show 128+r % 64<256 by omega),jac,List.length_nil];unfold Lib.decodeN;rw [if_neg jO,if_neg jO,if_pos jO,if_pos jO];congr 1;omega
 rw [if_neg h3];simp only [jah,List.nil_append,List.getD_cons_zero,List.getD_cons_succ,Ba (show 240+r / 262144<256 by omega),Ba (show 128+r / 4096 % 64<256 by omega),Ba (show 128+r / 64 % 64<256 by omega),Ba (show 128+r % 64<256 by omega),jac,List.length_nil];unfold Lib.decodeN;rw [if_neg jO,if_neg jO,if_neg jO,if_pos jO,if_pos jO];congr 1;omega
theorem Mf (a b:List Int):Ag (a ++ b)=Ag a ++ Ag b:=by unfold Ag;exact List.flatMap_append
theorem Abh {L:List Int} (h:Ae L=true) {k:Nat} (hk:k<L.length):0<=L[k]!/\right (L[k]!).toNat=true:=by
 unfold Ae at h;rw [jar] at h;have h2:=h _ (List.getElem_mem hk);rw [getElem!_pos L k hk];unfold Ai at h2;rw [jag,decide_eq_true_eq] at h2;exact h2
theorem Ya {L:List Int} {k:Nat} (hk:k<L.length):L=L.take k ++ L[k]!::L.drop (k+1):=by
 rw [getElem!_pos L k hk];exact (List.take_append_drop k L).symm.trans (by rw [List.drop_eq_getElem_cons hk])
def at_ (L:List Int) (k:Nat):Nat:=(Ag (L.take k)).length
theorem Al6 {L:List Int} {k:Nat} (hk:k<L.length):at_ L (k+1)=at_ L k+(enc (L[k]!).toNat).length:=by
 unfold at_
 rw [show L.take (k+1)=L.take k ++ [L[k]!] by rw [List.take_add_one,List.getElem?_eq_getElem hk,getElem!_pos L k hk];rfl,Nv,jab]
theorem Aya (L:List Int):at_ L L.length=(Ag L).length:=by unfold at_;rw [List.take_length]
theorem Kx (r:Nat):1<=(enc r).length:=by unfold enc;split<;>(try split)<;>(try split)<;>simp
theorem Awg (r:Nat):(enc r).length<=4:=by unfold enc;split<;>(try split)<;>(try split)<;>simp
theorem Ay6 {L:List Int} {k:Nat} (hk:k<L.length):at_ L k+(enc (L[k]!).toNat).length<=(Ag L).length:=by
 have e:=congrArg Ag (Ya hk);rw [Mf,show L[k]!::L.drop (k+1)=[L[k]!] ++ L.drop (k+1) from rfl,Mf,show Ag [L[k]!]=enc (L[k]!).toNat by simp [Ag]] at e;have:=congrArg List.length e;rw [jab,jab] at this;unfold at_
 omega
theorem Axg {L:List Int} (h:Ae L=true) {k:Nat} (hk:k<L.length):Utf8.decode ⟨(Ag L).toArray⟩ (at_ L k)=((L[k]!).toNat,(enc (L[k]!).toNat).length):=by
 have e:=congrArg Ag (Ya hk);rw [Mf,show L[k]!::L.drop (k+1)=[L[k]!] ++ L.drop (k+1) from rfl,Mf,show Ag [L[k]!]=enc (L[k]!).toNat by simp [Ag]] at e;rw [e];exact Ai6 _ _ _ (Abh h hk).2
theorem Ae3 {d:Int} (hd:Cd d=true):∀ p R:List Int,cut (p ++ d::R)=cut p ++ cut R
 | [],R=>by
  show cut (d::R)=[[]] ++ cut R;rw [cut,if_pos hd];rfl
 | y::p,R=>by
  show cut (y::(p ++ d::R))=_;rw [cut,cut,Ae3 hd p R];split
  ·rfl
  ·obtain ⟨a,t,e⟩:=Fl p;rw [e];rfl
def Hq (L:List Int) (k q b:Nat):Prop:=(cut (L.take k)).length=q+1/\∃ A,Ag (L.take k)=A ++ Ag (cut (L.take k))[q]!/\A.length=b
def gone (L:List Int) (k q:Nat):List (List UInt8):=((cut (L.take k)).take q).map Ag
theorem Ayc (L:List Int):Hq L 0 0 0:=⟨rfl,[],rfl,rfl⟩
theorem Aft {L:List Int} {k q b:Nat} (h:Hq L k q b):(gone L k q).length=q:=by unfold gone;rw [jai,jak,h.1];omega
theorem Av5 {L:List Int} {k q b:Nat} (h:Hq L k q b):b<=at_ L k:=by obtain ⟨-,A,e,rfl⟩:=h;unfold at_;rw [e,jab];omega
theorem Ae2:∀ l:List Int,(cut l).length<=l.length+1
 | []=>jaa _
 | x::l=>by
  have ih:=Ae2 l;rw [cut];obtain ⟨a,t,e⟩:=Fl l;rw [e] at ih ⊢;split
  · simp at ih ⊢;omega
  · simp at ih ⊢;omega
theorem Asg {L:List Int} {k q b:Nat} (h:Hq L k q b):q<=k:=by have:=Ae2 (L.take k);rw [h.1,jak] at this;omega
theorem take_one {L:List Int} {k:Nat} (hk:k<L.length):L.take (k+1)=L.take k ++ [L[k]!]:=by rw [List.take_add_one,List.getElem?_eq_getElem hk,getElem!_pos L k hk];rfl
theorem Av6 {L:List Int} {k q b:Nat} (h:Hq L k q b) (hk:k<L.length) (hd:Cd L[k]! = false):Hq L (k+1) q b/\gone L (k+1) q=gone L k q:=by
 obtain ⟨hq,A,e,rfl⟩:=h;have hc:=Wc hd (L.take k) q hq;have hql:q<(cut (L.take k)).length:=jO
 refine ⟨⟨?_,A,?_,rfl⟩,?_⟩
 ·rw [take_one hk,hc,List.length_set];exact hq
 ·rw [take_one hk,hc,getElem!_pos _ q (by rw [List.length_set];exact hql),List.getElem_set_self,Nv,e,Nv,jaq]
 ·unfold gone;rw [take_one hk,hc,List.take_set_of_le (jaa q)]
theorem Aez {L:List Int} {k q b:Nat} (h:Hq L k q b) (hk:k<L.length) (hd:Cd L[k]! = true):Hq L (k+1) (q+1) (at_ L k+(enc (L[k]!).toNat).length)/\gone L (k+1) (q+1)=gone L k q ++ [Ag (cut (L.take k))[q]!]:=by
 obtain ⟨hq,A,e,rfl⟩:=h;have hc:=Ks hd (L.take k);have hql:q<(cut (L.take k)).length:=jO
 refine ⟨⟨?_,Ag (L.take (k+1)),?_,Al6 hk⟩,?_⟩
 ·rw [take_one hk,hc,jab,hq];rfl
 ·rw [take_one hk,hc,getElem!_pos _ (q+1) (by rw [jab,hq];simp),List.getElem_append_right jO];simp [hq,Ag]
 ·unfold gone;rw [take_one hk,hc,List.take_append_of_le_length jO,show q+1=q+1 from rfl,List.take_add_one,List.getElem?_eq_getElem hql,getElem!_pos _ q hql,List.map_append];rfl
theorem As6 {L:List Int} {k q b:Nat} (h:Hq L k q b) (hk:k<L.length) (hd:Cd L[k]! = true):gone L k q ++ [Ag (cut (L.take k))[q]!] <+: (cut L).map Ag:=by
 rw [<- (Aez h hk hd).2];refine ⟨(cut (L.drop (k+1))).map Ag,?_⟩;have e:cut L=cut (L.take k) ++ cut (L.drop (k+1)):=by
  have:=Ae3 hd (L.take k) (L.drop (k+1));rw [<- Ya hk] at this;exact this
 unfold gone;rw [e,List.map_append,take_one hk,Ks hd,List.take_append_of_le_length (by rw [h.1];omega),List.take_of_length_le (by rw [h.1];omega)]
theorem As7 {L:List Int} {q b:Nat} (h:Hq L L.length q b):gone L L.length q ++ [Ag (cut L)[q]!]=(cut L).map Ag:=by
 obtain ⟨hq,-⟩:=h;unfold gone;rw [List.take_length] at hq ⊢;have hql:q<(cut L).length:=jO
 have:cut L=(cut L).take q ++ [(cut L)[q]!]:=by
  rw [getElem!_pos _ q hql];have:=List.take_add_one (l:=cut L) (i:=q);rw [List.take_of_length_le jO,List.getElem?_eq_getElem hql] at this;exact this
 exact (by rw [List.map_append];rfl:((cut L).take q).map Ag ++ [Ag (cut L)[q]!]=((cut L).take q ++ [(cut L)[q]!]).map Ag).trans (congrArg _ this.symm)
theorem Am0 {L:List Int} {k q b:Nat} (h:Hq L k q b):(⟨(Ag L).toArray⟩:ByteArray).extract b (at_ L k)=⟨(Ag (cut (L.take k))[q]!).toArray⟩:=by
 obtain ⟨hq,A,e,rfl⟩:=h;have e2:Ag L=Ag (L.take k) ++ Ag (L.drop k):=by rw [<- Mf,List.take_append_drop]
 have ha:at_ L k=A.length+(Ag (cut (L.take k))[q]!).length:=by unfold at_;rw [e,jab]
 apply ByteArray.ext;rw [ByteArray.data_extract,e2,e,ha];simp
end Dom
end
section
open Go.RowKit Utf
namespace Lab
theorem Qj:Bh 46=false/\Bh 12290=false/\Ctx.Br 46=false/\Ctx.Br 12290=false:=by decide +kernel
theorem Alq {l:List Int} (h:Eh l=0):∀ x ∈ l,Dom.Cd x=false:=by
 have hb:Fj l=false:=by
  unfold Eh at h;split at h
  ·omega
  ·split at h
   ·omega
   ·split at h
    ·omega
    ·split at h
     ·omega
     ·rename_i h4
      simpa using h4
 intro x hx;obtain ⟨k,hk,rfl⟩:=List.getElem_of_mem hx;unfold Fj at hb;rw [List.any_eq_false] at hb;have h1:=hb k (List.mem_range.2 hk);rw [Bool.or_eq_true,not_or,getElem!_pos l k hk] at h1;cases hd:Dom.Cd l[k] with
 | false=>rfl
 | true =>
  exfalso;have hc:Bh l[k]=false/\Ctx.Br l[k]=false:=by
   unfold Dom.Cd at hd;simp only [Bool.or_eq_true,beq_iff_eq] at hd;rcases hd with e | e<;>rw [e]
   ·exact ⟨Qj.1,Qj.2.2.1⟩
   ·exact ⟨Qj.2.1,Qj.2.2.2⟩
  refine h1.2 ?_;rw [Ctx.He hk,getElem!_pos l k hk,hc.1,hc.2];rfl
theorem Ajj {l:List Int} (h:Ae l=true) (hd:∀ x ∈ l,Dom.Cd x=false):∀ c ∈ Puny.Bm l,c.toNat ≠ 46:=by
 have hp:∀ x ∈ l,0<=x:=λx hx=>by
  have:=jar.1 (show l.all Ai=true from h) x hx;have:=(Ak x).1 this;omega
 intro c hc;unfold Puny.Bm at hc;rcases jap.1 hc with hc | hc
 ·rcases jap.1 hc with hc | hc
  ·unfold Puny.Bd at hc;obtain ⟨x,hx,rfl⟩:=List.mem_map.1 hc;have hm:x ∈ l/\x<128:=by
    unfold Puny.lt at hx;have:=List.mem_filter.1 hx;exact ⟨this.1,by simpa using this.2⟩
   show (u x.toNat).toNat ≠ 46;rw [Ba (by have:=hp x hm.1;omega)];intro e;have hx46:x=46:=by have:=hp x hm.1;omega
   have:=hd x hm.1;rw [hx46] at this;exact absurd this jD
  ·unfold Puny.Jw at hc;split at hc
   ·cases hc
   ·rw [List.mem_singleton.1 hc];decide
 ·unfold Puny.Cv at hc;obtain ⟨x,hx,rfl⟩:=List.mem_map.1 hc;obtain ⟨h0,h1⟩:=Puny.Kv _ _ _ _ (Puny.Gs (Ek h)) x hx;have:∀ i:Nat,i<36->(Puny.Iy (i:Int)).toNat ≠ 46:=by decide +kernel
  have:=this x.toNat jO;rwa [show ((x.toNat:Nat):Int)=x by omega] at this
theorem clean {L:List Int} (hr:Ae L=true) (hf:Fold.fold L=L) {a u:List UInt8} (h:Ef L=(0,a,u)) :
  ∃
   U:List Int,u=Ag U/\Ae U=true/\Fold.fold U=U/\Ef U=(0,a,u)/\(∀ c ∈ a,c.toNat<128)/\Fold.fold (chars a)=chars a/\Ef (chars a)=(0,a,u)/\0<a.length/\a.length<=63 /\
   U.length<=a.length/\(∀ x ∈ U,Dom.Cd x=false)/\(∀ x ∈ chars a,Dom.Cd x=false):=by
 obtain ⟨U,hu,rU,fU,-,bU,aA,fA,bA,l0,l1⟩:=back hr hf h;have hA:(∀ c ∈ a,c.toNat ≠ 46)->∀ x ∈ chars a,Dom.Cd x=false:=λhn x hx=>by
  obtain ⟨c,hc,rfl⟩:=List.mem_map.1 hx;have h1:=hn c hc;have h2:=aA c hc;unfold Dom.Cd;rw [beq_eq_false_iff_ne.2 (show ((c.toNat:Nat):Int) ≠ 46 by omega),beq_eq_false_iff_ne.2 (show ((c.toNat:Nat):Int) ≠ 12290 by omega)];rfl
 have hb:=bU;unfold Ef at hb;by_cases h1:Dx (Ag U)=false
 ·rw [if_pos h1] at hb;by_cases h2:Eh U=0
  ·rw [if_pos h2] at hb;injection hb with e1 e2
   injection e2 with e2 e3
   have hge:=Ajl rU;have hnd:=Alq h2;refine ⟨U,hu,rU,fU,bU,aA,fA,bA,l0,l1,by rw [<- e2,jab];omega,hnd,hA λc hc=>?_⟩;rw [<- e2] at hc;rcases jap.1 hc with hc | hc
   ·exact (by decide:∀ c ∈ sign,c.toNat ≠ 46) c hc
   ·exact Ajj rU hnd c hc
  ·rw [if_neg h2] at hb;injection hb with e1 e2
   exact absurd e1 h2
 ·rw [if_neg h1] at hb;have haU:∀ c ∈ Ag U,c.toNat<128:=Ei.1 (by simpa using h1);have hch:chars (Ag U)=U:=Ip (Ea haU) rU (Ej _ haU);by_cases h3:(Ag U).take 4=sign
  ·exfalso;rw [if_pos h3] at hb;cases hd:Puny.Hj ((Ag U).drop 4) with
   | none=>rw [hd] at hb;simp only at hb;injection hb with e1 e2;exact absurd e1 jD
   | some l =>
    rw [hd] at hb;simp only at hb;split at hb
    ·injection hb with e1 e2;exact absurd e1 jD
    ·split at hb
     ·rename_i h5;injection hb with e1 e2;exact h5 e1
     ·rename_i h5
      split at hb
      ·injection hb with e1 e2;exact absurd e1 jD
      ·injection hb with e1 e2
       injection e2 with e2 e3
       rw [Decidable.not_not] at h5;have R:=My h5;have:=R.wide;rw [e3,hu] at this;exact h1 this
  ·rw [if_neg h3] at hb;by_cases h4:Fz (Ag U)=0
   ·rw [if_pos h4] at hb;injection hb with e1 e2
    injection e2 with e2 e3
    have hp:=(Apw (Ag U)).1 h4;have hn:∀ c ∈ Ag U,c.toNat ≠ 46:=λc hc=>by
     obtain ⟨k,hk,rfl⟩:=List.getElem_of_mem hc;have:=hp.2.2 k hk;unfold Sy at this;rw [Ie hk] at this;intro e;rw [e] at this
     revert this
     have:Bidi.Ca ((46:Nat):Int)=false:=by decide
     rw [this];simp
    refine ⟨U,hu,rU,fU,bU,aA,fA,bA,l0,l1,?_,?_,hA (by rw [<- e2];exact hn)⟩
    ·rw [<- e2];have:=congrArg List.length hch;unfold chars at this;rw [jai] at this;omega
    ·have:=hA (by rw [<- e2];exact hn);rw [<- e2,hch] at this;exact this
   ·rw [if_neg h4] at hb;injection hb with e1 e2
    exact absurd e1 h4
end Lab
namespace Dom
def Cq:List (List UInt8)->List UInt8
 | []=>[]
 | [x]=>x
 | x::y::t=>x ++ 46::Cq (y::t)
theorem Amf (x y:List Int):Ag (x ++ 46::y)=Ag x ++ 46::Ag y:=by
 unfold Ag;rw [List.flatMap_append,jao,show enc (46:Int).toNat=[46] by decide];rfl
theorem Wj:∀ ps:List (List Int),Ag (Cn ps)=Cq (ps.map Ag)
 | []=>rfl
 | [x]=>rfl
 | x::y::t=>by
  show Ag (x ++ 46::Cn (y::t))=Ag x ++ 46::Cq ((y::t).map Ag);rw [Amf,Wj (y::t)]
def Dg (bs:List UInt8):Int × List (List Int) :=
 if (Au bs).2=-1 then
  (if Fold.fold (ints (Au bs).1)=[] then (13,[]) else if 32<(cut (Fold.fold (ints (Au bs).1))).length then (2,[]) else (0,cut (Fold.fold (ints (Au bs).1))))
 else (7,[])
def Db (p:List Int):Int:=(Lab.Dm (Ag p)).1
def Ap (p:List Int):List UInt8:=(Lab.Dm (Ag p)).2.1
def Ci (p:List Int):List UInt8:=(Lab.Dm (Ag p)).2.2
def Fq (ps:List (List Int)):Int × List UInt8 × List UInt8 :=
 match ps.find? (λp=>Db p != 0) with
 | some p=>(Db p,[],[])
 | none=>if 253<(Cq (ps.map Ap)).length then (5,[],[]) else (0,Cq (ps.map Ap),Cq (ps.map Ci))
def Cb (bs:List UInt8):Int × List UInt8 × List UInt8:=if (Dg bs).1=0 then Fq (Dg bs).2 else ((Dg bs).1,[],[])
def Qk (bs:List UInt8):List UInt8:=if (Cb bs).1=0/\Lab.Dx bs=true then bs else (Cb bs).2.1
theorem Amx {bs a u:List UInt8} {E:Int} (h:Cb bs=(E,a,u)) (hE:E ≠ 0):a=[]/\u=[]:=by
 unfold Cb at h;split at h
 ·unfold Fq at h;split at h
  ·injection h with e1 e2;injection e2 with e2 e3;exact ⟨e2.symm,e3.symm⟩
  ·split at h
   · injection h with e1 e2;injection e2 with e2 e3;exact ⟨e2.symm,e3.symm⟩
   · injection h with e1 e2;exact absurd e1.symm hE
 ·injection h with e1 e2;injection e2 with e2 e3;exact ⟨e2.symm,e3.symm⟩
theorem W5 {l:List Int} (h:Ae l=true):Dg (Ag l)=if Fold.fold l=[] then (13,[]) else if 32<(cut (Fold.fold l)).length then (2,[]) else (0,cut (Fold.fold l)):=by
 unfold Dg;rw [Ff h,if_pos rfl,(C8 h).1]
theorem Nu:∀ {l:List Int},Ae l=true->∀ p ∈ cut l,Ae p=true
 | [],_,p,hp=>by rw [List.mem_singleton.1 hp];rfl
 | x::l,h,p,hp=>by
  have h2:Ai x=true/\Ae l=true:=by unfold Ae at h ⊢;simpa using h
  have ih:=Nu h2.2;rw [cut] at hp;obtain ⟨a,t,e⟩:=Fl l;rw [e] at ih hp;split at hp
  ·rcases jal.1 hp with rfl | hp
   ·rfl
   ·exact ih p hp
  ·rcases jal.1 hp with rfl | hp
   ·have:=ih a jS;unfold Ae at this ⊢;rw [List.all_cons,h2.1,this];rfl
   ·exact ih p (by simp [hp])
theorem Amc:∀ l:List Int,∀ p ∈ cut l,p.length<=l.length
 | [],p,hp=>by rw [List.mem_singleton.1 hp];exact jaa _
 | x::l,p,hp=>by
  have ih:=Amc l;rw [cut] at hp;obtain ⟨a,t,e⟩:=Fl l;rw [e] at ih hp;split at hp
  ·rcases jal.1 hp with rfl | hp
   · simp
   · have:=ih p hp;simp only [jac];omega
  ·rcases jal.1 hp with rfl | hp
   · have:=ih a jS;simp only [jac];omega
   · have:=ih p (by simp [hp]);simp only [jac];omega
theorem Acj {bs a u:List UInt8} (h:Cb bs=(0,a,u)):∃ l:List Int,Ae l=true/\bs=Ag l/\Fold.fold l ≠ []/\(cut (Fold.fold l)).length<=32/\(∀ p ∈ cut (Fold.fold l),Db p=0)/\a=Cq ((cut (Fold.fold l)).map Ap)/\u=Cq ((cut (Fold.fold l)).map Ci)/\a.length<=253:=by
 unfold Cb at h;by_cases hl:(Dg bs).1=0
 ·rw [if_pos hl] at h;unfold Dg at hl h;by_cases hz:(Au bs).2=-1
  ·obtain ⟨h1,h2⟩:=Lab.Mw hz;rw [if_pos hz] at hl h;generalize ints (Au bs).1=l at hl h h1 h2;by_cases h3:Fold.fold l=[]
   ·rw [if_pos h3] at hl;exact absurd hl jD
   ·rw [if_neg h3] at hl h;by_cases h4:32<(cut (Fold.fold l)).length
    ·rw [if_pos h4] at hl;exact absurd hl jD
    ·rw [if_neg h4] at h;unfold Fq at h;simp only at h;cases hf:(cut (Fold.fold l)).find? (λp=>Db p != 0) with
     | some p =>
      rw [hf] at h;simp only at h;injection h with e1 e2
      have:=List.find?_some hf;rw [e1] at this;exact absurd this jD
     | none =>
      rw [hf] at h;simp only at h;by_cases h5:253<(Cq ((cut (Fold.fold l)).map Ap)).length
      ·rw [if_pos h5] at h;injection h with e1 e2;exact absurd e1 jD
      ·rw [if_neg h5] at h;injection h with e1 e2
       injection e2 with e2 e3
       refine ⟨l,h1,h2,h3,by omega,λp hp=>?_,e2.symm,e3.symm,by rw [<- e2];omega⟩;have:=List.find?_eq_none.1 hf p hp;simpa using this
  ·rw [if_neg hz] at hl;exact absurd hl jD
 ·rw [if_neg hl] at h;injection h with e1 e2
  exact absurd e1 hl
theorem Al7 {l:List Int} (hr:Ae l=true) (h0:Fold.fold l ≠ []) (h1:(cut (Fold.fold l)).length<=32) (h2:∀ p ∈ cut (Fold.fold l),Db p=0) :
  Cb (Ag l)=if 253<(Cq ((cut (Fold.fold l)).map Ap)).length then (5,[],[]) else (0,Cq ((cut (Fold.fold l)).map Ap),Cq ((cut (Fold.fold l)).map Ci)):=by
 have hf:(cut (Fold.fold l)).find? (λp=>Db p != 0)=none:=by
  rw [List.find?_eq_none];intro p hp;rw [h2 p hp];decide
 unfold Cb Fq;rw [W5 hr,if_neg h0,if_neg (show ¬ 32<(cut (Fold.fold l)).length by omega)];simp only;rw [if_pos trivial,hf]
def Hp (p:List Int):List Int:=ints (Au (Ci p)).1
theorem Af9 {p:List Int} (hr:Ae p=true) (h:Db p=0):Ci p=Ag (Hp p)/\Ae (Hp p)=true/\Fold.fold (Hp p)=Hp p/\(Hp p).length<=(Ap p).length/\(∀ x ∈ Hp p,Cd x=false)/\Db (Hp p)=0/\Ap (Hp p)=Ap p/\Ci (Hp p)=Ci p /\
  0<(Ap p).length/\(∀ c ∈ Ap p,c.toNat<128)/\Fold.fold (Lab.chars (Ap p))=Lab.chars (Ap p)/\(∀ x ∈ Lab.chars (Ap p),Cd x=false)/\Db (Lab.chars (Ap p))=0/\Ap (Lab.chars (Ap p))=Ap p/\Ci (Lab.chars (Ap p))=Ci p:=by
 have hb:Lab.Ef (Fold.fold p)=(0,Ap p,Ci p):=by
  rw [<- Lab.E9 hr,<- h];rfl
 obtain ⟨U,hu,rU,fU,bU,aA,fA,bA,l0,-,hlen,hd,hda⟩:=Lab.clean (Dr hr) (Fold.J6 p) hb;have e:Hp p=U:=by
  unfold Hp;rw [hu,Ff rU];exact (C8 rU).1
 rw [e];have h1:Lab.Dm (Ag U)=(0,Ap p,Ci p):=by rw [Lab.E9 rU,fU];exact bU
 have h2:Lab.Dm (Ag (Lab.chars (Ap p)))=(0,Ap p,Ci p):=by rw [Lab.E9 (Lab.Ea aA),fA];exact bA
 exact ⟨hu,rU,fU,hlen,hd,by unfold Db;rw [h1],by show (Lab.Dm (Ag U)).2.1=_;rw [h1],by show (Lab.Dm (Ag U)).2.2=_;rw [h1],l0,aA,fA,hda,by unfold Db;rw [h2],by show (Lab.Dm (Ag (Lab.chars (Ap p)))).2.1=_;rw [h2],by show (Lab.Dm (Ag (Lab.chars (Ap p)))).2.2=_;rw [h2]⟩
theorem Awd:∀ {ps:List (List Int)},ps ≠ []->(∀ p ∈ ps,p ≠ [])->Cn ps ≠ []
 | [],h,_=>absurd rfl h
 | [x],_,h=>h x jS
 | x::y::t,_,_=>by
  show x ++ 46::Cn (y::t) ≠ [];simp
theorem Aff:∀ (ps:List (List Int)) (f:List Int->List UInt8),(∀ p ∈ ps,p.length<=(f p).length)->(Cn ps).length<=(Cq (ps.map f)).length
 | [],_,_=>jaa _
 | [x],f,h=>h x jS
 | x::y::t,f,h=>by
  have h1:=h x jS;have h2:=Aff (y::t) f (λp hp=>h p (by simp only [jal] at hp ⊢;exact .inr hp));show (x ++ 46::Cn (y::t)).length<=(f x ++ 46::Cq ((y::t).map f)).length;rw [jab,jab,jac,jac];omega
theorem again {ps qs:List (List Int)} (f:List Int->List Int) (hq:qs=ps.map f) (hne:ps ≠ []) (hn:ps.length<=32) (hl:(Cq (ps.map Ap)).length<=253)
  (h:∀ p ∈ ps,Ae (f p)=true/\Fold.fold (f p)=f p/\(∀ x ∈ f p,Cd x=false)/\f p ≠ []/\Db (f p)=0/\Ap (f p)=Ap p/\Ci (f p)=Ci p) :
  Ae (Cn qs)=true/\Fold.fold (Cn qs)=Cn qs/\Cb (Ag (Cn qs))=(0,Cq (ps.map Ap),Cq (ps.map Ci)):=by
 subst hq;have hq1:∀ q ∈ ps.map f,∃ p ∈ ps,f p=q:=λq hq=>List.mem_map.1 hq;have r:Ae (Cn (ps.map f))=true:=Xu λq hq=>by obtain ⟨p,hp,rfl⟩:=hq1 q hq;exact (h p hp).1
 have ff:Fold.fold (Cn (ps.map f))=Cn (ps.map f):=Aaq λq hq=>by obtain ⟨p,hp,rfl⟩:=hq1 q hq;exact (h p hp).2.1
 have hne':ps.map f ≠ []:=by simpa using hne
 have hc:cut (Fold.fold (Cn (ps.map f)))=ps.map f:=by
  rw [ff];exact Ae1 hne' λq hq=>by obtain ⟨p,hp,rfl⟩:=hq1 q hq;exact (h p hp).2.2.1
 have ha:(ps.map f).map Ap=ps.map Ap:=by rw [List.map_map];exact List.map_congr_left λp hp=>(h p hp).2.2.2.2.2.1
 have hu:(ps.map f).map Ci=ps.map Ci:=by rw [List.map_map];exact List.map_congr_left λp hp=>(h p hp).2.2.2.2.2.2
 refine ⟨r,ff,?_⟩;rw [Al7 r (by rw [ff];exact Awd hne' λq hq=>by obtain ⟨p,hp,rfl⟩:=hq1 q hq;exact (h p hp).2.2.2.1) (by rw [hc,jai];exact hn) (by rw [hc];intro q hq;obtain ⟨p,hp,rfl⟩:=hq1 q hq;exact (h p hp).2.2.2.2.1),hc,ha,hu,if_neg jO]
theorem back {bs a u:List UInt8} (h:Cb bs=(0,a,u)):∃ U A:List Int,u=Ag U/\Ae U=true/\Fold.fold U=U/\U.length<=253/\Cb u=(0,a,u)/\a=Ag A/\Ae A=true/\Fold.fold A=A/\A.length<=253/\Cb a=(0,a,u)/\Ao a=-1/\a.length<=253:=by
 obtain ⟨l,hr,rfl,h0,h1,h2,rfl,rfl,hlen⟩:=Acj h;obtain ⟨ps,hps⟩:∃ ps,cut (Fold.fold l)=ps:=⟨_,rfl⟩
 have hne:ps ≠ []:=by obtain ⟨a,t,e⟩:=Fl (Fold.fold l);rw [<- hps,e];simp
 have hrp:∀ p ∈ ps,Ae p=true:=by rw [<- hps];exact Nu (Dr hr)
 rw [hps] at h1 h2 hlen ⊢;have lc:=λp hp=>Af9 (hrp p hp) (h2 p hp);obtain ⟨r1,f1,b1⟩:=again Hp (qs:=ps.map Hp) rfl hne h1 hlen λp hp=>by
  obtain ⟨c1,c2,c3,c4,c5,c6,c7,c8,c9,-⟩:=lc p hp;refine ⟨c2,c3,c5,λe=>?_,c6,c7,c8⟩;rw [e] at c6;exact absurd c6 (by decide +kernel)
 obtain ⟨r2,f2,b2⟩:=again (λp=>Lab.chars (Ap p)) (qs:=ps.map λp=>Lab.chars (Ap p)) rfl hne h1 hlen λp hp=>by
  obtain ⟨-,-,-,-,-,-,-,-,c9,c10,c11,c12,c13,c14,c15⟩:=lc p hp;refine ⟨Lab.Ea c10,c11,c12,λe=>?_,c13,c14,c15⟩;have:=congrArg List.length e;unfold Lab.chars at this;rw [jai] at this;simp only [List.length_nil] at this;omega
 have eu:Ag (Cn (ps.map Hp))=Cq (ps.map Ci):=by
  rw [Wj,List.map_map];congr 1;exact List.map_congr_left λp hp=>(lc p hp).1.symm
 have ea:Ag (Cn (ps.map λp=>Lab.chars (Ap p)))=Cq (ps.map Ap):=by
  rw [Wj,List.map_map];congr 1;exact List.map_congr_left λp hp=>Ej _ (lc p hp).2.2.2.2.2.2.2.2.2.1
 have hA:∀ c ∈ Cq (ps.map Ap),c.toNat<128:=by
  have:∀ qs:List (List Int),(∀ p ∈ qs,∀ c ∈ Ap p,c.toNat<128)->∀ c ∈ Cq (qs.map Ap),c.toNat<128:=by
   intro qs;induction qs with
   | nil=>intro _ c hc;cases hc
   | cons x t ih =>
    intro h c hc;cases t with
    | nil=>exact h x jS c hc
    | cons y t =>
     have hc':c ∈ Ap x ++ 46::Cq ((y::t).map Ap):=hc;rcases jap.1 hc' with hc | hc
     ·exact h x jS c hc
     ·rcases jal.1 hc with rfl | hc
      ·decide
      ·exact ih (λp hp=>h p (by simp only [jal] at hp ⊢;exact .inr hp)) c hc
  exact this ps λp hp=>(lc p hp).2.2.2.2.2.2.2.2.2.1
 refine ⟨Cn (ps.map Hp),Cn (ps.map λp=>Lab.chars (Ap p)),eu.symm,r1,f1,?_,by rw [<- eu] at b1 ⊢;exact b1,ea.symm,r2,f2,?_,by rw [<- ea] at b2 ⊢;exact b2,?_,hlen⟩
 ·have:=Aff (ps.map Hp) Ap (λq hq=>by
   obtain ⟨p,hp,rfl⟩:=List.mem_map.1 hq;obtain ⟨-,-,-,c4,-,-,c7,-⟩:=lc p hp;rw [c7];exact c4)
  rw [List.map_map,show ps.map (Ap ∘ Hp)=ps.map Ap from List.map_congr_left λp hp=>(lc p hp).2.2.2.2.2.2.1] at this;omega
 ·have:=congrArg List.length ea;have h3:(Cn (ps.map λp=>Lab.chars (Ap p))).length<=(Ag (Cn (ps.map λp=>Lab.chars (Ap p)))).length:=by
   have:∀ x:List Int,x.length<=(Ag x).length:=by
    intro x;induction x with
    | nil=>exact jaa _
    | cons y x ih =>
     have:0<(enc y.toNat).length:=by
      unfold enc;split
      ·simp
      ·split
       · simp
       · split<;>simp
     unfold Ag at ih ⊢;rw [jao,jab,jac];omega
   exact this _
  omega
 ·rcases Lab.Eb (Cq (ps.map Ap)) with ⟨-,h⟩ | ⟨h,-⟩
  ·exact h
  ·rw [Lab.Ei.2 hA] at h;cases h
theorem one {s:List UInt8} {L:List (List Int)} (h:Dg s=(0,L)) (h1:L.length=1):Cb s=Lab.Dm s:=by
 unfold Dg at h;by_cases hz:(Au s).2=-1
 ·obtain ⟨hr,he⟩:=Lab.Mw hz;rw [if_pos hz] at h;generalize ints (Au s).1=l at h hr he;subst he;by_cases h3:Fold.fold l=[]
  ·rw [if_pos h3] at h;injection h with e1 e2;exact absurd e1 jD
  ·rw [if_neg h3] at h;by_cases h4:32<(cut (Fold.fold l)).length
   ·rw [if_pos h4] at h;injection h with e1 e2;exact absurd e1 jD
   ·rw [if_neg h4] at h;injection h with e1 e2
    subst e2;have hc:=Av7 h1;have hb:Lab.Dm (Ag (Fold.fold l))=Lab.Dm (Ag l):=by rw [Lab.E9 (Dr hr),Lab.E9 hr,Fold.J6]
    obtain ⟨⟨E,A,V⟩,hE⟩:∃ z,Lab.Dm (Ag l)=z:=⟨_,rfl⟩
    have ha:Db (Fold.fold l)=E/\Ap (Fold.fold l)=A/\Ci (Fold.fold l)=V:=by
     unfold Db Ap Ci;rw [hb,hE];exact ⟨rfl,rfl,rfl⟩
    by_cases hE0:E=0
    ·subst hE0;rw [Al7 hr h3 jO (by rw [hc];intro p hp;rw [List.mem_singleton.1 hp];exact ha.1),hc];show (if 253<(Ap (Fold.fold l)).length then _ else ((0:Int),Ap (Fold.fold l),Ci (Fold.fold l)))=_;have hlen:A.length<=63:=by
      have hL:Lab.Ef (Fold.fold l)=(0,A,V):=by rw [<- Lab.E9 hr];exact hE
      obtain ⟨U,-,-,-,-,-,-,-,-,hl,-⟩:=Lab.clean (Dr hr) (Fold.J6 l) hL;exact hl
     rw [ha.2.1,ha.2.2,if_neg jO,hE]
    ·obtain ⟨rfl,rfl⟩:=Lab.Amx hE hE0;unfold Cb Fq;rw [W5 hr,if_neg h3,if_neg h4];simp only;rw [if_pos trivial,hc];have hfn:([Fold.fold l].find? λp=>Db p != 0)=some (Fold.fold l):=by
      rw [List.find?_cons_of_pos (by rw [ha.1];exact bne_iff_ne.2 hE0)]
     rw [hfn];simp only;rw [ha.1,hE]
 ·rw [if_neg hz] at h;injection h with e1 e2
  exact absurd e1 jD
end Dom
end
