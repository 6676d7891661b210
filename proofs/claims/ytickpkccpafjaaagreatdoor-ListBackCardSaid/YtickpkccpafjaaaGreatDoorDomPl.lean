import Derived.Test.YtickpkccpafjaaaGreatDoorLabFine
import Derived.Lib.DecodeN
namespace Go.Proofs.YtickpkccpafjaaaGreatDoor
section
open Go.RowKit Utf
namespace Wall
def Br (x:Int):Bool:=(decide (0<=x) && decide (x<=47)) || (decide (58<=x) && decide (x<=64)) || (decide (91<=x) && decide (x<=96)) || (decide (123<=x) && decide (x<=127)) || x == 12290
theorem Ap0 {d:Int} (h:Br d=true):d=12290\/∃ n:Nat,n<128/\d=n:=by
 unfold Br at h;simp only [Bool.or_eq_true,jag,decide_eq_true_eq,beq_iff_eq] at h;by_cases e:d=12290
 · exact .inl e
 · exact .inr ⟨d.toNat,by omega,by omega⟩
theorem Qg {d:Int} (h:Br d=true):(0<=d/\d<=127)\/d=12290:=by
 rcases Ap0 h with h | ⟨n,h1,rfl⟩
 · exact .inr h
 · exact .inl jO
theorem Ac2:∀ y ∈ splits,(y.soft=false->y.out=false->Br y.one=false/\Br y.two=false)/\(Norm.pieces false y.rune).all (λc=>!Br c)=true:=by decide +kernel
def Z1 (x:Int):Bool:=!Br x || (Ad x == 0 && decide (Norm.pieces false x=[x]) && decide (Fold.fo x=x))
theorem R4:(∀ n,n<128->Z1 ((n:Nat):Int)=true)/\Z1 12290=true:=by decide +kernel
theorem Z2 {d:Int} (h:Br d=true):Ad d=0/\Norm.pieces false d=[d]/\Fold.fo d=d:=by
 have:Z1 d=true:=by
  rcases Ap0 h with rfl | ⟨n,h1,rfl⟩
  · exact R4.2
  · exact R4.1 n h1
 unfold Z1 at this;rw [h] at this;simp only [Bool.not_true,Bool.false_or,jag,beq_iff_eq,decide_eq_true_eq] at this;exact ⟨this.1.1,this.1.2,this.2⟩
theorem Xa {d:Int} (h:Br d=true):Ad d=0:=(Z2 h).1
theorem U7 {d:Int} (h:Br d=true):Norm.pieces false d=[d]:=(Z2 h).2.1
theorem Azv {d:Int} (h:Br d=true):Fold.fo d=d:=(Z2 h).2.2
theorem Asp {a b:Int} (h:Br a=true\/Br b=true):Gk a b=none:=by
 cases hp:Gk a b with
 | none=>rfl
 | some z =>
  obtain ⟨y,hy,h1,h2,ho⟩:=Fx hp;obtain ⟨-,-,h4⟩:=Qe hy ho;rcases Bi hy with ⟨h3,-⟩ | ⟨-,rfl⟩
  ·have:=(Ac2 y h3).1 h4 ho;rw [h1,h2] at this;rcases h with h | h
   · rw [h] at this;exact absurd this.1 jD
   · rw [h] at this;exact absurd this.2 jD
  ·cases ho
theorem Ach {a b:Int} (h:Br a=true\/Br b=true):Norm.Dy a b=none:=by
 have ha:Br a=true->(0<=a/\a<=127)\/a=12290:=Qg;have hb:Br b=true->(0<=b/\b<=127)\/b=12290:=Qg;unfold Norm.Dy;rw [if_neg (by rcases h with h | h;have:=ha h;omega;have:=hb h;omega),if_neg (λe=>by
  have:=(Norm.Ce a).1 e.1;rcases h with h | h
  · have:=ha h;omega
  · have:=hb h;omega)]
 exact Asp h
theorem At1 {d:Int} (hd:Br d=true) (S R:List Int) (c:Int):Norm.step (S ++ d::R) c=Norm.step S c ++ d::R:=by
 have h0:¬ 0<Ad d:=by rw [Xa hd];omega
 unfold Norm.step;rw [List.dropWhile_append,List.takeWhile_append];cases hdw:S.dropWhile (λy=>decide (0<Ad y)) with
 | nil =>
  have ht:S.takeWhile (λy=>decide (0<Ad y))=S:=by
   have:=List.takeWhile_append_dropWhile (p:=λy=>decide (0<Ad y)) (l:=S);rw [hdw,List.append_nil] at this;exact this
  rw [ht,if_pos rfl];simp only [List.isEmpty_nil,if_true,List.dropWhile_cons,h0,decide_false,Bool.false_eq_true,if_false,Ach (Or.inl hd)];split<;>rfl
 | cons s A =>
  have ht:¬ (S.takeWhile (λy=>decide (0<Ad y))).length=S.length:=by
   have:=congrArg List.length (List.takeWhile_append_dropWhile (p:=λy=>decide (0<Ad y)) (l:=S));rw [hdw,jab,jac] at this;omega
  rw [if_neg ht];simp only [List.isEmpty_cons,Bool.false_eq_true,if_false,jah];split
  ·split
   · rw [jaq];rfl
   · rfl
  ·rfl
theorem At2 {d:Int} (hd:Br d=true) (R:List Int):Norm.step R d=d::R:=by
 unfold Norm.step;split
 ·rfl
 ·split
  · rw [Ach (Or.inr hd)]
  · rfl
theorem Zs {d:Int} (hd:Br d=true):∀ (q S R:List Int),q.foldl Norm.step (S ++ d::R)=q.foldl Norm.step S ++ d::R
 | [],_,_=>rfl
 | c::q,S,R=>by rw [List.foldl_cons,List.foldl_cons,At1 hd,Zs hd q]
theorem Ab9 {d:Int} (hd:Br d=true) (p q:List Int):Norm.join (p ++ d::q)=Norm.join p ++ d::Norm.join q:=by
 unfold Norm.join Norm.Ahr;rw [List.foldl_append,List.foldl_cons,At2 hd,show d::p.foldl Norm.step []=[] ++ d::p.foldl Norm.step [] from rfl,Zs hd,List.reverse_append];simp
theorem Ahn {d:Int} (hd:Br d=true) (x:Int):∀ L M:List Int,Norm.ins x (L ++ d::M)=Norm.ins x L ++ d::M
 | [],M=>by
  show Norm.ins x (d::M)=[x] ++ d::M;unfold Norm.ins;rw [if_neg (by rw [Xa hd];omega)];rfl
 | y::L,M=>by
  show Norm.ins x (y::(L ++ d::M))=_;unfold Norm.ins;split
  · rw [Ahn hd x L M];rfl
  · rfl
theorem Ys {d:Int} (hd:Br d=true):∀ p q:List Int,Norm.order (p ++ d::q)=Norm.order p ++ d::Norm.order q
 | [],q=>by
  show Norm.ins d (Norm.order q)=d::Norm.order q;cases Norm.order q with
  | nil=>rfl
  | cons y l =>
   unfold Norm.ins;rw [if_neg (by rw [Xa hd];omega)]
 | x::p,q=>by
  show Norm.ins x (Norm.order (p ++ d::q))=Norm.ins x (Norm.order p) ++ _;rw [Ys hd p q,Ahn hd]
theorem Abq {d:Int} (hd:Br d=true) (p q:List Int):Norm.down false (p ++ d::q)=Norm.down false p ++ d::Norm.down false q:=by
 unfold Norm.down;rw [Norm.Gs,show d::q=[d] ++ q from rfl,Norm.Gs,show Norm.split false [d]=[d] by unfold Norm.split;rw [jao,U7 hd];rfl];exact Ys hd _ _
theorem Vy {d:Int} (hd:Br d=true) (p q:List Int):Fold.fold (p ++ d::q)=Fold.fold p ++ d::Fold.fold q:=by
 unfold Fold.fold;rw [List.map_append,List.map_cons,Azv hd,Abq hd,Ab9 hd]
theorem Arf {d r:Int} (hd:Br d=true) (h:d ∈ Norm.pieces false r):r=d:=by
 rw [Norm.A9] at h;cases hs:Norm.syl r with
 | true =>
  rw [hs,if_pos rfl] at h;have:=(Norm.Hv d).1 (Norm.Nu hs d h);have:=Qg hd;omega
 | false =>
  cases ho:Ak r with
  | none=>rw [hs,ho] at h;exact (by simpa using h:d=r).symm
  | some y =>
   rcases Bi ho with ⟨h1,rfl⟩ | ⟨h1,hy⟩
   ·have h2:=(Ac2 y h1).2;rw [jar] at h2;rw [<- Norm.A9] at h;have:=h2 d h;rw [hd] at this;exact absurd this jD
   ·rw [hs,ho,hy] at h;exact (by simpa using h:d=r).symm
theorem Axa {p:List Int} {d:Int} (hd:Br d=true) (h:d ∈ Norm.join (Norm.down false p)):d ∈ p:=by
 have hs:=Norm.Ahv false (l:=Norm.down false p) (Norm.Pq false p);have h1:d ∈ Norm.split false (Norm.join (Norm.down false p)):=by
  unfold Norm.split
  exact List.mem_flatMap.2 ⟨d,h,by rw [U7 hd];simp⟩
 have h2:=(Norm.Apv hs d).1 h1;obtain ⟨r,hr,hp⟩:=Norm.Q4 false p d h2;rwa [<- Arf hd hp]
end Wall
end
section
open Go.RowKit Utf
namespace Dom
def Cb (x:Int):Bool:=x == 46 || x == 12290
theorem Aq4 {d:Int} (h:Cb d=true):d=46\/d=12290:=by
 unfold Cb at h;simpa using h
theorem Sj {d:Int} (h:Cb d=true):Wall.Br d=true:=by rcases Aq4 h with rfl | rfl<;>decide
theorem Vy {d:Int} (hd:Cb d=true) (p q:List Int):Fold.fold (p ++ d::q)=Fold.fold p ++ d::Fold.fold q:=Wall.Vy (Sj hd) p q
theorem Ahc (p q:List Int):Fold.fold (p ++ 46::q)=Fold.fold p ++ 46::Fold.fold q:=Vy jD p q
def cut:List Int->List (List Int)
 | []=>[[]]
 | x::l=>if Cb x then []::cut l else match cut l with | []=>[[x]] | h::t=>(x::h)::t
theorem Fl (l:List Int):∃ h t,cut l=h::t:=by
 cases l with
 | nil=>exact ⟨_,_,rfl⟩
 | cons x l =>
  unfold cut;split
  ·exact ⟨_,_,rfl⟩
  ·split
   · exact ⟨_,_,rfl⟩
   · exact ⟨_,_,rfl⟩
theorem Aec:∀ p q:List Int,cut (p ++ 46::q)=cut p ++ cut q
 | [],q=>by
  show cut (46::q)=[[]] ++ cut q;rw [cut,if_pos jD];rfl
 | x::p,q=>by
  show cut (x::(p ++ 46::q))=_;rw [cut,cut,Aec p q];split
  ·rfl
  ·obtain ⟨h,t,e⟩:=Fl p;rw [e];rfl
theorem Xb:∀ {l:List Int},(∀ x ∈ l,Cb x=false)->cut l=[l]
 | [],_=>rfl
 | x::l,h=>by
  rw [cut,if_neg (by rw [h x jS];decide),Xb (λy hy=>h y (by simp [hy]))]
theorem Azk {l:List Int} (h:(cut l).length=1):cut l=[l]:=by
 induction l with
 | nil=>rfl
 | cons x l ih =>
  rw [cut] at h ⊢;obtain ⟨a,t,e⟩:=Fl l;by_cases hx:Cb x=true
  ·rw [if_pos hx,e] at h;simp at h
  ·rw [if_neg hx] at h ⊢;rw [e] at h ih ⊢;simp only [jac,Nat.add_eq_right,List.length_eq_zero_iff] at h;subst h;have:=ih rfl;injection this with h1
   subst h1;rfl
def Cr:List (List Int)->List Int
 | []=>[]
 | [x]=>x
 | x::y::t=>x ++ 46::Cr (y::t)
theorem Ago:∀ {ps:List (List Int)},ps ≠ []->(∀ p ∈ ps,∀ x ∈ p,Cb x=false)->cut (Cr ps)=ps
 | [],h,_=>absurd rfl h
 | [x],_,h=>Xb (h x jS)
 | x::y::t,_,h=>by
  show cut (x ++ 46::Cr (y::t))=_;rw [Aec,Xb (h x jS),Ago jS (λp hp=>h p (by simp only [jal] at hp ⊢;exact .inr hp))];rfl
theorem Ab2:∀ {ps:List (List Int)},(∀ p ∈ ps,Fold.fold p=p)->Fold.fold (Cr ps)=Cr ps
 | [],_=>rfl
 | [x],h=>h x jS
 | x::y::t,h=>by
  show Fold.fold (x ++ 46::Cr (y::t))=_;rw [Ahc,h x jS,Ab2 (λp hp=>h p (by simp only [jal] at hp ⊢;exact .inr hp))];rfl
theorem Zb:∀ {ps:List (List Int)},(∀ p ∈ ps,Af p=true)->Af (Cr ps)=true
 | [],_=>rfl
 | [x],h=>h x jS
 | x::y::t,h=>by
  have h1:=h x jS;have h2:=Zb (ps:=y::t) (λp hp=>h p (by simp only [jal] at hp ⊢;exact .inr hp));show Af (x ++ 46::Cr (y::t))=true;unfold Af at h1 h2 ⊢;rw [List.all_append,h1,List.all_cons,h2];decide
theorem Ayb {d:Int} {A B p R:List Int} (h:A ++ d::B=p ++ d::R) (hA:d ∈ A->d ∈ p) (hp:d ∉ p):A=p/\B=R:=by
 have hlt:A.length=p.length:=by
  rcases Nat.lt_trichotomy A.length p.length with h1 | h1 | h1
  ·exfalso;have e:(A ++ d::B)[A.length]? = (p ++ d::R)[A.length]?:=by rw [h]
   rw [List.getElem?_append_right (jaa _),Nat.sub_self,List.getElem?_cons_zero,List.getElem?_append_left h1,List.getElem?_eq_getElem h1] at e;exact hp (by injection e with e;rw [e];exact List.getElem_mem h1)
  ·exact h1
  ·exfalso;have e:(A ++ d::B)[p.length]? = (p ++ d::R)[p.length]?:=by rw [h]
   rw [List.getElem?_append_left h1,List.getElem?_eq_getElem h1,List.getElem?_append_right (jaa _),Nat.sub_self,List.getElem?_cons_zero] at e;exact hp (hA (by injection e with e;rw [<- e];exact List.getElem_mem h1))
 obtain ⟨h1,h2⟩:=List.append_inj h hlt;exact ⟨h1,by injection h2⟩
theorem Abh:∀ l:List Int,((∀ x ∈ l,Cb x=false)/\cut l=[l])\/∃ p d R,Cb d=true/\l=p ++ d::R/\(∀ x ∈ p,Cb x=false)/\cut l=p::cut R
 | []=>.inl ⟨λx hx=>(by cases hx),rfl⟩
 | x::l=>by
  cases hx:Cb x with
  | true=>exact .inr ⟨[],x,l,hx,rfl,λy hy=>(by cases hy),by rw [cut,if_pos hx]⟩
  | false =>
   rcases Abh l with ⟨h1,h2⟩ | ⟨p,d,R,hd,rfl,h1,h2⟩
   · exact .inl ⟨λy hy=>(by
    rcases jal.1 hy with rfl | hy
    · exact hx
    · exact h1 y hy),by rw [cut,if_neg (by rw [hx];decide),h2]⟩
   · exact .inr ⟨x::p,d,R,hd,rfl,λy hy=>(by
    rcases jal.1 hy with rfl | hy
    · exact hx
    · exact h1 y hy),by rw [cut,if_neg (by rw [hx];decide),h2]⟩
theorem Avf (n:Nat):∀ L:List Int,L.length<=n->Norm.join (Norm.down false L)=L->(∀ c ∈ L,Fold.fo c=c)->∀ p ∈ cut L,Fold.fold p=p:=by
 induction n with
 | zero =>
  intro L hn _ _ p hp;obtain rfl:L=[]:=List.eq_nil_of_length_eq_zero jO;rw [List.mem_singleton.1 hp];rfl
 | succ n ih =>
  intro L hn hj hf p hp;have one:∀ q:List Int,Norm.join (Norm.down false q)=q->(∀ c ∈ q,Fold.fo c=c)->Fold.fold q=q:=λq h1 h2=>by
   unfold Fold.fold;rw [Fold.Wa h2];exact h1
  rcases Abh L with ⟨-,h⟩ | ⟨q,d,R,hd,rfl,hq,h⟩
  ·rw [h] at hp;rw [List.mem_singleton.1 hp];exact one L hj hf
  ·rw [Wall.Abq (Sj hd),Wall.Ab9 (Sj hd)] at hj;have hdq:d ∉ q:=λhm=>by rw [hq d hm] at hd;cases hd
   obtain ⟨e1,e2⟩:=Ayb hj (Wall.Axa (Sj hd)) hdq;rw [h] at hp;rcases jal.1 hp with rfl | hp
   ·exact one p e1 λc hc=>hf c (by simp [hc])
   ·refine ih R ?_ e2 (λc hc=>hf c (by simp [hc])) p hp;rw [jab,jac] at hn;omega
theorem Yx (l:List Int):∀ p ∈ cut (Fold.fold l),Fold.fold p=p :=
 Avf _ _ (jaa _) (Fold.Aw9 l) (Fold.Re l)
end Dom
end
section
open Go.RowKit Utf
namespace Dom
theorem Lk {x:Int} (hx:Cb x=true):∀ l:List Int,cut (l ++ [x])=cut l ++ [[]]
 | []=>by
  show cut [x]=[[]] ++ [[]]
  rw [cut,if_pos hx];rfl
 | y::l=>by
  show cut (y::(l ++ [x]))=_;rw [cut,cut,Lk hx l];split
  ·rfl
  ·obtain ⟨a,t,e⟩:=Fl l;rw [e];rfl
theorem Xc {x:Int} (hx:Cb x=false):∀ (l:List Int) (q:Nat),(cut l).length=q+1->cut (l ++ [x])=(cut l).set q ((cut l)[q]! ++ [x])
 | [],q,h=>by
  obtain rfl:q=0:=by have:(1:Nat)=q+1:=h;omega
  show cut [x]=[[x]]
  rw [cut,if_neg (by rw [hx];decide)];rfl
 | y::l,q,h=>by
  show cut (y::(l ++ [x]))=_;rw [cut] at h ⊢;rw [cut];obtain ⟨a,t,e⟩:=Fl l;by_cases hy:Cb y=true
  ·rw [if_pos hy] at h;rw [if_pos hy,if_pos hy];obtain ⟨q',rfl⟩:∃ q',q=q'+1:=by
    cases q with
    | zero=>rw [e] at h;simp at h
    | succ q'=>exact ⟨q',rfl⟩
   rw [Xc hx l q' (by simpa using h)];rfl
  ·rw [if_neg hy] at h;rw [if_neg hy,if_neg hy];rw [e] at h;have ih:=Xc hx l q (by rw [e];simpa using h);rw [ih,e];cases q with
   | zero=>rfl
   | succ q'=>rfl
theorem get_at (A X:List UInt8) (j:Nat):(⟨(A ++ X).toArray⟩:ByteArray).get! (A.length+j)=X.getD j 0:=by
 show (A ++ X).toArray[A.length+j]! = _;by_cases h:j<X.length
 ·rw [getElem!_pos _ _ (by simp;omega)];simp [List.getElem_append_right,List.getD,h]
 ·rw [getElem!_neg _ _ (by simp;omega)];simp [List.getD,h];rfl
theorem Alc (A B:List UInt8) (r:Nat) (h:right r=true):Utf8.decode ⟨(A ++ (enc r ++ B)).toArray⟩ A.length=(r,(enc r).length):=by
 rw [Dj] at h;have g0:=get_at A (enc r ++ B) 0;rw [Nat.add_zero] at g0;rw [Lib.decode_at,g0,get_at,get_at,get_at];have hs:(⟨(A ++ (enc r ++ B)).toArray⟩:ByteArray).size - A.length=(enc r).length+B.length:=by
  show (A ++ (enc r ++ B)).toArray.size - A.length=_;simp
 rw [hs];unfold enc;by_cases h1:r<128
 ·rw [if_pos h1];simp only [jah,List.nil_append,List.getD_cons_zero,Ba (show r<256 by omega),jac,List.length_nil];unfold Lib.decodeN;rw [if_pos h1]
 rw [if_neg h1];by_cases h2:r<2048
 ·rw [if_pos h2];simp only [jah,List.nil_append,List.getD_cons_zero,List.getD_cons_succ,Ba (show 192+r / 64<256 by omega),Ba (show 128+r % 64<256 by omega),jac,List.length_nil];unfold Lib.decodeN;rw [if_neg jO,if_pos jO,if_pos jO];congr 1;omega
 rw [if_neg h2];by_cases h3:r<65536
 ·rw [if_pos h3];simp only [jah,List.nil_append,List.getD_cons_zero,List.getD_cons_succ,Ba (show 224+r / 4096<256 by omega),Ba (show 128+r / 64 % 64<256 by omega),Ba (show 128+r % 64<256 by omega),jac,List.length_nil];unfold Lib.decodeN;rw [if_neg jO,if_neg jO,if_pos jO,if_pos jO];congr 1;omega
 rw [if_neg h3];simp only [jah,List.nil_append,List.getD_cons_zero,List.getD_cons_succ,Ba (show 240+r / 262144<256 by omega),Ba (show 128+r / 4096 % 64<256 by omega),Ba (show 128+r / 64 % 64<256 by omega),Ba (show 128+r % 64<256 by omega),jac,List.length_nil];unfold Lib.decodeN;rw [if_neg jO,if_neg jO,if_neg jO,if_pos jO,if_pos jO];congr 1;omega
theorem M6 (a b:List Int):Ah (a ++ b)=Ah a ++ Ah b:=by unfold Ah;exact List.flatMap_append
theorem Acz {L:List Int} (h:Af L=true) {k:Nat} (hk:k<L.length):0<=L[k]!/\right (L[k]!).toNat=true:=by
 unfold Af at h;rw [jar] at h;have h2:=h _ (List.getElem_mem hk);rw [getElem!_pos L k hk];unfold Ai at h2;rw [jag,decide_eq_true_eq] at h2;exact h2
theorem Zl {L:List Int} {k:Nat} (hk:k<L.length):L=L.take k ++ L[k]!::L.drop (k+1):=by
 rw [getElem!_pos L k hk];exact (List.take_append_drop k L).symm.trans (by rw [List.drop_eq_getElem_cons hk])
def at_ (L:List Int) (k:Nat):Nat:=(Ah (L.take k)).length
theorem Aoo {L:List Int} {k:Nat} (hk:k<L.length):at_ L (k+1)=at_ L k+(enc (L[k]!).toNat).length:=by
 unfold at_
 rw [show L.take (k+1)=L.take k ++ [L[k]!] by rw [List.take_add_one,List.getElem?_eq_getElem hk,getElem!_pos L k hk];rfl,Ob,jab]
theorem A1n (L:List Int):at_ L L.length=(Ah L).length:=by unfold at_;rw [List.take_length]
theorem Lo (r:Nat):1<=(enc r).length:=by unfold enc;split<;>(try split)<;>(try split)<;>simp
theorem Azr (r:Nat):(enc r).length<=4:=by unfold enc;split<;>(try split)<;>(try split)<;>simp
theorem A2j {L:List Int} {k:Nat} (hk:k<L.length):at_ L k+(enc (L[k]!).toNat).length<=(Ah L).length:=by
 have e:=congrArg Ah (Zl hk);rw [M6,show L[k]!::L.drop (k+1)=[L[k]!] ++ L.drop (k+1) from rfl,M6,show Ah [L[k]!]=enc (L[k]!).toNat by simp [Ah]] at e;have:=congrArg List.length e;rw [jab,jab] at this;unfold at_
 omega
theorem A0s {L:List Int} (h:Af L=true) {k:Nat} (hk:k<L.length):Utf8.decode ⟨(Ah L).toArray⟩ (at_ L k)=((L[k]!).toNat,(enc (L[k]!).toNat).length):=by
 have e:=congrArg Ah (Zl hk);rw [M6,show L[k]!::L.drop (k+1)=[L[k]!] ++ L.drop (k+1) from rfl,M6,show Ah [L[k]!]=enc (L[k]!).toNat by simp [Ah]] at e;rw [e];exact Alc _ _ _ (Acz h hk).2
theorem Agq {d:Int} (hd:Cb d=true):∀ p R:List Int,cut (p ++ d::R)=cut p ++ cut R
 | [],R=>by
  show cut (d::R)=[[]] ++ cut R;rw [cut,if_pos hd];rfl
 | y::p,R=>by
  show cut (y::(p ++ d::R))=_;rw [cut,cut,Agq hd p R];split
  ·rfl
  ·obtain ⟨a,t,e⟩:=Fl p;rw [e];rfl
def Ie (L:List Int) (k q b:Nat):Prop:=(cut (L.take k)).length=q+1/\∃ A,Ah (L.take k)=A ++ Ah (cut (L.take k))[q]!/\A.length=b
def gone (L:List Int) (k q:Nat):List (List UInt8):=((cut (L.take k)).take q).map Ah
theorem A1p (L:List Int):Ie L 0 0 0:=⟨rfl,[],rfl,rfl⟩
theorem Ahi {L:List Int} {k q b:Nat} (h:Ie L k q b):(gone L k q).length=q:=by unfold gone;rw [jai,jak,h.1];omega
theorem Azh {L:List Int} {k q b:Nat} (h:Ie L k q b):b<=at_ L k:=by obtain ⟨-,A,e,rfl⟩:=h;unfold at_;rw [e,jab];omega
theorem Agp:∀ l:List Int,(cut l).length<=l.length+1
 | []=>jaa _
 | x::l=>by
  have ih:=Agp l;rw [cut];obtain ⟨a,t,e⟩:=Fl l;rw [e] at ih ⊢;split
  · simp at ih ⊢;omega
  · simp at ih ⊢;omega
theorem Avd {L:List Int} {k q b:Nat} (h:Ie L k q b):q<=k:=by have:=Agp (L.take k);rw [h.1,jak] at this;omega
theorem take_one {L:List Int} {k:Nat} (hk:k<L.length):L.take (k+1)=L.take k ++ [L[k]!]:=by rw [List.take_add_one,List.getElem?_eq_getElem hk,getElem!_pos L k hk];rfl
theorem Azi {L:List Int} {k q b:Nat} (h:Ie L k q b) (hk:k<L.length) (hd:Cb L[k]! = false):Ie L (k+1) q b/\gone L (k+1) q=gone L k q:=by
 obtain ⟨hq,A,e,rfl⟩:=h;have hc:=Xc hd (L.take k) q hq;have hql:q<(cut (L.take k)).length:=jO
 refine ⟨⟨?_,A,?_,rfl⟩,?_⟩
 ·rw [take_one hk,hc,List.length_set];exact hq
 ·rw [take_one hk,hc,getElem!_pos _ q (by rw [List.length_set];exact hql),List.getElem_set_self,Ob,e,Ob,jaq]
 ·unfold gone;rw [take_one hk,hc,List.take_set_of_le (jaa q)]
theorem Agm {L:List Int} {k q b:Nat} (h:Ie L k q b) (hk:k<L.length) (hd:Cb L[k]! = true):Ie L (k+1) (q+1) (at_ L k+(enc (L[k]!).toNat).length)/\gone L (k+1) (q+1)=gone L k q ++ [Ah (cut (L.take k))[q]!]:=by
 obtain ⟨hq,A,e,rfl⟩:=h;have hc:=Lk hd (L.take k);have hql:q<(cut (L.take k)).length:=jO
 refine ⟨⟨?_,Ah (L.take (k+1)),?_,Aoo hk⟩,?_⟩
 ·rw [take_one hk,hc,jab,hq];rfl
 ·rw [take_one hk,hc,getElem!_pos _ (q+1) (by rw [jab,hq];simp),List.getElem_append_right jO];simp [hq,Ah]
 ·unfold gone;rw [take_one hk,hc,List.take_append_of_le_length jO,show q+1=q+1 from rfl,List.take_add_one,List.getElem?_eq_getElem hql,getElem!_pos _ q hql,List.map_append];rfl
theorem Awa {L:List Int} {k q b:Nat} (h:Ie L k q b) (hk:k<L.length) (hd:Cb L[k]! = true):gone L k q ++ [Ah (cut (L.take k))[q]!] <+: (cut L).map Ah:=by
 rw [<- (Agm h hk hd).2];refine ⟨(cut (L.drop (k+1))).map Ah,?_⟩;have e:cut L=cut (L.take k) ++ cut (L.drop (k+1)):=by
  have:=Agq hd (L.take k) (L.drop (k+1));rw [<- Zl hk] at this;exact this
 unfold gone;rw [e,List.map_append,take_one hk,Lk hd,List.take_append_of_le_length (by rw [h.1];omega),List.take_of_length_le (by rw [h.1];omega)]
theorem Awb {L:List Int} {q b:Nat} (h:Ie L L.length q b):gone L L.length q ++ [Ah (cut L)[q]!]=(cut L).map Ah:=by
 obtain ⟨hq,-⟩:=h;unfold gone;rw [List.take_length] at hq ⊢;have hql:q<(cut L).length:=jO
 have:cut L=(cut L).take q ++ [(cut L)[q]!]:=by
  rw [getElem!_pos _ q hql];have:=List.take_add_one (l:=cut L) (i:=q);rw [List.take_of_length_le jO,List.getElem?_eq_getElem hql] at this;exact this
 exact (by rw [List.map_append];rfl:((cut L).take q).map Ah ++ [Ah (cut L)[q]!]=((cut L).take q ++ [(cut L)[q]!]).map Ah).trans (congrArg _ this.symm)
theorem Apr {L:List Int} {k q b:Nat} (h:Ie L k q b):(⟨(Ah L).toArray⟩:ByteArray).extract b (at_ L k)=⟨(Ah (cut (L.take k))[q]!).toArray⟩:=by
 obtain ⟨hq,A,e,rfl⟩:=h;have e2:Ah L=Ah (L.take k) ++ Ah (L.drop k):=by rw [<- M6,List.take_append_drop]
 have ha:at_ L k=A.length+(Ah (cut (L.take k))[q]!).length:=by unfold at_;rw [e,jab]
 apply ByteArray.ext;rw [ByteArray.data_extract,e2,e,ha];simp
end Dom
end
section
open Go.RowKit Utf
namespace Lab
theorem Q3:Ca 46=false/\Ca 12290=false/\Ctx.Cg 46=false/\Ctx.Cg 12290=false:=by decide +kernel
theorem An8 {l:List Int} (h:Em l=0):∀ x ∈ l,Dom.Cb x=false:=by
 have hb:Gt l=false:=by
  unfold Em at h;split at h
  ·omega
  ·split at h
   ·omega
   ·split at h
    ·omega
    ·split at h
     ·omega
     ·rename_i h4
      simpa using h4
 intro x hx;obtain ⟨k,hk,rfl⟩:=List.getElem_of_mem hx;unfold Gt at hb;rw [List.any_eq_false] at hb;have h1:=hb k (List.mem_range.2 hk);rw [Bool.or_eq_true,not_or,getElem!_pos l k hk] at h1;cases hd:Dom.Cb l[k] with
 | false=>rfl
 | true =>
  exfalso;have hc:Ca l[k]=false/\Ctx.Cg l[k]=false:=by
   unfold Dom.Cb at hd;simp only [Bool.or_eq_true,beq_iff_eq] at hd;rcases hd with e | e<;>rw [e]
   ·exact ⟨Q3.1,Q3.2.2.1⟩
   ·exact ⟨Q3.2.1,Q3.2.2.2⟩
  refine h1.2 ?_;rw [Ctx.Is hk,getElem!_pos l k hk,hc.1,hc.2];rfl
theorem Alr {l:List Int} (h:Af l=true) (hd:∀ x ∈ l,Dom.Cb x=false):∀ c ∈ Puny.Bk l,c.toNat ≠ 46:=by
 have hp:∀ x ∈ l,0<=x:=λx hx=>by
  have:=jar.1 (show l.all Ai=true from h) x hx;have:=(Al x).1 this;omega
 intro c hc;unfold Puny.Bk at hc;rcases jap.1 hc with hc | hc
 ·rcases jap.1 hc with hc | hc
  ·unfold Puny.Bg at hc;obtain ⟨x,hx,rfl⟩:=List.mem_map.1 hc;have hm:x ∈ l/\x<128:=by
    unfold Puny.lt at hx;have:=List.mem_filter.1 hx;exact ⟨this.1,by simpa using this.2⟩
   show (u x.toNat).toNat ≠ 46;rw [Ba (by have:=hp x hm.1;omega)];intro e;have hx46:x=46:=by have:=hp x hm.1;omega
   have:=hd x hm.1;rw [hx46] at this;exact absurd this jD
  ·unfold Puny.Kk at hc;split at hc
   ·cases hc
   ·rw [List.mem_singleton.1 hc];decide
 ·unfold Puny.Cv at hc;obtain ⟨x,hx,rfl⟩:=List.mem_map.1 hc;obtain ⟨h0,h1⟩:=Puny.Ln _ _ _ _ (Puny.Gx (Eo h)) x hx;have:∀ i:Nat,i<36->(Puny.Jo (i:Int)).toNat ≠ 46:=by decide +kernel
  have:=this x.toNat jO;rwa [show ((x.toNat:Nat):Int)=x by omega] at this
theorem clean {L:List Int} (hr:Af L=true) (hf:Fold.fold L=L) {a u:List UInt8} (h:D9 L=(0,a,u)) :
  ∃
   U:List Int,u=Ah U/\Af U=true/\Fold.fold U=U/\D9 U=(0,a,u)/\(∀ c ∈ a,c.toNat<128)/\Fold.fold (chars a)=chars a/\D9 (chars a)=(0,a,u)/\0<a.length/\a.length<=63 /\
   U.length<=a.length/\(∀ x ∈ U,Dom.Cb x=false)/\(∀ x ∈ chars a,Dom.Cb x=false):=by
 obtain ⟨U,hu,rU,fU,-,bU,aA,fA,bA,l0,l1⟩:=back hr hf h;have hA:(∀ c ∈ a,c.toNat ≠ 46)->∀ x ∈ chars a,Dom.Cb x=false:=λhn x hx=>by
  obtain ⟨c,hc,rfl⟩:=List.mem_map.1 hx;have h1:=hn c hc;have h2:=aA c hc;unfold Dom.Cb;rw [beq_eq_false_iff_ne.2 (show ((c.toNat:Nat):Int) ≠ 46 by omega),beq_eq_false_iff_ne.2 (show ((c.toNat:Nat):Int) ≠ 12290 by omega)];rfl
 have hb:=bU;unfold D9 at hb;by_cases h1:Eg (Ah U)=false
 ·rw [if_pos h1] at hb;by_cases h2:Em U=0
  ·rw [if_pos h2] at hb;injection hb with e1 e2
   injection e2 with e2 e3
   have hge:=Alu rU;have hnd:=An8 h2;refine ⟨U,hu,rU,fU,bU,aA,fA,bA,l0,l1,by rw [<- e2,jab];omega,hnd,hA λc hc=>?_⟩;rw [<- e2] at hc;rcases jap.1 hc with hc | hc
   ·exact (by decide:∀ c ∈ sign,c.toNat ≠ 46) c hc
   ·exact Alr rU hnd c hc
  ·rw [if_neg h2] at hb;injection hb with e1 e2
   exact absurd e1 h2
 ·rw [if_neg h1] at hb;have haU:∀ c ∈ Ah U,c.toNat<128:=F1.1 (by simpa using h1);have hch:chars (Ah U)=U:=Jg (Eb haU) rU (En _ haU);by_cases h3:(Ah U).take 4=sign
  ·exfalso;rw [if_pos h3] at hb;cases hd:Puny.Hq ((Ah U).drop 4) with
   | none=>rw [hd] at hb;simp only at hb;injection hb with e1 e2;exact absurd e1 jD
   | some l =>
    rw [hd] at hb;simp only at hb;split at hb
    ·injection hb with e1 e2;exact absurd e1 jD
    ·split at hb
     ·rename_i h5;injection hb with e1 e2;exact h5 e1
     ·rename_i h5
      split at hb
      ·injection hb with e1 e2;exact absurd e1 jD
      ·injection hb with e1 e2
       injection e2 with e2 e3
       rw [Decidable.not_not] at h5;have R:=Nl h5;have:=R.wide;rw [e3,hu] at this;exact h1 this
  ·rw [if_neg h3] at hb;by_cases h4:Fy (Ah U)=0
   ·rw [if_pos h4] at hb;injection hb with e1 e2
    injection e2 with e2 e3
    have hp:=(Asy (Ah U)).1 h4;have hn:∀ c ∈ Ah U,c.toNat ≠ 46:=λc hc=>by
     obtain ⟨k,hk,rfl⟩:=List.getElem_of_mem hc;have:=hp.2.2 k hk;unfold Tx at this;rw [Iw hk] at this;intro e;rw [e] at this
     revert this
     have:Bidi.Bw ((46:Nat):Int)=false:=by decide
     rw [this];simp
    refine ⟨U,hu,rU,fU,bU,aA,fA,bA,l0,l1,?_,?_,hA (by rw [<- e2];exact hn)⟩
    ·rw [<- e2];have:=congrArg List.length hch;unfold chars at this;rw [jai] at this;omega
    ·have:=hA (by rw [<- e2];exact hn);rw [<- e2,hch] at this;exact this
   ·rw [if_neg h4] at hb;injection hb with e1 e2
    exact absurd e1 h4
end Lab
namespace Dom
def Cp:List (List UInt8)->List UInt8
 | []=>[]
 | [x]=>x
 | x::y::t=>x ++ 46::Cp (y::t)
theorem Ao0 (x y:List Int):Ah (x ++ 46::y)=Ah x ++ 46::Ah y:=by
 unfold Ah;rw [List.flatMap_append,jao,show enc (46:Int).toNat=[46] by decide];rfl
theorem Xj:∀ ps:List (List Int),Ah (Cr ps)=Cp (ps.map Ah)
 | []=>rfl
 | [x]=>rfl
 | x::y::t=>by
  show Ah (x ++ 46::Cr (y::t))=Ah x ++ 46::Cp ((y::t).map Ah);rw [Ao0,Xj (y::t)]
def Df (bs:List UInt8):Int × List (List Int) :=
 if (Aq bs).2=-1 then
  (if Fold.fold (ints (Aq bs).1)=[] then (13,[]) else if 32<(cut (Fold.fold (ints (Aq bs).1))).length then (2,[]) else (0,cut (Fold.fold (ints (Aq bs).1))))
 else (7,[])
def Db (p:List Int):Int:=(Lab.Da (Ah p)).1
def Ap (p:List Int):List UInt8:=(Lab.Da (Ah p)).2.1
def Cj (p:List Int):List UInt8:=(Lab.Da (Ah p)).2.2
def Fp (ps:List (List Int)):Int × List UInt8 × List UInt8 :=
 match ps.find? (λp=>Db p != 0) with
 | some p=>(Db p,[],[])
 | none=>if 253<(Cp (ps.map Ap)).length then (5,[],[]) else (0,Cp (ps.map Ap),Cp (ps.map Cj))
def Eh (bs:List UInt8):Int × List UInt8 × List UInt8:=if (Df bs).1=0 then Fp (Df bs).2 else ((Df bs).1,[],[])
theorem Apm {bs a u:List UInt8} {E:Int} (h:Eh bs=(E,a,u)) (hE:E ≠ 0):a=[]/\u=[]:=by
 unfold Eh at h;split at h
 ·unfold Fp at h;split at h
  ·injection h with e1 e2;injection e2 with e2 e3;exact ⟨e2.symm,e3.symm⟩
  ·split at h
   · injection h with e1 e2;injection e2 with e2 e3;exact ⟨e2.symm,e3.symm⟩
   · injection h with e1 e2;exact absurd e1.symm hE
 ·injection h with e1 e2;injection e2 with e2 e3;exact ⟨e2.symm,e3.symm⟩
theorem Ya {l:List Int} (h:Af l=true):Df (Ah l)=if Fold.fold l=[] then (13,[]) else if 32<(cut (Fold.fold l)).length then (2,[]) else (0,cut (Fold.fold l)):=by
 unfold Df;rw [Gp h,if_pos rfl,(D5 h).1]
theorem N9:∀ {l:List Int},Af l=true->∀ p ∈ cut l,Af p=true
 | [],_,p,hp=>by rw [List.mem_singleton.1 hp];rfl
 | x::l,h,p,hp=>by
  have h2:Ai x=true/\Af l=true:=by unfold Af at h ⊢;simpa using h
  have ih:=N9 h2.2;rw [cut] at hp;obtain ⟨a,t,e⟩:=Fl l;rw [e] at ih hp;split at hp
  ·rcases jal.1 hp with rfl | hp
   ·rfl
   ·exact ih p hp
  ·rcases jal.1 hp with rfl | hp
   ·have:=ih a jS;unfold Af at this ⊢;rw [List.all_cons,h2.1,this];rfl
   ·exact ih p (by simp [hp])
theorem Aov:∀ l:List Int,∀ p ∈ cut l,p.length<=l.length
 | [],p,hp=>by rw [List.mem_singleton.1 hp];exact jaa _
 | x::l,p,hp=>by
  have ih:=Aov l;rw [cut] at hp;obtain ⟨a,t,e⟩:=Fl l;rw [e] at ih hp;split at hp
  ·rcases jal.1 hp with rfl | hp
   · simp
   · have:=ih p hp;simp only [jac];omega
  ·rcases jal.1 hp with rfl | hp
   · have:=ih a jS;simp only [jac];omega
   · have:=ih p (by simp [hp]);simp only [jac];omega
theorem Vv {bs a u:List UInt8} (h:Eh bs=(0,a,u)):∃ l:List Int,Af l=true/\bs=Ah l/\Fold.fold l ≠ []/\(cut (Fold.fold l)).length<=32/\(∀ p ∈ cut (Fold.fold l),Db p=0)/\a=Cp ((cut (Fold.fold l)).map Ap)/\u=Cp ((cut (Fold.fold l)).map Cj)/\a.length<=253:=by
 unfold Eh at h;by_cases hl:(Df bs).1=0
 ·rw [if_pos hl] at h;unfold Df at hl h;by_cases hz:(Aq bs).2=-1
  ·obtain ⟨h1,h2⟩:=Lab.Pb hz;rw [if_pos hz] at hl h;generalize ints (Aq bs).1=l at hl h h1 h2;by_cases h3:Fold.fold l=[]
   ·rw [if_pos h3] at hl;exact absurd hl jD
   ·rw [if_neg h3] at hl h;by_cases h4:32<(cut (Fold.fold l)).length
    ·rw [if_pos h4] at hl;exact absurd hl jD
    ·rw [if_neg h4] at h;unfold Fp at h;simp only at h;cases hf:(cut (Fold.fold l)).find? (λp=>Db p != 0) with
     | some p =>
      rw [hf] at h;simp only at h;injection h with e1 e2
      have:=List.find?_some hf;rw [e1] at this;exact absurd this jD
     | none =>
      rw [hf] at h;simp only at h;by_cases h5:253<(Cp ((cut (Fold.fold l)).map Ap)).length
      ·rw [if_pos h5] at h;injection h with e1 e2;exact absurd e1 jD
      ·rw [if_neg h5] at h;injection h with e1 e2
       injection e2 with e2 e3
       refine ⟨l,h1,h2,h3,by omega,λp hp=>?_,e2.symm,e3.symm,by rw [<- e2];omega⟩;have:=List.find?_eq_none.1 hf p hp;simpa using this
  ·rw [if_neg hz] at hl;exact absurd hl jD
 ·rw [if_neg hl] at h;injection h with e1 e2
  exact absurd e1 hl
theorem Aop {l:List Int} (hr:Af l=true) (h0:Fold.fold l ≠ []) (h1:(cut (Fold.fold l)).length<=32) (h2:∀ p ∈ cut (Fold.fold l),Db p=0) :
  Eh (Ah l)=if 253<(Cp ((cut (Fold.fold l)).map Ap)).length then (5,[],[]) else (0,Cp ((cut (Fold.fold l)).map Ap),Cp ((cut (Fold.fold l)).map Cj)):=by
 have hf:(cut (Fold.fold l)).find? (λp=>Db p != 0)=none:=by
  rw [List.find?_eq_none];intro p hp;rw [h2 p hp];decide
 unfold Eh Fp;rw [Ya hr,if_neg h0,if_neg (show ¬ 32<(cut (Fold.fold l)).length by omega)];simp only;rw [if_pos trivial,hf]
def Ia (p:List Int):List Int:=ints (Aq (Cj p)).1
theorem Ah0 {p:List Int} (hr:Af p=true) (h:Db p=0):Cj p=Ah (Ia p)/\Af (Ia p)=true/\Fold.fold (Ia p)=Ia p/\(Ia p).length<=(Ap p).length/\(∀ x ∈ Ia p,Cb x=false)/\Db (Ia p)=0/\Ap (Ia p)=Ap p/\Cj (Ia p)=Cj p /\
  0<(Ap p).length/\(∀ c ∈ Ap p,c.toNat<128)/\Fold.fold (Lab.chars (Ap p))=Lab.chars (Ap p)/\(∀ x ∈ Lab.chars (Ap p),Cb x=false)/\Db (Lab.chars (Ap p))=0/\Ap (Lab.chars (Ap p))=Ap p/\Cj (Lab.chars (Ap p))=Cj p:=by
 have hb:Lab.D9 (Fold.fold p)=(0,Ap p,Cj p):=by
  rw [<- Lab.Fa hr,<- h];rfl
 obtain ⟨U,hu,rU,fU,bU,aA,fA,bA,l0,-,hlen,hd,hda⟩:=Lab.clean (Ds hr) (Fold.I6 p) hb;have e:Ia p=U:=by
  unfold Ia;rw [hu,Gp rU];exact (D5 rU).1
 rw [e];have h1:Lab.Da (Ah U)=(0,Ap p,Cj p):=by rw [Lab.Fa rU,fU];exact bU
 have h2:Lab.Da (Ah (Lab.chars (Ap p)))=(0,Ap p,Cj p):=by rw [Lab.Fa (Lab.Eb aA),fA];exact bA
 exact ⟨hu,rU,fU,hlen,hd,by unfold Db;rw [h1],by show (Lab.Da (Ah U)).2.1=_;rw [h1],by show (Lab.Da (Ah U)).2.2=_;rw [h1],l0,aA,fA,hda,by unfold Db;rw [h2],by show (Lab.Da (Ah (Lab.chars (Ap p)))).2.1=_;rw [h2],by show (Lab.Da (Ah (Lab.chars (Ap p)))).2.2=_;rw [h2]⟩
theorem Azp:∀ {ps:List (List Int)},ps ≠ []->(∀ p ∈ ps,p ≠ [])->Cr ps ≠ []
 | [],h,_=>absurd rfl h
 | [x],_,h=>h x jS
 | x::y::t,_,_=>by
  show x ++ 46::Cr (y::t) ≠ [];simp
theorem Agz:∀ (ps:List (List Int)) (f:List Int->List UInt8),(∀ p ∈ ps,p.length<=(f p).length)->(Cr ps).length<=(Cp (ps.map f)).length
 | [],_,_=>jaa _
 | [x],f,h=>h x jS
 | x::y::t,f,h=>by
  have h1:=h x jS;have h2:=Agz (y::t) f (λp hp=>h p (by simp only [jal] at hp ⊢;exact .inr hp));show (x ++ 46::Cr (y::t)).length<=(f x ++ 46::Cp ((y::t).map f)).length;rw [jab,jab,jac,jac];omega
theorem again {ps qs:List (List Int)} (f:List Int->List Int) (hq:qs=ps.map f) (hne:ps ≠ []) (hn:ps.length<=32) (hl:(Cp (ps.map Ap)).length<=253)
  (h:∀ p ∈ ps,Af (f p)=true/\Fold.fold (f p)=f p/\(∀ x ∈ f p,Cb x=false)/\f p ≠ []/\Db (f p)=0/\Ap (f p)=Ap p/\Cj (f p)=Cj p) :
  Af (Cr qs)=true/\Fold.fold (Cr qs)=Cr qs/\Eh (Ah (Cr qs))=(0,Cp (ps.map Ap),Cp (ps.map Cj)):=by
 subst hq;have hq1:∀ q ∈ ps.map f,∃ p ∈ ps,f p=q:=λq hq=>List.mem_map.1 hq;have r:Af (Cr (ps.map f))=true:=Zb λq hq=>by obtain ⟨p,hp,rfl⟩:=hq1 q hq;exact (h p hp).1
 have ff:Fold.fold (Cr (ps.map f))=Cr (ps.map f):=Ab2 λq hq=>by obtain ⟨p,hp,rfl⟩:=hq1 q hq;exact (h p hp).2.1
 have hne':ps.map f ≠ []:=by simpa using hne
 have hc:cut (Fold.fold (Cr (ps.map f)))=ps.map f:=by
  rw [ff];exact Ago hne' λq hq=>by obtain ⟨p,hp,rfl⟩:=hq1 q hq;exact (h p hp).2.2.1
 have ha:(ps.map f).map Ap=ps.map Ap:=by rw [List.map_map];exact List.map_congr_left λp hp=>(h p hp).2.2.2.2.2.1
 have hu:(ps.map f).map Cj=ps.map Cj:=by rw [List.map_map];exact List.map_congr_left λp hp=>(h p hp).2.2.2.2.2.2
 refine ⟨r,ff,?_⟩;rw [Aop r (by rw [ff];exact Azp hne' λq hq=>by obtain ⟨p,hp,rfl⟩:=hq1 q hq;exact (h p hp).2.2.2.1) (by rw [hc,jai];exact hn) (by rw [hc];intro q hq;obtain ⟨p,hp,rfl⟩:=hq1 q hq;exact (h p hp).2.2.2.2.1),hc,ha,hu,if_neg jO]
theorem back {bs a u:List UInt8} (h:Eh bs=(0,a,u)):∃ U A:List Int,u=Ah U/\Af U=true/\Fold.fold U=U/\U.length<=253/\Eh u=(0,a,u)/\a=Ah A/\Af A=true/\Fold.fold A=A/\A.length<=253/\Eh a=(0,a,u)/\Cd a=-1/\a.length<=253:=by
 obtain ⟨l,hr,rfl,h0,h1,h2,rfl,rfl,hlen⟩:=Vv h;obtain ⟨ps,hps⟩:∃ ps,cut (Fold.fold l)=ps:=⟨_,rfl⟩
 have hne:ps ≠ []:=by obtain ⟨a,t,e⟩:=Fl (Fold.fold l);rw [<- hps,e];simp
 have hrp:∀ p ∈ ps,Af p=true:=by rw [<- hps];exact N9 (Ds hr)
 rw [hps] at h1 h2 hlen ⊢;have lc:=λp hp=>Ah0 (hrp p hp) (h2 p hp);obtain ⟨r1,f1,b1⟩:=again Ia (qs:=ps.map Ia) rfl hne h1 hlen λp hp=>by
  obtain ⟨c1,c2,c3,c4,c5,c6,c7,c8,c9,-⟩:=lc p hp;refine ⟨c2,c3,c5,λe=>?_,c6,c7,c8⟩;rw [e] at c6;exact absurd c6 (by decide +kernel)
 obtain ⟨r2,f2,b2⟩:=again (λp=>Lab.chars (Ap p)) (qs:=ps.map λp=>Lab.chars (Ap p)) rfl hne h1 hlen λp hp=>by
  obtain ⟨-,-,-,-,-,-,-,-,c9,c10,c11,c12,c13,c14,c15⟩:=lc p hp;refine ⟨Lab.Eb c10,c11,c12,λe=>?_,c13,c14,c15⟩;have:=congrArg List.length e;unfold Lab.chars at this;rw [jai] at this;simp only [List.length_nil] at this;omega
 have eu:Ah (Cr (ps.map Ia))=Cp (ps.map Cj):=by
  rw [Xj,List.map_map];congr 1;exact List.map_congr_left λp hp=>(lc p hp).1.symm
 have ea:Ah (Cr (ps.map λp=>Lab.chars (Ap p)))=Cp (ps.map Ap):=by
  rw [Xj,List.map_map];congr 1;exact List.map_congr_left λp hp=>En _ (lc p hp).2.2.2.2.2.2.2.2.2.1
 have hA:∀ c ∈ Cp (ps.map Ap),c.toNat<128:=by
  have:∀ qs:List (List Int),(∀ p ∈ qs,∀ c ∈ Ap p,c.toNat<128)->∀ c ∈ Cp (qs.map Ap),c.toNat<128:=by
   intro qs;induction qs with
   | nil=>intro _ c hc;cases hc
   | cons x t ih =>
    intro h c hc;cases t with
    | nil=>exact h x jS c hc
    | cons y t =>
     have hc':c ∈ Ap x ++ 46::Cp ((y::t).map Ap):=hc;rcases jap.1 hc' with hc | hc
     ·exact h x jS c hc
     ·rcases jal.1 hc with rfl | hc
      ·decide
      ·exact ih (λp hp=>h p (by simp only [jal] at hp ⊢;exact .inr hp)) c hc
  exact this ps λp hp=>(lc p hp).2.2.2.2.2.2.2.2.2.1
 refine ⟨Cr (ps.map Ia),Cr (ps.map λp=>Lab.chars (Ap p)),eu.symm,r1,f1,?_,by rw [<- eu] at b1 ⊢;exact b1,ea.symm,r2,f2,?_,by rw [<- ea] at b2 ⊢;exact b2,?_,hlen⟩
 ·have:=Agz (ps.map Ia) Ap (λq hq=>by
   obtain ⟨p,hp,rfl⟩:=List.mem_map.1 hq;obtain ⟨-,-,-,c4,-,-,c7,-⟩:=lc p hp;rw [c7];exact c4)
  rw [List.map_map,show ps.map (Ap ∘ Ia)=ps.map Ap from List.map_congr_left λp hp=>(lc p hp).2.2.2.2.2.2.1] at this;omega
 ·have:=congrArg List.length ea;have h3:(Cr (ps.map λp=>Lab.chars (Ap p))).length<=(Ah (Cr (ps.map λp=>Lab.chars (Ap p)))).length:=by
   have:∀ x:List Int,x.length<=(Ah x).length:=by
    intro x;induction x with
    | nil=>exact jaa _
    | cons y x ih =>
     have:0<(enc y.toNat).length:=by
      unfold enc;split
      ·simp
      ·split
       · simp
       · split<;>simp
     unfold Ah at ih ⊢;rw [jao,jab,jac];omega
   exact this _
  omega
 ·rcases Lab.M5 (Cp (ps.map Ap)) with ⟨-,h⟩ | ⟨h,-⟩
  ·exact h
  ·rw [Lab.F1.2 hA] at h;cases h
theorem one {s:List UInt8} {L:List (List Int)} (h:Df s=(0,L)) (h1:L.length=1):Eh s=Lab.Da s:=by
 unfold Df at h;by_cases hz:(Aq s).2=-1
 ·obtain ⟨hr,he⟩:=Lab.Pb hz;rw [if_pos hz] at h;generalize ints (Aq s).1=l at h hr he;subst he;by_cases h3:Fold.fold l=[]
  ·rw [if_pos h3] at h;injection h with e1 e2;exact absurd e1 jD
  ·rw [if_neg h3] at h;by_cases h4:32<(cut (Fold.fold l)).length
   ·rw [if_pos h4] at h;injection h with e1 e2;exact absurd e1 jD
   ·rw [if_neg h4] at h;injection h with e1 e2
    subst e2;have hc:=Azk h1;have hb:Lab.Da (Ah (Fold.fold l))=Lab.Da (Ah l):=by rw [Lab.Fa (Ds hr),Lab.Fa hr,Fold.I6]
    obtain ⟨⟨E,A,V⟩,hE⟩:∃ z,Lab.Da (Ah l)=z:=⟨_,rfl⟩
    have ha:Db (Fold.fold l)=E/\Ap (Fold.fold l)=A/\Cj (Fold.fold l)=V:=by
     unfold Db Ap Cj;rw [hb,hE];exact ⟨rfl,rfl,rfl⟩
    by_cases hE0:E=0
    ·subst hE0;rw [Aop hr h3 jO (by rw [hc];intro p hp;rw [List.mem_singleton.1 hp];exact ha.1),hc];show (if 253<(Ap (Fold.fold l)).length then _ else ((0:Int),Ap (Fold.fold l),Cj (Fold.fold l)))=_;have hlen:A.length<=63:=by
      have hL:Lab.D9 (Fold.fold l)=(0,A,V):=by rw [<- Lab.Fa hr];exact hE
      obtain ⟨U,-,-,-,-,-,-,-,-,hl,-⟩:=Lab.clean (Ds hr) (Fold.I6 l) hL;exact hl
     rw [ha.2.1,ha.2.2,if_neg jO,hE]
    ·obtain ⟨rfl,rfl⟩:=Lab.Apm hE hE0;unfold Eh Fp;rw [Ya hr,if_neg h3,if_neg h4];simp only;rw [if_pos trivial,hc];have hfn:([Fold.fold l].find? λp=>Db p != 0)=some (Fold.fold l):=by
      rw [List.find?_cons_of_pos (by rw [ha.1];exact bne_iff_ne.2 hE0)]
     rw [hfn];simp only;rw [ha.1,hE]
 ·rw [if_neg hz] at h;injection h with e1 e2
  exact absurd e1 jD
end Dom
end
