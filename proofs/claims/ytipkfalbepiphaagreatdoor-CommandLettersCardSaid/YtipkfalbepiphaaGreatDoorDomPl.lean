import Derived.Test.YtipkfalbepiphaaGreatDoorLabFine
import Derived.Lib.DecodeN
namespace Go.Proofs.YtipkfalbepiphaaGreatDoor
section
open Go.RowKit Utf
namespace Wall
def Bz (x:Int):Bool:=(decide (0<=x) && decide (x<=47)) || (decide (58<=x) && decide (x<=64)) || (decide (91<=x) && decide (x<=96)) || (decide (123<=x) && decide (x<=127)) || x == 12290
theorem Asb {d:Int} (h:Bz d=true):d=12290\/∃ n:Nat,n<128/\d=n:=by
 unfold Bz at h;simp only [Bool.or_eq_true,jag,decide_eq_true_eq,beq_iff_eq] at h;by_cases e:d=12290
 · exact .inl e
 · exact .inr ⟨d.toNat,by omega,by omega⟩
theorem Q7 {d:Int} (h:Bz d=true):(0<=d/\d<=127)\/d=12290:=by
 rcases Asb h with h | ⟨n,h1,rfl⟩
 · exact .inr h
 · exact .inl jO
theorem Aec:∀ y ∈ splits,(y.soft=false->y.out=false->Bz y.one=false/\Bz y.two=false)/\(Norm.pieces false y.rune).all (λc=>!Bz c)=true:=by decide +kernel
def Aa0 (x:Int):Bool:=!Bz x || (Ad x == 0 && decide (Norm.pieces false x=[x]) && decide (Fold.fo x=x))
theorem Sz:(∀ n,n<128->Aa0 ((n:Nat):Int)=true)/\Aa0 12290=true:=by decide +kernel
theorem Aa1 {d:Int} (h:Bz d=true):Ad d=0/\Norm.pieces false d=[d]/\Fold.fo d=d:=by
 have:Aa0 d=true:=by
  rcases Asb h with rfl | ⟨n,h1,rfl⟩
  · exact Sz.2
  · exact Sz.1 n h1
 unfold Aa0 at this;rw [h] at this;simp only [Bool.not_true,Bool.false_or,jag,beq_iff_eq,decide_eq_true_eq] at this;exact ⟨this.1.1,this.1.2,this.2⟩
theorem Ya {d:Int} (h:Bz d=true):Ad d=0:=(Aa1 h).1
theorem V6 {d:Int} (h:Bz d=true):Norm.pieces false d=[d]:=(Aa1 h).2.1
theorem A3m {d:Int} (h:Bz d=true):Fold.fo d=d:=(Aa1 h).2.2
theorem Auw {a b:Int} (h:Bz a=true\/Bz b=true):Gv a b=none:=by
 cases hp:Gv a b with
 | none=>rfl
 | some z =>
  obtain ⟨y,hy,h1,h2,ho⟩:=F8 hp;obtain ⟨-,-,h4⟩:=Q5 hy ho;rcases Bn hy with ⟨h3,-⟩ | ⟨-,rfl⟩
  ·have:=(Aec y h3).1 h4 ho;rw [h1,h2] at this;rcases h with h | h
   · rw [h] at this;exact absurd this.1 jD
   · rw [h] at this;exact absurd this.2 jD
  ·cases ho
theorem Adt {a b:Int} (h:Bz a=true\/Bz b=true):Norm.D8 a b=none:=by
 have ha:Bz a=true->(0<=a/\a<=127)\/a=12290:=Q7;have hb:Bz b=true->(0<=b/\b<=127)\/b=12290:=Q7;unfold Norm.D8;rw [if_neg (by rcases h with h | h;have:=ha h;omega;have:=hb h;omega),if_neg (λe=>by
  have:=(Norm.Cp a).1 e.1;rcases h with h | h
  · have:=ha h;omega
  · have:=hb h;omega)]
 exact Auw h
theorem Awk {d:Int} (hd:Bz d=true) (S R:List Int) (c:Int):Norm.step (S ++ d::R) c=Norm.step S c ++ d::R:=by
 have h0:¬ 0<Ad d:=by rw [Ya hd];omega
 unfold Norm.step;rw [List.dropWhile_append,List.takeWhile_append];cases hdw:S.dropWhile (λy=>decide (0<Ad y)) with
 | nil =>
  have ht:S.takeWhile (λy=>decide (0<Ad y))=S:=by
   have:=List.takeWhile_append_dropWhile (p:=λy=>decide (0<Ad y)) (l:=S);rw [hdw,List.append_nil] at this;exact this
  rw [ht,if_pos rfl];simp only [List.isEmpty_nil,if_true,List.dropWhile_cons,h0,decide_false,Bool.false_eq_true,if_false,Adt (Or.inl hd)];split<;>rfl
 | cons s A =>
  have ht:¬ (S.takeWhile (λy=>decide (0<Ad y))).length=S.length:=by
   have:=congrArg List.length (List.takeWhile_append_dropWhile (p:=λy=>decide (0<Ad y)) (l:=S));rw [hdw,jab,jac] at this;omega
  rw [if_neg ht];simp only [List.isEmpty_cons,Bool.false_eq_true,if_false,jah];split
  ·split
   · rw [jaq];rfl
   · rfl
  ·rfl
theorem Awl {d:Int} (hd:Bz d=true) (R:List Int):Norm.step R d=d::R:=by
 unfold Norm.step;split
 ·rfl
 ·split
  · rw [Adt (Or.inr hd)]
  · rfl
theorem Aas {d:Int} (hd:Bz d=true):∀ (q S R:List Int),q.foldl Norm.step (S ++ d::R)=q.foldl Norm.step S ++ d::R
 | [],_,_=>rfl
 | c::q,S,R=>by rw [List.foldl_cons,List.foldl_cons,Awk hd,Aas hd q]
theorem Adj {d:Int} (hd:Bz d=true) (p q:List Int):Norm.join (p ++ d::q)=Norm.join p ++ d::Norm.join q:=by
 unfold Norm.join Norm.Aje;rw [List.foldl_append,List.foldl_cons,Awl hd,show d::p.foldl Norm.step []=[] ++ d::p.foldl Norm.step [] from rfl,Aas hd,List.reverse_append];simp
theorem Aja {d:Int} (hd:Bz d=true) (x:Int):∀ L M:List Int,Norm.ins x (L ++ d::M)=Norm.ins x L ++ d::M
 | [],M=>by
  show Norm.ins x (d::M)=[x] ++ d::M;unfold Norm.ins;rw [if_neg (by rw [Ya hd];omega)];rfl
 | y::L,M=>by
  show Norm.ins x (y::(L ++ d::M))=_;unfold Norm.ins;split
  · rw [Aja hd x L M];rfl
  · rfl
theorem Zq {d:Int} (hd:Bz d=true):∀ p q:List Int,Norm.order (p ++ d::q)=Norm.order p ++ d::Norm.order q
 | [],q=>by
  show Norm.ins d (Norm.order q)=d::Norm.order q;cases Norm.order q with
  | nil=>rfl
  | cons y l =>
   unfold Norm.ins;rw [if_neg (by rw [Ya hd];omega)]
 | x::p,q=>by
  show Norm.ins x (Norm.order (p ++ d::q))=Norm.ins x (Norm.order p) ++ _;rw [Zq hd p q,Aja hd]
theorem Ac1 {d:Int} (hd:Bz d=true) (p q:List Int):Norm.down false (p ++ d::q)=Norm.down false p ++ d::Norm.down false q:=by
 unfold Norm.down;rw [Norm.G6,show d::q=[d] ++ q from rfl,Norm.G6,show Norm.split false [d]=[d] by unfold Norm.split;rw [jao,V6 hd];rfl];exact Zq hd _ _
theorem Wz {d:Int} (hd:Bz d=true) (p q:List Int):Fold.fold (p ++ d::q)=Fold.fold p ++ d::Fold.fold q:=by
 unfold Fold.fold;rw [List.map_append,List.map_cons,A3m hd,Ac1 hd,Adj hd]
theorem Atn {d r:Int} (hd:Bz d=true) (h:d ∈ Norm.pieces false r):r=d:=by
 rw [Norm.Ba] at h;cases hs:Norm.syl r with
 | true =>
  rw [hs,if_pos rfl] at h;have:=(Norm.Ii d).1 (Norm.Ok hs d h);have:=Q7 hd;omega
 | false =>
  cases ho:Ak r with
  | none=>rw [hs,ho] at h;exact (by simpa using h:d=r).symm
  | some y =>
   rcases Bn ho with ⟨h1,rfl⟩ | ⟨h1,hy⟩
   ·have h2:=(Aec y h1).2;rw [jar] at h2;rw [<- Norm.Ba] at h;have:=h2 d h;rw [hd] at this;exact absurd this jD
   ·rw [hs,ho,hy] at h;exact (by simpa using h:d=r).symm
theorem A0d {p:List Int} {d:Int} (hd:Bz d=true) (h:d ∈ Norm.join (Norm.down false p)):d ∈ p:=by
 have hs:=Norm.Aji false (l:=Norm.down false p) (Norm.Qp false p);have h1:d ∈ Norm.split false (Norm.join (Norm.down false p)):=by
  unfold Norm.split
  exact List.mem_flatMap.2 ⟨d,h,by rw [V6 hd];simp⟩
 have h2:=(Norm.Ar5 hs d).1 h1;obtain ⟨r,hr,hp⟩:=Norm.Ry false p d h2;rwa [<- Atn hd hp]
end Wall
end
section
open Go.RowKit Utf
namespace Dom
def Ch (x:Int):Bool:=x == 46 || x == 12290
theorem Atd {d:Int} (h:Ch d=true):d=46\/d=12290:=by
 unfold Ch at h;simpa using h
theorem Tm {d:Int} (h:Ch d=true):Wall.Bz d=true:=by rcases Atd h with rfl | rfl<;>decide
theorem Wz {d:Int} (hd:Ch d=true) (p q:List Int):Fold.fold (p ++ d::q)=Fold.fold p ++ d::Fold.fold q:=Wall.Wz (Tm hd) p q
theorem Ai5 (p q:List Int):Fold.fold (p ++ 46::q)=Fold.fold p ++ 46::Fold.fold q:=Wz jD p q
def cut:List Int->List (List Int)
 | []=>[[]]
 | x::l=>if Ch x then []::cut l else match cut l with | []=>[[x]] | h::t=>(x::h)::t
theorem Fv (l:List Int):∃ h t,cut l=h::t:=by
 cases l with
 | nil=>exact ⟨_,_,rfl⟩
 | cons x l =>
  unfold cut;split
  ·exact ⟨_,_,rfl⟩
  ·split
   · exact ⟨_,_,rfl⟩
   · exact ⟨_,_,rfl⟩
theorem Afk:∀ p q:List Int,cut (p ++ 46::q)=cut p ++ cut q
 | [],q=>by
  show cut (46::q)=[[]] ++ cut q;rw [cut,if_pos jD];rfl
 | x::p,q=>by
  show cut (x::(p ++ 46::q))=_;rw [cut,cut,Afk p q];split
  ·rfl
  ·obtain ⟨h,t,e⟩:=Fv p;rw [e];rfl
theorem Ye:∀ {l:List Int},(∀ x ∈ l,Ch x=false)->cut l=[l]
 | [],_=>rfl
 | x::l,h=>by
  rw [cut,if_neg (by rw [h x jS];decide),Ye (λy hy=>h y (by simp [hy]))]
theorem A24 {l:List Int} (h:(cut l).length=1):cut l=[l]:=by
 induction l with
 | nil=>rfl
 | cons x l ih =>
  rw [cut] at h ⊢;obtain ⟨a,t,e⟩:=Fv l;by_cases hx:Ch x=true
  ·rw [if_pos hx,e] at h;simp at h
  ·rw [if_neg hx] at h ⊢;rw [e] at h ih ⊢;simp only [jac,Nat.add_eq_right,List.length_eq_zero_iff] at h;subst h;have:=ih rfl;injection this with h1
   subst h1;rfl
def Dc:List (List Int)->List Int
 | []=>[]
 | [x]=>x
 | x::y::t=>x ++ 46::Dc (y::t)
theorem Aie:∀ {ps:List (List Int)},ps ≠ []->(∀ p ∈ ps,∀ x ∈ p,Ch x=false)->cut (Dc ps)=ps
 | [],h,_=>absurd rfl h
 | [x],_,h=>Ye (h x jS)
 | x::y::t,_,h=>by
  show cut (x ++ 46::Dc (y::t))=_;rw [Afk,Ye (h x jS),Aie jS (λp hp=>h p (by simp only [jal] at hp ⊢;exact .inr hp))];rfl
theorem Adc:∀ {ps:List (List Int)},(∀ p ∈ ps,Fold.fold p=p)->Fold.fold (Dc ps)=Dc ps
 | [],_=>rfl
 | [x],h=>h x jS
 | x::y::t,h=>by
  show Fold.fold (x ++ 46::Dc (y::t))=_;rw [Ai5,h x jS,Adc (λp hp=>h p (by simp only [jal] at hp ⊢;exact .inr hp))];rfl
theorem Z8:∀ {ps:List (List Int)},(∀ p ∈ ps,Ae p=true)->Ae (Dc ps)=true
 | [],_=>rfl
 | [x],h=>h x jS
 | x::y::t,h=>by
  have h1:=h x jS;have h2:=Z8 (ps:=y::t) (λp hp=>h p (by simp only [jal] at hp ⊢;exact .inr hp));show Ae (x ++ 46::Dc (y::t))=true;unfold Ae at h1 h2 ⊢;rw [List.all_append,h1,List.all_cons,h2];decide
theorem A1h {d:Int} {A B p R:List Int} (h:A ++ d::B=p ++ d::R) (hA:d ∈ A->d ∈ p) (hp:d ∉ p):A=p/\B=R:=by
 have hlt:A.length=p.length:=by
  rcases Nat.lt_trichotomy A.length p.length with h1 | h1 | h1
  ·exfalso;have e:(A ++ d::B)[A.length]? = (p ++ d::R)[A.length]?:=by rw [h]
   rw [List.getElem?_append_right (jaa _),Nat.sub_self,List.getElem?_cons_zero,List.getElem?_append_left h1,List.getElem?_eq_getElem h1] at e;exact hp (by injection e with e;rw [e];exact List.getElem_mem h1)
  ·exact h1
  ·exfalso;have e:(A ++ d::B)[p.length]? = (p ++ d::R)[p.length]?:=by rw [h]
   rw [List.getElem?_append_left h1,List.getElem?_eq_getElem h1,List.getElem?_append_right (jaa _),Nat.sub_self,List.getElem?_cons_zero] at e;exact hp (hA (by injection e with e;rw [<- e];exact List.getElem_mem h1))
 obtain ⟨h1,h2⟩:=List.append_inj h hlt;exact ⟨h1,by injection h2⟩
theorem Acr:∀ l:List Int,((∀ x ∈ l,Ch x=false)/\cut l=[l])\/∃ p d R,Ch d=true/\l=p ++ d::R/\(∀ x ∈ p,Ch x=false)/\cut l=p::cut R
 | []=>.inl ⟨λx hx=>(by cases hx),rfl⟩
 | x::l=>by
  cases hx:Ch x with
  | true=>exact .inr ⟨[],x,l,hx,rfl,λy hy=>(by cases hy),by rw [cut,if_pos hx]⟩
  | false =>
   rcases Acr l with ⟨h1,h2⟩ | ⟨p,d,R,hd,rfl,h1,h2⟩
   · exact .inl ⟨λy hy=>(by
    rcases jal.1 hy with rfl | hy
    · exact hx
    · exact h1 y hy),by rw [cut,if_neg (by rw [hx];decide),h2]⟩
   · exact .inr ⟨x::p,d,R,hd,rfl,λy hy=>(by
    rcases jal.1 hy with rfl | hy
    · exact hx
    · exact h1 y hy),by rw [cut,if_neg (by rw [hx];decide),h2]⟩
theorem Ayc (n:Nat):∀ L:List Int,L.length<=n->Norm.join (Norm.down false L)=L->(∀ c ∈ L,Fold.fo c=c)->∀ p ∈ cut L,Fold.fold p=p:=by
 induction n with
 | zero =>
  intro L hn _ _ p hp;obtain rfl:L=[]:=List.eq_nil_of_length_eq_zero jO;rw [List.mem_singleton.1 hp];rfl
 | succ n ih =>
  intro L hn hj hf p hp;have one:∀ q:List Int,Norm.join (Norm.down false q)=q->(∀ c ∈ q,Fold.fo c=c)->Fold.fold q=q:=λq h1 h2=>by
   unfold Fold.fold;rw [Fold.Xd h2];exact h1
  rcases Acr L with ⟨-,h⟩ | ⟨q,d,R,hd,rfl,hq,h⟩
  ·rw [h] at hp;rw [List.mem_singleton.1 hp];exact one L hj hf
  ·rw [Wall.Ac1 (Tm hd),Wall.Adj (Tm hd)] at hj;have hdq:d ∉ q:=λhm=>by rw [hq d hm] at hd;cases hd
   obtain ⟨e1,e2⟩:=A1h hj (Wall.A0d (Tm hd)) hdq;rw [h] at hp;rcases jal.1 hp with rfl | hp
   ·exact one p e1 λc hc=>hf c (by simp [hc])
   ·refine ih R ?_ e2 (λc hc=>hf c (by simp [hc])) p hp;rw [jab,jac] at hn;omega
theorem Zw (l:List Int):∀ p ∈ cut (Fold.fold l),Fold.fold p=p :=
 Ayc _ _ (jaa _) (Fold.A0c l) (Fold.Sd l)
end Dom
end
section
open Go.RowKit Utf
namespace Dom
theorem Ly {x:Int} (hx:Ch x=true):∀ l:List Int,cut (l ++ [x])=cut l ++ [[]]
 | []=>by
  show cut [x]=[[]] ++ [[]]
  rw [cut,if_pos hx];rfl
 | y::l=>by
  show cut (y::(l ++ [x]))=_;rw [cut,cut,Ly hx l];split
  ·rfl
  ·obtain ⟨a,t,e⟩:=Fv l;rw [e];rfl
theorem Yf {x:Int} (hx:Ch x=false):∀ (l:List Int) (q:Nat),(cut l).length=q+1->cut (l ++ [x])=(cut l).set q ((cut l)[q]! ++ [x])
 | [],q,h=>by
  obtain rfl:q=0:=by have:(1:Nat)=q+1:=h;omega
  show cut [x]=[[x]]
  rw [cut,if_neg (by rw [hx];decide)];rfl
 | y::l,q,h=>by
  show cut (y::(l ++ [x]))=_;rw [cut] at h ⊢;rw [cut];obtain ⟨a,t,e⟩:=Fv l;by_cases hy:Ch y=true
  ·rw [if_pos hy] at h;rw [if_pos hy,if_pos hy];obtain ⟨q',rfl⟩:∃ q',q=q'+1:=by
    cases q with
    | zero=>rw [e] at h;simp at h
    | succ q'=>exact ⟨q',rfl⟩
   rw [Yf hx l q' (by simpa using h)];rfl
  ·rw [if_neg hy] at h;rw [if_neg hy,if_neg hy];rw [e] at h;have ih:=Yf hx l q (by rw [e];simpa using h);rw [ih,e];cases q with
   | zero=>rfl
   | succ q'=>rfl
theorem get_at (A X:List UInt8) (j:Nat):(⟨(A ++ X).toArray⟩:ByteArray).get! (A.length+j)=X.getD j 0:=by
 show (A ++ X).toArray[A.length+j]! = _;by_cases h:j<X.length
 ·rw [getElem!_pos _ _ (by simp;omega)];simp [List.getElem_append_right,List.getD,h]
 ·rw [getElem!_neg _ _ (by simp;omega)];simp [List.getD,h];rfl
theorem Am8 (A B:List UInt8) (r:Nat) (h:right r=true):Utf8.decode ⟨(A ++ (enc r ++ B)).toArray⟩ A.length=(r,(enc r).length):=by
 rw [Dw] at h;have g0:=get_at A (enc r ++ B) 0;rw [Nat.add_zero] at g0;rw [Lib.decode_at,g0,get_at,get_at,get_at];have hs:(⟨(A ++ (enc r ++ B)).toArray⟩:ByteArray).size - A.length=(enc r).length+B.length:=by
  show (A ++ (enc r ++ B)).toArray.size - A.length=_;simp
 rw [hs];unfold enc;by_cases h1:r<128
 ·rw [if_pos h1];simp only [jah,List.nil_append,List.getD_cons_zero,Bb (show r<256 by omega),jac,List.length_nil];unfold Lib.decodeN;rw [if_pos h1]
 rw [if_neg h1];by_cases h2:r<2048
 ·rw [if_pos h2];simp only [jah,List.nil_append,List.getD_cons_zero,List.getD_cons_succ,Bb (show 192+r / 64<256 by omega),Bb (show 128+r % 64<256 by omega),jac,List.length_nil];unfold Lib.decodeN;rw [if_neg jO,if_pos jO,if_pos jO];congr 1;omega
 rw [if_neg h2];by_cases h3:r<65536
 ·rw [if_pos h3];simp only [jah,List.nil_append,List.getD_cons_zero,List.getD_cons_succ,Bb (show 224+r / 4096<256 by omega),Bb (show 128+r / 64 % 64<256 by omega),Bb (show 128+r % 64<256 by omega),jac,List.length_nil];unfold Lib.decodeN;rw [if_neg jO,if_neg jO,if_pos jO,if_pos jO];congr 1;omega
 rw [if_neg h3];simp only [jah,List.nil_append,List.getD_cons_zero,List.getD_cons_succ,Bb (show 240+r / 262144<256 by omega),Bb (show 128+r / 4096 % 64<256 by omega),Bb (show 128+r / 64 % 64<256 by omega),Bb (show 128+r % 64<256 by omega),jac,List.length_nil];unfold Lib.decodeN;rw [if_neg jO,if_neg jO,if_neg jO,if_pos jO,if_pos jO];congr 1;omega
theorem Np (a b:List Int):Ah (a ++ b)=Ah a ++ Ah b:=by unfold Ah;exact List.flatMap_append
theorem Aeb {L:List Int} (h:Ae L=true) {k:Nat} (hk:k<L.length):0<=L[k]!/\right (L[k]!).toNat=true:=by
 unfold Ae at h;rw [jar] at h;have h2:=h _ (List.getElem_mem hk);rw [getElem!_pos L k hk];unfold Aj at h2;rw [jag,decide_eq_true_eq] at h2;exact h2
theorem Aal {L:List Int} {k:Nat} (hk:k<L.length):L=L.take k ++ L[k]!::L.drop (k+1):=by
 rw [getElem!_pos L k hk];exact (List.take_append_drop k L).symm.trans (by rw [List.drop_eq_getElem_cons hk])
def at_ (L:List Int) (k:Nat):Nat:=(Ah (L.take k)).length
theorem Aqx {L:List Int} {k:Nat} (hk:k<L.length):at_ L (k+1)=at_ L k+(enc (L[k]!).toNat).length:=by
 unfold at_
 rw [show L.take (k+1)=L.take k ++ [L[k]!] by rw [List.take_add_one,List.getElem?_eq_getElem hk,getElem!_pos L k hk];rfl,O7,jab]
theorem A5e (L:List Int):at_ L L.length=(Ah L).length:=by unfold at_;rw [List.take_length]
theorem Mf (r:Nat):1<=(enc r).length:=by unfold enc;split<;>(try split)<;>(try split)<;>simp
theorem A3d (r:Nat):(enc r).length<=4:=by unfold enc;split<;>(try split)<;>(try split)<;>simp
theorem A6q {L:List Int} {k:Nat} (hk:k<L.length):at_ L k+(enc (L[k]!).toNat).length<=(Ah L).length:=by
 have e:=congrArg Ah (Aal hk);rw [Np,show L[k]!::L.drop (k+1)=[L[k]!] ++ L.drop (k+1) from rfl,Np,show Ah [L[k]!]=enc (L[k]!).toNat by simp [Ah]] at e;have:=congrArg List.length e;rw [jab,jab] at this;unfold at_
 omega
theorem A4h {L:List Int} (h:Ae L=true) {k:Nat} (hk:k<L.length):Utf8.decode ⟨(Ah L).toArray⟩ (at_ L k)=((L[k]!).toNat,(enc (L[k]!).toNat).length):=by
 have e:=congrArg Ah (Aal hk);rw [Np,show L[k]!::L.drop (k+1)=[L[k]!] ++ L.drop (k+1) from rfl,Np,show Ah [L[k]!]=enc (L[k]!).toNat by simp [Ah]] at e;rw [e];exact Am8 _ _ _ (Aeb h hk).2
theorem Aig {d:Int} (hd:Ch d=true):∀ p R:List Int,cut (p ++ d::R)=cut p ++ cut R
 | [],R=>by
  show cut (d::R)=[[]] ++ cut R;rw [cut,if_pos hd];rfl
 | y::p,R=>by
  show cut (y::(p ++ d::R))=_;rw [cut,cut,Aig hd p R];split
  ·rfl
  ·obtain ⟨a,t,e⟩:=Fv p;rw [e];rfl
def Im (L:List Int) (k q b:Nat):Prop:=(cut (L.take k)).length=q+1/\∃ A,Ah (L.take k)=A ++ Ah (cut (L.take k))[q]!/\A.length=b
def gone (L:List Int) (k q:Nat):List (List UInt8):=((cut (L.take k)).take q).map Ah
theorem A5t (L:List Int):Im L 0 0 0:=⟨rfl,[],rfl,rfl⟩
theorem Ai7 {L:List Int} {k q b:Nat} (h:Im L k q b):(gone L k q).length=q:=by unfold gone;rw [jai,jak,h.1];omega
theorem A22 {L:List Int} {k q b:Nat} (h:Im L k q b):b<=at_ L k:=by obtain ⟨-,A,e,rfl⟩:=h;unfold at_;rw [e,jab];omega
theorem Aif:∀ l:List Int,(cut l).length<=l.length+1
 | []=>jaa _
 | x::l=>by
  have ih:=Aif l;rw [cut];obtain ⟨a,t,e⟩:=Fv l;rw [e] at ih ⊢;split
  · simp at ih ⊢;omega
  · simp at ih ⊢;omega
theorem Aya {L:List Int} {k q b:Nat} (h:Im L k q b):q<=k:=by have:=Aif (L.take k);rw [h.1,jak] at this;omega
theorem take_one {L:List Int} {k:Nat} (hk:k<L.length):L.take (k+1)=L.take k ++ [L[k]!]:=by rw [List.take_add_one,List.getElem?_eq_getElem hk,getElem!_pos L k hk];rfl
theorem A23 {L:List Int} {k q b:Nat} (h:Im L k q b) (hk:k<L.length) (hd:Ch L[k]! = false):Im L (k+1) q b/\gone L (k+1) q=gone L k q:=by
 obtain ⟨hq,A,e,rfl⟩:=h;have hc:=Yf hd (L.take k) q hq;have hql:q<(cut (L.take k)).length:=jO
 refine ⟨⟨?_,A,?_,rfl⟩,?_⟩
 ·rw [take_one hk,hc,List.length_set];exact hq
 ·rw [take_one hk,hc,getElem!_pos _ q (by rw [List.length_set];exact hql),List.getElem_set_self,O7,e,O7,jaq]
 ·unfold gone;rw [take_one hk,hc,List.take_set_of_le (jaa q)]
theorem Aic {L:List Int} {k q b:Nat} (h:Im L k q b) (hk:k<L.length) (hd:Ch L[k]! = true):Im L (k+1) (q+1) (at_ L k+(enc (L[k]!).toNat).length)/\gone L (k+1) (q+1)=gone L k q ++ [Ah (cut (L.take k))[q]!]:=by
 obtain ⟨hq,A,e,rfl⟩:=h;have hc:=Ly hd (L.take k);have hql:q<(cut (L.take k)).length:=jO
 refine ⟨⟨?_,Ah (L.take (k+1)),?_,Aqx hk⟩,?_⟩
 ·rw [take_one hk,hc,jab,hq];rfl
 ·rw [take_one hk,hc,getElem!_pos _ (q+1) (by rw [jab,hq];simp),List.getElem_append_right jO];simp [hq,Ah]
 ·unfold gone;rw [take_one hk,hc,List.take_append_of_le_length jO,show q+1=q+1 from rfl,List.take_add_one,List.getElem?_eq_getElem hql,getElem!_pos _ q hql,List.map_append];rfl
theorem Ay9 {L:List Int} {k q b:Nat} (h:Im L k q b) (hk:k<L.length) (hd:Ch L[k]! = true):gone L k q ++ [Ah (cut (L.take k))[q]!] <+: (cut L).map Ah:=by
 rw [<- (Aic h hk hd).2];refine ⟨(cut (L.drop (k+1))).map Ah,?_⟩;have e:cut L=cut (L.take k) ++ cut (L.drop (k+1)):=by
  have:=Aig hd (L.take k) (L.drop (k+1));rw [<- Aal hk] at this;exact this
 unfold gone;rw [e,List.map_append,take_one hk,Ly hd,List.take_append_of_le_length (by rw [h.1];omega),List.take_of_length_le (by rw [h.1];omega)]
theorem Aza {L:List Int} {q b:Nat} (h:Im L L.length q b):gone L L.length q ++ [Ah (cut L)[q]!]=(cut L).map Ah:=by
 obtain ⟨hq,-⟩:=h;unfold gone;rw [List.take_length] at hq ⊢;have hql:q<(cut L).length:=jO
 have:cut L=(cut L).take q ++ [(cut L)[q]!]:=by
  rw [getElem!_pos _ q hql];have:=List.take_add_one (l:=cut L) (i:=q);rw [List.take_of_length_le jO,List.getElem?_eq_getElem hql] at this;exact this
 exact (by rw [List.map_append];rfl:((cut L).take q).map Ah ++ [Ah (cut L)[q]!]=((cut L).take q ++ [(cut L)[q]!]).map Ah).trans (congrArg _ this.symm)
theorem Ar2 {L:List Int} {k q b:Nat} (h:Im L k q b):(⟨(Ah L).toArray⟩:ByteArray).extract b (at_ L k)=⟨(Ah (cut (L.take k))[q]!).toArray⟩:=by
 obtain ⟨hq,A,e,rfl⟩:=h;have e2:Ah L=Ah (L.take k) ++ Ah (L.drop k):=by rw [<- Np,List.take_append_drop]
 have ha:at_ L k=A.length+(Ah (cut (L.take k))[q]!).length:=by unfold at_;rw [e,jab]
 apply ByteArray.ext;rw [ByteArray.data_extract,e2,e,ha];simp
end Dom
end
section
open Go.RowKit Utf
namespace Lab
theorem Rx:Cg 46=false/\Cg 12290=false/\Ctx.Ci 46=false/\Ctx.Ci 12290=false:=by decide +kernel
theorem Aqb {l:List Int} (h:Ev l=0):∀ x ∈ l,Dom.Ch x=false:=by
 have hb:Hc l=false:=by
  unfold Ev at h;split at h
  ·omega
  ·split at h
   ·omega
   ·split at h
    ·omega
    ·split at h
     ·omega
     ·rename_i h4
      simpa using h4
 intro x hx;obtain ⟨k,hk,rfl⟩:=List.getElem_of_mem hx;unfold Hc at hb;rw [List.any_eq_false] at hb;have h1:=hb k (List.mem_range.2 hk);rw [Bool.or_eq_true,not_or,getElem!_pos l k hk] at h1;cases hd:Dom.Ch l[k] with
 | false=>rfl
 | true =>
  exfalso;have hc:Cg l[k]=false/\Ctx.Ci l[k]=false:=by
   unfold Dom.Ch at hd;simp only [Bool.or_eq_true,beq_iff_eq] at hd;rcases hd with e | e<;>rw [e]
   ·exact ⟨Rx.1,Rx.2.2.1⟩
   ·exact ⟨Rx.2.1,Rx.2.2.2⟩
  refine h1.2 ?_;rw [Ctx.Jb hk,getElem!_pos l k hk,hc.1,hc.2];rfl
theorem Ann {l:List Int} (h:Ae l=true) (hd:∀ x ∈ l,Dom.Ch x=false):∀ c ∈ Puny.Bq l,c.toNat ≠ 46:=by
 have hp:∀ x ∈ l,0<=x:=λx hx=>by
  have:=jar.1 (show l.all Aj=true from h) x hx;have:=(An x).1 this;omega
 intro c hc;unfold Puny.Bq at hc;rcases jap.1 hc with hc | hc
 ·rcases jap.1 hc with hc | hc
  ·unfold Puny.Bg at hc;obtain ⟨x,hx,rfl⟩:=List.mem_map.1 hc;have hm:x ∈ l/\x<128:=by
    unfold Puny.lt at hx;have:=List.mem_filter.1 hx;exact ⟨this.1,by simpa using this.2⟩
   show (u x.toNat).toNat ≠ 46;rw [Bb (by have:=hp x hm.1;omega)];intro e;have hx46:x=46:=by have:=hp x hm.1;omega
   have:=hd x hm.1;rw [hx46] at this;exact absurd this jD
  ·unfold Puny.La at hc;split at hc
   ·cases hc
   ·rw [List.mem_singleton.1 hc];decide
 ·unfold Puny.Da at hc;obtain ⟨x,hx,rfl⟩:=List.mem_map.1 hc;obtain ⟨h0,h1⟩:=Puny.Md _ _ _ _ (Puny.Hh (Ew h)) x hx;have:∀ i:Nat,i<36->(Puny.J6 (i:Int)).toNat ≠ 46:=by decide +kernel
  have:=this x.toNat jO;rwa [show ((x.toNat:Nat):Int)=x by omega] at this
theorem clean {L:List Int} (hr:Ae L=true) (hf:Fold.fold L=L) {a u:List UInt8} (h:Eo L=(0,a,u)) :
  ∃
   U:List Int,u=Ah U/\Ae U=true/\Fold.fold U=U/\Eo U=(0,a,u)/\(∀ c ∈ a,c.toNat<128)/\Fold.fold (chars a)=chars a/\Eo (chars a)=(0,a,u)/\0<a.length/\a.length<=63 /\
   U.length<=a.length/\(∀ x ∈ U,Dom.Ch x=false)/\(∀ x ∈ chars a,Dom.Ch x=false):=by
 obtain ⟨U,hu,rU,fU,-,bU,aA,fA,bA,l0,l1⟩:=back hr hf h;have hA:(∀ c ∈ a,c.toNat ≠ 46)->∀ x ∈ chars a,Dom.Ch x=false:=λhn x hx=>by
  obtain ⟨c,hc,rfl⟩:=List.mem_map.1 hx;have h1:=hn c hc;have h2:=aA c hc;unfold Dom.Ch;rw [beq_eq_false_iff_ne.2 (show ((c.toNat:Nat):Int) ≠ 46 by omega),beq_eq_false_iff_ne.2 (show ((c.toNat:Nat):Int) ≠ 12290 by omega)];rfl
 have hb:=bU;unfold Eo at hb;by_cases h1:Eb (Ah U)=false
 ·rw [if_pos h1] at hb;by_cases h2:Ev U=0
  ·rw [if_pos h2] at hb;injection hb with e1 e2
   injection e2 with e2 e3
   have hge:=Anp rU;have hnd:=Aqb h2;refine ⟨U,hu,rU,fU,bU,aA,fA,bA,l0,l1,by rw [<- e2,jab];omega,hnd,hA λc hc=>?_⟩;rw [<- e2] at hc;rcases jap.1 hc with hc | hc
   ·exact (by decide:∀ c ∈ sign,c.toNat ≠ 46) c hc
   ·exact Ann rU hnd c hc
  ·rw [if_neg h2] at hb;injection hb with e1 e2
   exact absurd e1 h2
 ·rw [if_neg h1] at hb;have haU:∀ c ∈ Ah U,c.toNat<128:=Du.1 (by simpa using h1);have hch:chars (Ah U)=U:=Jp (Di haU) rU (Dv _ haU);by_cases h3:(Ah U).take 4=sign
  ·exfalso;rw [if_pos h3] at hb;cases hd:Puny.Ig ((Ah U).drop 4) with
   | none=>rw [hd] at hb;simp only at hb;injection hb with e1 e2;exact absurd e1 jD
   | some l =>
    rw [hd] at hb;simp only at hb;split at hb
    ·injection hb with e1 e2;exact absurd e1 jD
    ·split at hb
     ·rename_i h5;injection hb with e1 e2;exact h5 e1
     ·rename_i h5
      split at hb
      ·injection hb with e1 e2;exact absurd e1 jD
      ·injection hb with e1 e2
       injection e2 with e2 e3
       rw [Decidable.not_not] at h5;have R:=Od h5;have:=R.wide;rw [e3,hu] at this;exact h1 this
  ·rw [if_neg h3] at hb;by_cases h4:F9 (Ah U)=0
   ·rw [if_pos h4] at hb;injection hb with e1 e2
    injection e2 with e2 e3
    have hp:=(Au9 (Ah U)).1 h4;have hn:∀ c ∈ Ah U,c.toNat ≠ 46:=λc hc=>by
     obtain ⟨k,hk,rfl⟩:=List.getElem_of_mem hc;have:=hp.2.2 k hk;unfold Uy at this;rw [Je hk] at this;intro e;rw [e] at this
     revert this
     have:Bidi.Ce ((46:Nat):Int)=false:=by decide
     rw [this];simp
    refine ⟨U,hu,rU,fU,bU,aA,fA,bA,l0,l1,?_,?_,hA (by rw [<- e2];exact hn)⟩
    ·rw [<- e2];have:=congrArg List.length hch;unfold chars at this;rw [jai] at this;omega
    ·have:=hA (by rw [<- e2];exact hn);rw [<- e2,hch] at this;exact this
   ·rw [if_neg h4] at hb;injection hb with e1 e2
    exact absurd e1 h4
end Lab
namespace Dom
def Cy:List (List UInt8)->List UInt8
 | []=>[]
 | [x]=>x
 | x::y::t=>x ++ 46::Cy (y::t)
theorem Aq9 (x y:List Int):Ah (x ++ 46::y)=Ah x ++ 46::Ah y:=by
 unfold Ah;rw [List.flatMap_append,jao,show enc (46:Int).toNat=[46] by decide];rfl
theorem Yl:∀ ps:List (List Int),Ah (Dc ps)=Cy (ps.map Ah)
 | []=>rfl
 | [x]=>rfl
 | x::y::t=>by
  show Ah (x ++ 46::Dc (y::t))=Ah x ++ 46::Cy ((y::t).map Ah);rw [Aq9,Yl (y::t)]
def Cz (bs:List UInt8):Int × List (List Int) :=
 if (Au bs).2=-1 then
  (if Fold.fold (ints (Au bs).1)=[] then (13,[]) else if 32<(cut (Fold.fold (ints (Au bs).1))).length then (2,[]) else (0,cut (Fold.fold (ints (Au bs).1))))
 else (7,[])
def Dp (p:List Int):Int:=(Lab.Dz (Ah p)).1
def Aq (p:List Int):List UInt8:=(Lab.Dz (Ah p)).2.1
def Cs (p:List Int):List UInt8:=(Lab.Dz (Ah p)).2.2
def Fy (ps:List (List Int)):Int × List UInt8 × List UInt8 :=
 match ps.find? (λp=>Dp p != 0) with
 | some p=>(Dp p,[],[])
 | none=>if 253<(Cy (ps.map Aq)).length then (5,[],[]) else (0,Cy (ps.map Aq),Cy (ps.map Cs))
def Cu (bs:List UInt8):Int × List UInt8 × List UInt8:=if (Cz bs).1=0 then Fy (Cz bs).2 else ((Cz bs).1,[],[])
def A6t (bs:List UInt8):List UInt8:=if (Cu bs).1=0/\Lab.Eb bs=true then bs else (Cu bs).2.1
theorem Ary {bs a u:List UInt8} {E:Int} (h:Cu bs=(E,a,u)) (hE:E ≠ 0):a=[]/\u=[]:=by
 unfold Cu at h;split at h
 ·unfold Fy at h;split at h
  ·injection h with e1 e2;injection e2 with e2 e3;exact ⟨e2.symm,e3.symm⟩
  ·split at h
   · injection h with e1 e2;injection e2 with e2 e3;exact ⟨e2.symm,e3.symm⟩
   · injection h with e1 e2;exact absurd e1.symm hE
 ·injection h with e1 e2;injection e2 with e2 e3;exact ⟨e2.symm,e3.symm⟩
theorem Mk {l:List Int} (h:Ae l=true):Cz (Ah l)=if Fold.fold l=[] then (13,[]) else if 32<(cut (Fold.fold l)).length then (2,[]) else (0,cut (Fold.fold l)):=by
 unfold Cz;rw [Gy h,if_pos rfl,(Ed h).1]
theorem Ox:∀ {l:List Int},Ae l=true->∀ p ∈ cut l,Ae p=true
 | [],_,p,hp=>by rw [List.mem_singleton.1 hp];rfl
 | x::l,h,p,hp=>by
  have h2:Aj x=true/\Ae l=true:=by unfold Ae at h ⊢;simpa using h
  have ih:=Ox h2.2;rw [cut] at hp;obtain ⟨a,t,e⟩:=Fv l;rw [e] at ih hp;split at hp
  ·rcases jal.1 hp with rfl | hp
   ·rfl
   ·exact ih p hp
  ·rcases jal.1 hp with rfl | hp
   ·have:=ih a jS;unfold Ae at this ⊢;rw [List.all_cons,h2.1,this];rfl
   ·exact ih p (by simp [hp])
theorem Aq4:∀ l:List Int,∀ p ∈ cut l,p.length<=l.length
 | [],p,hp=>by rw [List.mem_singleton.1 hp];exact jaa _
 | x::l,p,hp=>by
  have ih:=Aq4 l;rw [cut] at hp;obtain ⟨a,t,e⟩:=Fv l;rw [e] at ih hp;split at hp
  ·rcases jal.1 hp with rfl | hp
   · simp
   · have:=ih p hp;simp only [jac];omega
  ·rcases jal.1 hp with rfl | hp
   · have:=ih a jS;simp only [jac];omega
   · have:=ih p (by simp [hp]);simp only [jac];omega
theorem Afe {bs a u:List UInt8} (h:Cu bs=(0,a,u)):∃ l:List Int,Ae l=true/\bs=Ah l/\Fold.fold l ≠ []/\(cut (Fold.fold l)).length<=32/\(∀ p ∈ cut (Fold.fold l),Dp p=0)/\a=Cy ((cut (Fold.fold l)).map Aq)/\u=Cy ((cut (Fold.fold l)).map Cs)/\a.length<=253:=by
 unfold Cu at h;by_cases hl:(Cz bs).1=0
 ·rw [if_pos hl] at h;unfold Cz at hl h;by_cases hz:(Au bs).2=-1
  ·obtain ⟨h1,h2⟩:=Lab.Sx hz;rw [if_pos hz] at hl h;generalize ints (Au bs).1=l at hl h h1 h2;by_cases h3:Fold.fold l=[]
   ·rw [if_pos h3] at hl;exact absurd hl jD
   ·rw [if_neg h3] at hl h;by_cases h4:32<(cut (Fold.fold l)).length
    ·rw [if_pos h4] at hl;exact absurd hl jD
    ·rw [if_neg h4] at h;unfold Fy at h;simp only at h;cases hf:(cut (Fold.fold l)).find? (λp=>Dp p != 0) with
     | some p =>
      rw [hf] at h;simp only at h;injection h with e1 e2
      have:=List.find?_some hf;rw [e1] at this;exact absurd this jD
     | none =>
      rw [hf] at h;simp only at h;by_cases h5:253<(Cy ((cut (Fold.fold l)).map Aq)).length
      ·rw [if_pos h5] at h;injection h with e1 e2;exact absurd e1 jD
      ·rw [if_neg h5] at h;injection h with e1 e2
       injection e2 with e2 e3
       refine ⟨l,h1,h2,h3,by omega,λp hp=>?_,e2.symm,e3.symm,by rw [<- e2];omega⟩;have:=List.find?_eq_none.1 hf p hp;simpa using this
  ·rw [if_neg hz] at hl;exact absurd hl jD
 ·rw [if_neg hl] at h;injection h with e1 e2
  exact absurd e1 hl
theorem Aqy {l:List Int} (hr:Ae l=true) (h0:Fold.fold l ≠ []) (h1:(cut (Fold.fold l)).length<=32) (h2:∀ p ∈ cut (Fold.fold l),Dp p=0) :
  Cu (Ah l)=if 253<(Cy ((cut (Fold.fold l)).map Aq)).length then (5,[],[]) else (0,Cy ((cut (Fold.fold l)).map Aq),Cy ((cut (Fold.fold l)).map Cs)):=by
 have hf:(cut (Fold.fold l)).find? (λp=>Dp p != 0)=none:=by
  rw [List.find?_eq_none];intro p hp;rw [h2 p hp];decide
 unfold Cu Fy;rw [Mk hr,if_neg h0,if_neg (show ¬ 32<(cut (Fold.fold l)).length by omega)];simp only;rw [if_pos trivial,hf]
def Il (p:List Int):List Int:=ints (Au (Cs p)).1
theorem Ajm {p:List Int} (hr:Ae p=true) (h:Dp p=0):Cs p=Ah (Il p)/\Ae (Il p)=true/\Fold.fold (Il p)=Il p/\(Il p).length<=(Aq p).length/\(∀ x ∈ Il p,Ch x=false)/\Dp (Il p)=0/\Aq (Il p)=Aq p/\Cs (Il p)=Cs p /\
  0<(Aq p).length/\(∀ c ∈ Aq p,c.toNat<128)/\Fold.fold (Lab.chars (Aq p))=Lab.chars (Aq p)/\(∀ x ∈ Lab.chars (Aq p),Ch x=false)/\Dp (Lab.chars (Aq p))=0/\Aq (Lab.chars (Aq p))=Aq p/\Cs (Lab.chars (Aq p))=Cs p:=by
 have hb:Lab.Eo (Fold.fold p)=(0,Aq p,Cs p):=by
  rw [<- Lab.Fm hr,<- h];rfl
 obtain ⟨U,hu,rU,fU,bU,aA,fA,bA,l0,-,hlen,hd,hda⟩:=Lab.clean (El hr) (Fold.Le p) hb;have e:Il p=U:=by
  unfold Il;rw [hu,Gy rU];exact (Ed rU).1
 rw [e];have h1:Lab.Dz (Ah U)=(0,Aq p,Cs p):=by rw [Lab.Fm rU,fU];exact bU
 have h2:Lab.Dz (Ah (Lab.chars (Aq p)))=(0,Aq p,Cs p):=by rw [Lab.Fm (Lab.Di aA),fA];exact bA
 exact ⟨hu,rU,fU,hlen,hd,by unfold Dp;rw [h1],by show (Lab.Dz (Ah U)).2.1=_;rw [h1],by show (Lab.Dz (Ah U)).2.2=_;rw [h1],l0,aA,fA,hda,by unfold Dp;rw [h2],by show (Lab.Dz (Ah (Lab.chars (Aq p)))).2.1=_;rw [h2],by show (Lab.Dz (Ah (Lab.chars (Aq p)))).2.2=_;rw [h2]⟩
theorem A3b:∀ {ps:List (List Int)},ps ≠ []->(∀ p ∈ ps,p ≠ [])->Dc ps ≠ []
 | [],h,_=>absurd rfl h
 | [x],_,h=>h x jS
 | x::y::t,_,_=>by
  show x ++ 46::Dc (y::t) ≠ [];simp
theorem Ait:∀ (ps:List (List Int)) (f:List Int->List UInt8),(∀ p ∈ ps,p.length<=(f p).length)->(Dc ps).length<=(Cy (ps.map f)).length
 | [],_,_=>jaa _
 | [x],f,h=>h x jS
 | x::y::t,f,h=>by
  have h1:=h x jS;have h2:=Ait (y::t) f (λp hp=>h p (by simp only [jal] at hp ⊢;exact .inr hp));show (x ++ 46::Dc (y::t)).length<=(f x ++ 46::Cy ((y::t).map f)).length;rw [jab,jab,jac,jac];omega
theorem again {ps qs:List (List Int)} (f:List Int->List Int) (hq:qs=ps.map f) (hne:ps ≠ []) (hn:ps.length<=32) (hl:(Cy (ps.map Aq)).length<=253)
  (h:∀ p ∈ ps,Ae (f p)=true/\Fold.fold (f p)=f p/\(∀ x ∈ f p,Ch x=false)/\f p ≠ []/\Dp (f p)=0/\Aq (f p)=Aq p/\Cs (f p)=Cs p) :
  Ae (Dc qs)=true/\Fold.fold (Dc qs)=Dc qs/\Cu (Ah (Dc qs))=(0,Cy (ps.map Aq),Cy (ps.map Cs)):=by
 subst hq;have hq1:∀ q ∈ ps.map f,∃ p ∈ ps,f p=q:=λq hq=>List.mem_map.1 hq;have r:Ae (Dc (ps.map f))=true:=Z8 λq hq=>by obtain ⟨p,hp,rfl⟩:=hq1 q hq;exact (h p hp).1
 have ff:Fold.fold (Dc (ps.map f))=Dc (ps.map f):=Adc λq hq=>by obtain ⟨p,hp,rfl⟩:=hq1 q hq;exact (h p hp).2.1
 have hne':ps.map f ≠ []:=by simpa using hne
 have hc:cut (Fold.fold (Dc (ps.map f)))=ps.map f:=by
  rw [ff];exact Aie hne' λq hq=>by obtain ⟨p,hp,rfl⟩:=hq1 q hq;exact (h p hp).2.2.1
 have ha:(ps.map f).map Aq=ps.map Aq:=by rw [List.map_map];exact List.map_congr_left λp hp=>(h p hp).2.2.2.2.2.1
 have hu:(ps.map f).map Cs=ps.map Cs:=by rw [List.map_map];exact List.map_congr_left λp hp=>(h p hp).2.2.2.2.2.2
 refine ⟨r,ff,?_⟩;rw [Aqy r (by rw [ff];exact A3b hne' λq hq=>by obtain ⟨p,hp,rfl⟩:=hq1 q hq;exact (h p hp).2.2.2.1) (by rw [hc,jai];exact hn) (by rw [hc];intro q hq;obtain ⟨p,hp,rfl⟩:=hq1 q hq;exact (h p hp).2.2.2.2.1),hc,ha,hu,if_neg jO]
theorem back {bs a u:List UInt8} (h:Cu bs=(0,a,u)):∃ U A:List Int,u=Ah U/\Ae U=true/\Fold.fold U=U/\U.length<=253/\Cu u=(0,a,u)/\a=Ah A/\Ae A=true/\Fold.fold A=A/\A.length<=253/\Cu a=(0,a,u)/\Ao a=-1/\a.length<=253:=by
 obtain ⟨l,hr,rfl,h0,h1,h2,rfl,rfl,hlen⟩:=Afe h;obtain ⟨ps,hps⟩:∃ ps,cut (Fold.fold l)=ps:=⟨_,rfl⟩
 have hne:ps ≠ []:=by obtain ⟨a,t,e⟩:=Fv (Fold.fold l);rw [<- hps,e];simp
 have hrp:∀ p ∈ ps,Ae p=true:=by rw [<- hps];exact Ox (El hr)
 rw [hps] at h1 h2 hlen ⊢;have lc:=λp hp=>Ajm (hrp p hp) (h2 p hp);obtain ⟨r1,f1,b1⟩:=again Il (qs:=ps.map Il) rfl hne h1 hlen λp hp=>by
  obtain ⟨c1,c2,c3,c4,c5,c6,c7,c8,c9,-⟩:=lc p hp;refine ⟨c2,c3,c5,λe=>?_,c6,c7,c8⟩;rw [e] at c6;exact absurd c6 (by decide +kernel)
 obtain ⟨r2,f2,b2⟩:=again (λp=>Lab.chars (Aq p)) (qs:=ps.map λp=>Lab.chars (Aq p)) rfl hne h1 hlen λp hp=>by
  obtain ⟨-,-,-,-,-,-,-,-,c9,c10,c11,c12,c13,c14,c15⟩:=lc p hp;refine ⟨Lab.Di c10,c11,c12,λe=>?_,c13,c14,c15⟩;have:=congrArg List.length e;unfold Lab.chars at this;rw [jai] at this;simp only [List.length_nil] at this;omega
 have eu:Ah (Dc (ps.map Il))=Cy (ps.map Cs):=by
  rw [Yl,List.map_map];congr 1;exact List.map_congr_left λp hp=>(lc p hp).1.symm
 have ea:Ah (Dc (ps.map λp=>Lab.chars (Aq p)))=Cy (ps.map Aq):=by
  rw [Yl,List.map_map];congr 1;exact List.map_congr_left λp hp=>Dv _ (lc p hp).2.2.2.2.2.2.2.2.2.1
 have hA:∀ c ∈ Cy (ps.map Aq),c.toNat<128:=by
  have:∀ qs:List (List Int),(∀ p ∈ qs,∀ c ∈ Aq p,c.toNat<128)->∀ c ∈ Cy (qs.map Aq),c.toNat<128:=by
   intro qs;induction qs with
   | nil=>intro _ c hc;cases hc
   | cons x t ih =>
    intro h c hc;cases t with
    | nil=>exact h x jS c hc
    | cons y t =>
     have hc':c ∈ Aq x ++ 46::Cy ((y::t).map Aq):=hc;rcases jap.1 hc' with hc | hc
     ·exact h x jS c hc
     ·rcases jal.1 hc with rfl | hc
      ·decide
      ·exact ih (λp hp=>h p (by simp only [jal] at hp ⊢;exact .inr hp)) c hc
  exact this ps λp hp=>(lc p hp).2.2.2.2.2.2.2.2.2.1
 refine ⟨Dc (ps.map Il),Dc (ps.map λp=>Lab.chars (Aq p)),eu.symm,r1,f1,?_,by rw [<- eu] at b1 ⊢;exact b1,ea.symm,r2,f2,?_,by rw [<- ea] at b2 ⊢;exact b2,?_,hlen⟩
 ·have:=Ait (ps.map Il) Aq (λq hq=>by
   obtain ⟨p,hp,rfl⟩:=List.mem_map.1 hq;obtain ⟨-,-,-,c4,-,-,c7,-⟩:=lc p hp;rw [c7];exact c4)
  rw [List.map_map,show ps.map (Aq ∘ Il)=ps.map Aq from List.map_congr_left λp hp=>(lc p hp).2.2.2.2.2.2.1] at this;omega
 ·have:=congrArg List.length ea;have h3:(Dc (ps.map λp=>Lab.chars (Aq p))).length<=(Ah (Dc (ps.map λp=>Lab.chars (Aq p)))).length:=by
   have:∀ x:List Int,x.length<=(Ah x).length:=by
    intro x;induction x with
    | nil=>exact jaa _
    | cons y x ih =>
     have:0<(enc y.toNat).length:=by
      unfold enc;split
      ·simp
      ·split
       · simp
       · split<;>simp
     unfold Ah at ih ⊢;rw [jao,jab,jac];omega
   exact this _
  omega
 ·rcases Lab.Gg (Cy (ps.map Aq)) with ⟨-,h⟩ | ⟨h,-⟩
  ·exact h
  ·rw [Lab.Du.2 hA] at h;cases h
theorem one {s:List UInt8} {L:List (List Int)} (h:Cz s=(0,L)) (h1:L.length=1):Cu s=Lab.Dz s:=by
 unfold Cz at h;by_cases hz:(Au s).2=-1
 ·obtain ⟨hr,he⟩:=Lab.Sx hz;rw [if_pos hz] at h;generalize ints (Au s).1=l at h hr he;subst he;by_cases h3:Fold.fold l=[]
  ·rw [if_pos h3] at h;injection h with e1 e2;exact absurd e1 jD
  ·rw [if_neg h3] at h;by_cases h4:32<(cut (Fold.fold l)).length
   ·rw [if_pos h4] at h;injection h with e1 e2;exact absurd e1 jD
   ·rw [if_neg h4] at h;injection h with e1 e2
    subst e2;have hc:=A24 h1;have hb:Lab.Dz (Ah (Fold.fold l))=Lab.Dz (Ah l):=by rw [Lab.Fm (El hr),Lab.Fm hr,Fold.Le]
    obtain ⟨⟨E,A,V⟩,hE⟩:∃ z,Lab.Dz (Ah l)=z:=⟨_,rfl⟩
    have ha:Dp (Fold.fold l)=E/\Aq (Fold.fold l)=A/\Cs (Fold.fold l)=V:=by
     unfold Dp Aq Cs;rw [hb,hE];exact ⟨rfl,rfl,rfl⟩
    by_cases hE0:E=0
    ·subst hE0;rw [Aqy hr h3 jO (by rw [hc];intro p hp;rw [List.mem_singleton.1 hp];exact ha.1),hc];show (if 253<(Aq (Fold.fold l)).length then _ else ((0:Int),Aq (Fold.fold l),Cs (Fold.fold l)))=_;have hlen:A.length<=63:=by
      have hL:Lab.Eo (Fold.fold l)=(0,A,V):=by rw [<- Lab.Fm hr];exact hE
      obtain ⟨U,-,-,-,-,-,-,-,-,hl,-⟩:=Lab.clean (El hr) (Fold.Le l) hL;exact hl
     rw [ha.2.1,ha.2.2,if_neg jO,hE]
    ·obtain ⟨rfl,rfl⟩:=Lab.Ary hE hE0;unfold Cu Fy;rw [Mk hr,if_neg h3,if_neg h4];simp only;rw [if_pos trivial,hc];have hfn:([Fold.fold l].find? λp=>Dp p != 0)=some (Fold.fold l):=by
      rw [List.find?_cons_of_pos (by rw [ha.1];exact bne_iff_ne.2 hE0)]
     rw [hfn];simp only;rw [ha.1,hE]
 ·rw [if_neg hz] at h;injection h with e1 e2
  exact absurd e1 jD
end Dom
end
