import Derived.Test.YtpcgbgfpnhiihabGreatDoorUcdAll
import Derived.Test.YtpcgbgfpnhiihabGreatDoorPlainA
import Derived.Test.YtpcgbgfpnhiihabGreatDoorUtfB
namespace Go.Proofs.YtpcgbgfpnhiihabGreatDoor
section
open Go.RowKit Utf
def Il (l:List Int) (w:World) (e:Ending) (w':World):Prop:=∃ v,e=.returned v/\Aw w.heap.size v l w'/\Below w.heap.size w w'
theorem Ag7 {soft:Bool} {r:Int} (h:Norm.syl r=false) (hs:∀ y,Ah r=some y->y.soft=true/\soft=false):Norm.pieces soft r=[r]:=by
 rw [Norm.Az,h];cases e:Ah r with
 | none=>rfl
 | some y =>
  obtain ⟨h1,h2⟩:=hs y e;simp only [h1,h2];rfl
theorem Aps {soft:Bool} {r:Int} {y:Sp} (h:Norm.syl r=false) (hs:Ah r=some y) (hn:(y.soft && !soft)=false):Norm.pieces soft r=Norm.pieces soft y.one ++ (if y.two=0 then [] else Norm.pieces soft y.two):=by
 rw [Norm.Az,h,hs];simp only [hn];rfl
theorem Ta:∀ (n:Nat) (soft:Bool) (r:Int),(Norm.one n soft r).length<=3*2 ^ n
 | 0,_,_=>by simp [Norm.one]
 | n+1,soft,r=>by
  unfold Norm.one;have h1:1<=2 ^ n:=Nat.one_le_two_pow;have h2:2 ^ (n+1)=2 ^ n*2:=Nat.pow_succ ..;split
  ·unfold Norm.Cu;split<;>simp<;>omega
  ·split
   ·simp;omega
   ·rename_i x _
    split
    ·simp;omega
    ·have h3:=Ta n soft x.one;have h4:=Ta n soft x.two;rw [jab];split
     · simp;omega
     · omega
theorem Ako (soft:Bool) (r:Int):(Norm.pieces soft r).length<=48:=Ta 4 soft r
def flat (x:Int):Bool:=(Ah x).isNone
def Tz (x:Int):Bool:=match Ah x with | none=>true | some y=>flat y.one && flat y.two
theorem Aqg:∀ y ∈ splits,(Tz y.one && Tz y.two)=true:=by decide +kernel
theorem Arj:∀ i ∈ List.range 94,(Tz (65281+i - 65248) && Tz 0)=true:=by decide +kernel
theorem Yc {x:Int} {y:Sp} (h:Ah x=some y):Tz y.one=true/\Tz y.two=true:=by
 rw [<- jag];rcases Bj h with ⟨hy,rfl⟩ | ⟨hw,rfl⟩
 ·exact Aqg y hy
 ·simp only [Bl,jag,decide_eq_true_eq] at hw;have:=Arj (x - 65281).toNat (by rw [List.mem_range];omega);rwa [show (65281:Int)+((x - 65281).toNat:Int)=x by omega] at this
theorem Alb (soft:Bool) (l:List Int) (r:Int):Norm.split soft (l ++ [r])=Norm.split soft l ++ Norm.pieces soft r:=by simp [Norm.split]
theorem Ahk:∀ y ∈ splits,(Norm.pieces true y.rune).length<=20/\(Norm.pieces false y.rune).length<=20:=by decide +kernel
theorem Avp:∀ i ∈ List.range 94,(Norm.pieces true (65281+i)).length<=20/\(Norm.pieces false (65281+i)).length<=20:=by decide +kernel
theorem Akp (soft:Bool) (x:Int):(Norm.pieces soft x).length<=20:=by
 cases ho:Ah x with
 | some y =>
  rcases Bj ho with ⟨h1,rfl⟩ | ⟨h1,-⟩
  ·cases soft
   · exact (Ahk y h1).2
   · exact (Ahk y h1).1
  ·unfold Bl at h1;rw [jag,decide_eq_true_eq,decide_eq_true_eq] at h1;have h:=Avp (x - 65281).toNat (List.mem_range.2 jO);rw [show (65281:Int)+((x - 65281).toNat:Nat)=x by omega] at h;cases soft
   · exact h.2
   · exact h.1
 | none =>
  rw [Norm.Az,ho];split
  ·unfold Norm.Cu;split<;>simp
  ·simp
theorem Aqz (soft:Bool) (l:List Int):(Norm.split soft l).length<=20*l.length:=by
 induction l with
 | nil=>simp [Norm.split]
 | cons r l ih =>
  have:=Akp soft r;simp only [Norm.split,jao,jab,jac] at ih ⊢;omega
end
section
open Go.RowKit Utf
namespace Norm
end Norm
end
section
open Go.RowKit Utf
theorem Azb {a b:Int} (h:4352<=a/\a<=4370/\4449<=b/\b<=4469):Norm.Dy a b=some (44032+(a - 4352)*588+(b - 4449)*28):=by
 unfold Norm.Dy;rw [if_pos h]
theorem Ayu {a b:Int} (h:44032<=a/\a<=55203/\(a - 44032) % 28=0/\4520<=b/\b<=4546):Norm.Dy a b=some (a+b - 4519):=by
 unfold Norm.Dy;rw [if_neg jO,if_pos ⟨(Norm.Cf a).2 ⟨h.1,h.2.1⟩,h.2.2⟩]
theorem Amt {a b:Int} (h1:¬ (4352<=a/\a<=4370/\4449<=b/\b<=4469)) (h2:¬ (44032<=a/\a<=55203/\(a - 44032) % 28=0/\4520<=b/\b<=4546)):Norm.Dy a b=Gi a b:=by
 unfold Norm.Dy;rw [if_neg h1,if_neg λh=>h2 ⟨((Norm.Cf a).1 h.1).1,((Norm.Cf a).1 h.1).2,h.2⟩]
namespace Norm
theorem Fc {p:Int->Bool}:∀ {M:List Int} (B:List Int),(∀ y ∈ M,p y=true)->(∀ s t,B=s::t->p s=false)->(M ++ B).takeWhile p=M/\(M ++ B).dropWhile p=B
 | [],B,_,hB=>by
  cases B with
  | nil=>exact ⟨rfl,rfl⟩
  | cons s t =>
   have:=hB s t rfl;simp [this]
 | y::M,B,hM,hB=>by
  obtain ⟨h1,h2⟩:=Fc B (M:=M) (λz hz=>hM z (by simp [hz])) hB;have hy:=hM y jS;simp only [jah,List.takeWhile_cons,List.dropWhile_cons,hy,if_true,h1,h2];exact ⟨trivial,trivial⟩
def next (o:List Int) (x:Int):List Int:=(step o.reverse x).reverse
theorem Aav (l:List Int) (k:Nat) (h:k<l.length):join (l.take (k+1))=next (join (l.take k)) l[k]!:=by
 unfold join Af2 next;rw [List.take_succ_eq_append_getElem h,List.foldl_append,getElem!_pos l k h,List.reverse_reverse];rfl
theorem Aph {M:List Int} (x:Int) (hM:∀ y ∈ M,0<Ad y):next M x=M ++ [x]:=by
 obtain ⟨h1,h2⟩:=Fc (p:=λy=>decide (0<Ad y)) (M:=M.reverse) [] (λy hy=>by simpa using hM y (by simpa using hy)) (λs t h=>by cases h);rw [List.append_nil] at h1 h2;unfold next step;rw [h2];simp
theorem Awz {Q M:List Int} (s x:Int) (hM:∀ y ∈ M,0<Ad y) (hs:¬ 0<Ad s) :
  next (Q ++ s::M) x=if M.all (λy=>decide (Ad y<Ad x))=true then (match Dy s x with | some z=>Q ++ z::M | none=>Q ++ s::M ++ [x]) else Q ++ s::M ++ [x]:=by
 have e:(Q ++ s::M).reverse=M.reverse ++ s::Q.reverse:=by simp
 obtain ⟨h1,h2⟩:=Fc (p:=λy=>decide (0<Ad y)) (M:=M.reverse) (s::Q.reverse) (λy hy=>by simpa using hM y (by simpa using hy)) (λs' t h=>by cases h;simpa using hs);unfold next step;rw [e,h1,h2,List.all_reverse];simp only;split
 ·cases Dy s x with
  | some z=>simp
  | none=>simp
 ·simp
theorem Ko (Q:List Int) (s:Int) (M:List Int):(Q ++ s::M)[Q.length]! = s:=by simp
theorem Adz (Q:List Int) (s z:Int) (M:List Int):(Q ++ s::M).set Q.length z=Q ++ z::M:=by
 rw [List.set_append_right _ _ (jaa _),Nat.sub_self];rfl
theorem At0 (o:List Int) (x:Int):(next o x).length<=o.length+1:=by
 unfold next step;split
 ·simp
 ·rename_i s A hA
  split
  ·split
   ·have:=congrArg List.length (List.takeWhile_append_dropWhile (p:=λy=>decide (0<Ad y)) (l:=o.reverse));rw [hA] at this;simp only [jab,jac,List.length_reverse] at this ⊢;omega
   ·simp
  ·simp
theorem Ww:∀ (l:List Int) (k:Nat),k<=l.length->(join (l.take k)).length<=k
 | _,0,_=>by simp [join,Af2]
 | l,k+1,h=>by
  rw [Aav l k jO];have:=Ww l k jO;have:=At0 (join (l.take k)) l[k]!;omega
end Norm
end
section
open Go.RowKit Utf
theorem Ak4:∀ y ∈ splits,(Ai y.rune && (Norm.pieces false y.rune).all Ai && (Norm.pieces true y.rune).all Ai)=true:=by decide +kernel
theorem Als:∀ i ∈ List.range 94,(Ai (65281+i) && (Norm.pieces false (65281+i)).all Ai && (Norm.pieces true (65281+i)).all Ai)=true:=by decide +kernel
theorem Uo (soft:Bool) {x:Int} {y:Sp} (h:Ah x=some y):Ai x=true/\∀ c ∈ Norm.pieces soft x,Ai c=true:=by
 have key:(Ai x && (Norm.pieces false x).all Ai && (Norm.pieces true x).all Ai)=true:=by
  rcases Bj h with ⟨hy,rfl⟩ | ⟨hw,rfl⟩
  ·exact Ak4 y hy
  ·simp only [Bl,jag,decide_eq_true_eq] at hw;have:=Als (x - 65281).toNat (by rw [List.mem_range];omega);rwa [show (65281:Int)+((x - 65281).toNat:Int)=x by omega] at this
 simp only [jag] at key;refine ⟨key.1.1,?_⟩;cases soft
 ·exact jar.1 key.1.2
 ·exact jar.1 key.2
theorem Adn (soft:Bool) {r:Int} (h:Ai r=true):∀ c ∈ Norm.pieces soft r,Ai c=true:=by
 cases hs:Norm.syl r with
 | true =>
  rw [Norm.Az,hs];intro c hc;have:=(Norm.Hl c).1 (Norm.Nh hs c hc);exact (Ak c).2 jO
 | false =>
  cases hp:Ah r with
  | none =>
   intro c hc;rw [Norm.Az,hs,hp] at hc;simp only [Bool.false_eq_true,if_false,List.mem_singleton] at hc;rw [hc];exact h
  | some y=>exact (Uo soft hp).2
theorem Oz (soft:Bool) {l:List Int} (h:Ae l=true):Ae (Norm.down soft l)=true:=by
 unfold Ae at h ⊢;rw [jar] at h ⊢;intro c hc;obtain ⟨r,hr,hcr⟩:=Norm.Ql soft l c hc;exact Adn soft (h r hr) c hcr
theorem Agm {a b x:Int} (h:Norm.Dy a b=some x):Ai x=true:=by
 unfold Norm.Dy at h;split at h
 ·obtain rfl:=Option.some.inj h;exact (Ak _).2 jO
 ·split at h
  ·rename_i h2
   obtain rfl:=Option.some.inj h;have:=(Norm.Cf a).1 h2.1;exact (Ak _).2 jO
  ·obtain ⟨y,hy,-⟩:=Fy h;exact (Uo false hy).1
theorem Ald {R:List Int} {c:Int} (hR:∀ y ∈ R,Ai y=true) (hc:Ai c=true):∀ y ∈ Norm.step R c,Ai y=true:=by
 have plain:∀ y ∈ c::R,Ai y=true:=λy hy=>by
  rcases jal.1 hy with rfl | hy
  ·exact hc
  ·exact hR y hy
 unfold Norm.step;split
 ·exact plain
 ·rename_i s A hA
  split
  ·split
   ·rename_i x hx
    intro y hy;rw [jap,jal] at hy;rcases hy with hy | rfl | hy
    · exact hR y ((List.takeWhile_sublist _).subset hy)
    · exact Agm hx
    · exact hR y ((List.dropWhile_sublist (λy=>decide (0<Ad y))).subset (by rw [hA];simp [hy]))
   ·exact plain
  ·exact plain
theorem Wx {l:List Int} (h:Ae l=true):Ae (Norm.join l)=true:=by
 have key:∀ (l R:List Int),(∀ y ∈ l,Ai y=true)->(∀ y ∈ R,Ai y=true)->∀ y ∈ l.foldl Norm.step R,Ai y=true:=by
  intro l;induction l with
  | nil=>exact λR _ hR=>hR
  | cons c l ih=>exact λR hl hR=>ih (Norm.step R c) (λy hy=>hl y (by simp [hy])) (Ald hR (hl c jS))
 unfold Ae at h ⊢;rw [jar] at h ⊢;intro c hc;unfold Norm.join at hc;rw [List.mem_reverse] at hc;exact key l [] h (λy hy=>by cases hy) c hc
def Ex (soft join:Bool) (l:List Int):List Int:=if join then Norm.join (Norm.down soft l) else Norm.down soft l
theorem Wo (soft join:Bool) {l:List Int} (h:Ae l=true):Ae (Ex soft join l)=true:=by
 unfold Ex;split
 · exact Wx (Oz soft h)
 · exact Oz soft h
theorem Ad0 {x y:List Int} (h:Norm.Sim x y):x.length=y.length:=by
 induction h with
 | refl l=>rfl
 | swap p a b q _ _ _=>simp
 | trans _ _ ih1 ih2=>exact ih1.trans ih2
theorem Aau (l:List Int):(Norm.join l).length<=l.length:=by
 have:=Norm.Ww l l.length (jaa _);rwa [List.take_length] at this
theorem Yi {l:List Int} (h:Ae l=true):Aq6 l=Ag l:=by unfold Aq6;rw [h,if_pos rfl]
end
