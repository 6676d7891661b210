import Derived.Test.YtipkfalbepiphaaGreatDoorUcdAll
import Derived.Test.YtipkfalbepiphaaGreatDoorPlainA
import Derived.Test.YtipkfalbepiphaaGreatDoorUtfB
namespace Go.Proofs.YtipkfalbepiphaaGreatDoor
section
open Go.RowKit Utf
def Jm (l:List Int) (w:World) (e:Ending) (w':World):Prop:=∃ v,e=.returned v/\Av w.heap.size v l w'/\Below w.heap.size w w'
theorem Akx {soft:Bool} {r:Int} (h:Norm.syl r=false) (hs:∀ y,Ak r=some y->y.soft=true/\soft=false):Norm.pieces soft r=[r]:=by
 rw [Norm.Ba,h];cases e:Ak r with
 | none=>rfl
 | some y =>
  obtain ⟨h1,h2⟩:=hs y e;simp only [h1,h2];rfl
theorem Au5 {soft:Bool} {r:Int} {y:Sp} (h:Norm.syl r=false) (hs:Ak r=some y) (hn:(y.soft && !soft)=false):Norm.pieces soft r=Norm.pieces soft y.one ++ (if y.two=0 then [] else Norm.pieces soft y.two):=by
 rw [Norm.Ba,h,hs];simp only [hn];rfl
theorem U5:∀ (n:Nat) (soft:Bool) (r:Int),(Norm.one n soft r).length<=3*2 ^ n
 | 0,_,_=>by simp [Norm.one]
 | n+1,soft,r=>by
  unfold Norm.one;have h1:1<=2 ^ n:=Nat.one_le_two_pow;have h2:2 ^ (n+1)=2 ^ n*2:=Nat.pow_succ ..;split
  ·unfold Norm.C9;split<;>simp<;>omega
  ·split
   ·simp;omega
   ·rename_i x _
    split
    ·simp;omega
    ·have h3:=U5 n soft x.one;have h4:=U5 n soft x.two;rw [jab];split
     · simp;omega
     · omega
theorem Ao4 (soft:Bool) (r:Int):(Norm.pieces soft r).length<=48:=U5 4 soft r
def flat (x:Int):Bool:=(Ak x).isNone
def Vw (x:Int):Bool:=match Ak x with | none=>true | some y=>flat y.one && flat y.two
theorem Avw:∀ y ∈ splits,(Vw y.one && Vw y.two)=true:=by decide +kernel
theorem Aw6:∀ i ∈ List.range 94,(Vw (65281+i - 65248) && Vw 0)=true:=by decide +kernel
theorem Aan {x:Int} {y:Sp} (h:Ak x=some y):Vw y.one=true/\Vw y.two=true:=by
 rw [<- jag];rcases Bn h with ⟨hy,rfl⟩ | ⟨hw,rfl⟩
 ·exact Avw y hy
 ·simp only [Bp,jag,decide_eq_true_eq] at hw;have:=Aw6 (x - 65281).toNat (by rw [List.mem_range];omega);rwa [show (65281:Int)+((x - 65281).toNat:Int)=x by omega] at this
theorem Apy (soft:Bool) (l:List Int) (r:Int):Norm.split soft (l ++ [r])=Norm.split soft l ++ Norm.pieces soft r:=by simp [Norm.split]
theorem Ale:∀ y ∈ splits,(Norm.pieces true y.rune).length<=20/\(Norm.pieces false y.rune).length<=20:=by decide +kernel
theorem A2g:∀ i ∈ List.range 94,(Norm.pieces true (65281+i)).length<=20/\(Norm.pieces false (65281+i)).length<=20:=by decide +kernel
theorem Ao5 (soft:Bool) (x:Int):(Norm.pieces soft x).length<=20:=by
 cases ho:Ak x with
 | some y =>
  rcases Bn ho with ⟨h1,rfl⟩ | ⟨h1,-⟩
  ·cases soft
   · exact (Ale y h1).2
   · exact (Ale y h1).1
  ·unfold Bp at h1;rw [jag,decide_eq_true_eq,decide_eq_true_eq] at h1;have h:=A2g (x - 65281).toNat (List.mem_range.2 jO);rw [show (65281:Int)+((x - 65281).toNat:Nat)=x by omega] at h;cases soft
   · exact h.2
   · exact h.1
 | none =>
  rw [Norm.Ba,ho];split
  ·unfold Norm.C9;split<;>simp
  ·simp
theorem Awh (soft:Bool) (l:List Int):(Norm.split soft l).length<=20*l.length:=by
 induction l with
 | nil=>simp [Norm.split]
 | cons r l ih =>
  have:=Ao5 soft r;simp only [Norm.split,jao,jab,jac] at ih ⊢;omega
end
section
open Go.RowKit Utf
namespace Norm
end Norm
def Ab4 (L d:List Int) (x:Int) (t:List Int):Prop:=Norm.pass L=d ++ Norm.bub x t/\L.length=d.length+1+t.length
end
section
open Go.RowKit Utf
theorem A6y {a b:Int} (h:4352<=a/\a<=4370/\4449<=b/\b<=4469):Norm.D8 a b=some (44032+(a - 4352)*588+(b - 4449)*28):=by
 unfold Norm.D8;rw [if_pos h]
theorem A6b {a b:Int} (h:44032<=a/\a<=55203/\(a - 44032) % 28=0/\4520<=b/\b<=4546):Norm.D8 a b=some (a+b - 4519):=by
 unfold Norm.D8;rw [if_neg jO,if_pos ⟨(Norm.Cp a).2 ⟨h.1,h.2.1⟩,h.2.2⟩]
theorem Aru {a b:Int} (h1:¬ (4352<=a/\a<=4370/\4449<=b/\b<=4469)) (h2:¬ (44032<=a/\a<=55203/\(a - 44032) % 28=0/\4520<=b/\b<=4546)):Norm.D8 a b=Gv a b:=by
 unfold Norm.D8;rw [if_neg h1,if_neg λh=>h2 ⟨((Norm.Cp a).1 h.1).1,((Norm.Cp a).1 h.1).2,h.2⟩]
namespace Norm
theorem Fo {p:Int->Bool}:∀ {M:List Int} (B:List Int),(∀ y ∈ M,p y=true)->(∀ s t,B=s::t->p s=false)->(M ++ B).takeWhile p=M/\(M ++ B).dropWhile p=B
 | [],B,_,hB=>by
  cases B with
  | nil=>exact ⟨rfl,rfl⟩
  | cons s t =>
   have:=hB s t rfl;simp [this]
 | y::M,B,hM,hB=>by
  obtain ⟨h1,h2⟩:=Fo B (M:=M) (λz hz=>hM z (by simp [hz])) hB;have hy:=hM y jS;simp only [jah,List.takeWhile_cons,List.dropWhile_cons,hy,if_true,h1,h2];exact ⟨trivial,trivial⟩
def next (o:List Int) (x:Int):List Int:=(step o.reverse x).reverse
theorem Adi (l:List Int) (k:Nat) (h:k<l.length):join (l.take (k+1))=next (join (l.take k)) l[k]!:=by
 unfold join Aje next;rw [List.take_succ_eq_append_getElem h,List.foldl_append,getElem!_pos l k h,List.reverse_reverse];rfl
theorem Aup {M:List Int} (x:Int) (hM:∀ y ∈ M,0<Ad y):next M x=M ++ [x]:=by
 obtain ⟨h1,h2⟩:=Fo (p:=λy=>decide (0<Ad y)) (M:=M.reverse) [] (λy hy=>by simpa using hM y (by simpa using hy)) (λs t h=>by cases h);rw [List.append_nil] at h1 h2;unfold next step;rw [h2];simp
theorem A35 {Q M:List Int} (s x:Int) (hM:∀ y ∈ M,0<Ad y) (hs:¬ 0<Ad s) :
  next (Q ++ s::M) x=if M.all (λy=>decide (Ad y<Ad x))=true then (match D8 s x with | some z=>Q ++ z::M | none=>Q ++ s::M ++ [x]) else Q ++ s::M ++ [x]:=by
 have e:(Q ++ s::M).reverse=M.reverse ++ s::Q.reverse:=by simp
 obtain ⟨h1,h2⟩:=Fo (p:=λy=>decide (0<Ad y)) (M:=M.reverse) (s::Q.reverse) (λy hy=>by simpa using hM y (by simpa using hy)) (λs' t h=>by cases h;simpa using hs);unfold next step;rw [e,h1,h2,List.all_reverse];simp only;split
 ·cases D8 s x with
  | some z=>simp
  | none=>simp
 ·simp
theorem Lr (Q:List Int) (s:Int) (M:List Int):(Q ++ s::M)[Q.length]! = s:=by simp
theorem Ag0 (Q:List Int) (s z:Int) (M:List Int):(Q ++ s::M).set Q.length z=Q ++ z::M:=by
 rw [List.set_append_right _ _ (jaa _),Nat.sub_self];rfl
theorem A0b (o:List Int) (x:Int):(next o x).length<=o.length+1:=by
 unfold next step;split
 ·simp
 ·rename_i s A hA
  split
  ·split
   ·have:=congrArg List.length (List.takeWhile_append_dropWhile (p:=λy=>decide (0<Ad y)) (l:=o.reverse));rw [hA] at this;simp only [jab,jac,List.length_reverse] at this ⊢;omega
   ·simp
  ·simp
theorem Y6:∀ (l:List Int) (k:Nat),k<=l.length->(join (l.take k)).length<=k
 | _,0,_=>by simp [join,Aje]
 | l,k+1,h=>by
  rw [Adi l k jO];have:=Y6 l k jO;have:=A0b (join (l.take k)) l[k]!;omega
end Norm
end
section
open Go.RowKit Utf
theorem Apq:∀ y ∈ splits,(Aj y.rune && (Norm.pieces false y.rune).all Aj && (Norm.pieces true y.rune).all Aj)=true:=by decide +kernel
theorem Aqd:∀ i ∈ List.range 94,(Aj (65281+i) && (Norm.pieces false (65281+i)).all Aj && (Norm.pieces true (65281+i)).all Aj)=true:=by decide +kernel
theorem Wi (soft:Bool) {x:Int} {y:Sp} (h:Ak x=some y):Aj x=true/\∀ c ∈ Norm.pieces soft x,Aj c=true:=by
 have key:(Aj x && (Norm.pieces false x).all Aj && (Norm.pieces true x).all Aj)=true:=by
  rcases Bn h with ⟨hy,rfl⟩ | ⟨hw,rfl⟩
  ·exact Apq y hy
  ·simp only [Bp,jag,decide_eq_true_eq] at hw;have:=Aqd (x - 65281).toNat (by rw [List.mem_range];omega);rwa [show (65281:Int)+((x - 65281).toNat:Int)=x by omega] at this
 simp only [jag] at key;refine ⟨key.1.1,?_⟩;cases soft
 ·exact jar.1 key.1.2
 ·exact jar.1 key.2
theorem Agn (soft:Bool) {r:Int} (h:Aj r=true):∀ c ∈ Norm.pieces soft r,Aj c=true:=by
 cases hs:Norm.syl r with
 | true =>
  rw [Norm.Ba,hs];intro c hc;have:=(Norm.Ii c).1 (Norm.Ok hs c hc);exact (An c).2 jO
 | false =>
  cases hp:Ak r with
  | none =>
   intro c hc;rw [Norm.Ba,hs,hp] at hc;simp only [Bool.false_eq_true,if_false,List.mem_singleton] at hc;rw [hc];exact h
  | some y=>exact (Wi soft hp).2
theorem Qo (soft:Bool) {l:List Int} (h:Ae l=true):Ae (Norm.down soft l)=true:=by
 unfold Ae at h ⊢;rw [jar] at h ⊢;intro c hc;obtain ⟨r,hr,hcr⟩:=Norm.Ry soft l c hc;exact Agn soft (h r hr) c hcr
theorem Aj5 {a b x:Int} (h:Norm.D8 a b=some x):Aj x=true:=by
 unfold Norm.D8 at h;split at h
 ·obtain rfl:=Option.some.inj h;exact (An _).2 jO
 ·split at h
  ·rename_i h2
   obtain rfl:=Option.some.inj h;have:=(Norm.Cp a).1 h2.1;exact (An _).2 jO
  ·obtain ⟨y,hy,-⟩:=F8 h;exact (Wi false hy).1
theorem Ap0 {R:List Int} {c:Int} (hR:∀ y ∈ R,Aj y=true) (hc:Aj c=true):∀ y ∈ Norm.step R c,Aj y=true:=by
 have plain:∀ y ∈ c::R,Aj y=true:=λy hy=>by
  rcases jal.1 hy with rfl | hy
  ·exact hc
  ·exact hR y hy
 unfold Norm.step;split
 ·exact plain
 ·rename_i s A hA
  split
  ·split
   ·rename_i x hx
    intro y hy;rw [jap,jal] at hy;rcases hy with hy | rfl | hy
    · exact hR y ((List.takeWhile_sublist _).subset hy)
    · exact Aj5 hx
    · exact hR y ((List.dropWhile_sublist (λy=>decide (0<Ad y))).subset (by rw [hA];simp [hy]))
   ·exact plain
  ·exact plain
theorem Y7 {l:List Int} (h:Ae l=true):Ae (Norm.join l)=true:=by
 have key:∀ (l R:List Int),(∀ y ∈ l,Aj y=true)->(∀ y ∈ R,Aj y=true)->∀ y ∈ l.foldl Norm.step R,Aj y=true:=by
  intro l;induction l with
  | nil=>exact λR _ hR=>hR
  | cons c l ih=>exact λR hl hR=>ih (Norm.step R c) (λy hy=>hl y (by simp [hy])) (Ap0 hR (hl c jS))
 unfold Ae at h ⊢;rw [jar] at h ⊢;intro c hc;unfold Norm.join at hc;rw [List.mem_reverse] at hc;exact key l [] h (λy hy=>by cases hy) c hc
def Fe (soft join:Bool) (l:List Int):List Int:=if join then Norm.join (Norm.down soft l) else Norm.down soft l
theorem Ys (soft join:Bool) {l:List Int} (h:Ae l=true):Ae (Fe soft join l)=true:=by
 unfold Fe;split
 · exact Y7 (Qo soft h)
 · exact Qo soft h
theorem Ag1 {x y:List Int} (h:Norm.Sim x y):x.length=y.length:=by
 induction h with
 | refl l=>rfl
 | swap p a b q _ _ _=>simp
 | trans _ _ ih1 ih2=>exact ih1.trans ih2
theorem Adh (l:List Int):(Norm.join l).length<=l.length:=by
 have:=Norm.Y6 l l.length (jaa _);rwa [List.take_length] at this
theorem Aat {l:List Int} (h:Ae l=true):Awo l=Ah l:=by unfold Awo;rw [h,if_pos rfl]
end
