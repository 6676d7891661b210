import Derived.Test.YtpcgbgfpnhiihaaGreatDoorUcdAll
import Derived.Test.YtpcgbgfpnhiihaaGreatDoorPlainA
import Derived.Test.YtpcgbgfpnhiihaaGreatDoorUtfB
namespace Go.Proofs.YtpcgbgfpnhiihaaGreatDoor
section
open Go.RowKit Utf
def Il (l:List Int) (w:World) (e:Ending) (w':World):Prop:=∃ v,e=.returned v/\Av w.heap.size v l w'/\Below w.heap.size w w'
theorem Agz {soft:Bool} {r:Int} (h:Norm.syl r=false) (hs:∀ y,Aj r=some y->y.soft=true/\soft=false):Norm.pieces soft r=[r]:=by
 rw [Norm.Ay,h]
 cases e:Aj r with
 | none=>rfl
 | some y =>
  obtain ⟨h1,h2⟩:=hs y e
  simp only [h1,h2]
  rfl
theorem Apg {soft:Bool} {r:Int} {y:Sp} (h:Norm.syl r=false) (hs:Aj r=some y) (hn:(y.soft && !soft)=false):Norm.pieces soft r=Norm.pieces soft y.one ++ (if y.two=0 then [] else Norm.pieces soft y.two):=by
 rw [Norm.Ay,h,hs]
 simp only [hn]
 rfl
theorem Ta:∀ (n:Nat) (soft:Bool) (r:Int),(Norm.one n soft r).length<=3*2 ^ n
 | 0,_,_=>by simp [Norm.one]
 | n+1,soft,r=>by
  unfold Norm.one
  have h1:1<=2 ^ n:=Nat.one_le_two_pow
  have h2:2 ^ (n+1)=2 ^ n*2:=Nat.pow_succ ..
  split
  ·unfold Norm.Cr
   split<;>simp<;>omega
  ·split
   ·simp;omega
   ·rename_i x _
    split
    ·simp;omega
    ·have h3:=Ta n soft x.one
     have h4:=Ta n soft x.two
     rw [List.length_append]
     split
     · simp;omega
     · omega
theorem Akh (soft:Bool) (r:Int):(Norm.pieces soft r).length<=48:=Ta 4 soft r
def flat (x:Int):Bool:=(Aj x).isNone
def Tz (x:Int):Bool:=match Aj x with | none=>true | some y=>flat y.one && flat y.two
theorem Ap6:∀ y ∈ splits,(Tz y.one && Tz y.two)=true:=by decide +kernel
theorem Aq8:∀ i ∈ List.range 94,(Tz (65281+i - 65248) && Tz 0)=true:=by decide +kernel
theorem X9 {x:Int} {y:Sp} (h:Aj x=some y):Tz y.one=true/\Tz y.two=true:=by
 rw [<- Bool.and_eq_true]
 rcases Bi h with ⟨hy,rfl⟩ | ⟨hw,rfl⟩
 ·exact Ap6 y hy
 ·simp only [Bl,Bool.and_eq_true,decide_eq_true_eq] at hw
  have:=Aq8 (x - 65281).toNat (by rw [List.mem_range];omega)
  rwa [show (65281:Int)+((x - 65281).toNat:Int)=x by omega] at this
theorem Ak2 (soft:Bool) (l:List Int) (r:Int):Norm.split soft (l ++ [r])=Norm.split soft l ++ Norm.pieces soft r:=by simp [Norm.split]
theorem Ahd:∀ y ∈ splits,(Norm.pieces true y.rune).length<=20/\(Norm.pieces false y.rune).length<=20:=by decide +kernel
theorem Ave:∀ i ∈ List.range 94,(Norm.pieces true (65281+i)).length<=20/\(Norm.pieces false (65281+i)).length<=20:=by decide +kernel
theorem Aki (soft:Bool) (x:Int):(Norm.pieces soft x).length<=20:=by
 cases ho:Aj x with
 | some y =>
  rcases Bi ho with ⟨h1,rfl⟩ | ⟨h1,-⟩
  ·cases soft
   · exact (Ahd y h1).2
   · exact (Ahd y h1).1
  ·unfold Bl at h1
   rw [Bool.and_eq_true,decide_eq_true_eq,decide_eq_true_eq] at h1
   have h:=Ave (x - 65281).toNat (List.mem_range.2 (by omega))
   rw [show (65281:Int)+((x - 65281).toNat:Nat)=x by omega] at h
   cases soft
   · exact h.2
   · exact h.1
 | none =>
  rw [Norm.Ay,ho]
  split
  ·unfold Norm.Cr
   split<;>simp
  ·simp
theorem Aqp (soft:Bool) (l:List Int):(Norm.split soft l).length<=20*l.length:=by
 induction l with
 | nil=>simp [Norm.split]
 | cons r l ih =>
  have:=Aki soft r
  simp only [Norm.split,List.flatMap_cons,List.length_append,List.length_cons] at ih ⊢
  omega
end
section
open Go.RowKit Utf
namespace Norm
end Norm
end
section
open Go.RowKit Utf
theorem Ayt {a b:Int} (h:4352<=a/\a<=4370/\4449<=b/\b<=4469):Norm.Dr a b=some (44032+(a - 4352)*588+(b - 4449)*28):=by
 unfold Norm.Dr;rw [if_pos h]
theorem Ayg {a b:Int} (h:44032<=a/\a<=55203/\(a - 44032) % 28=0/\4520<=b/\b<=4546):Norm.Dr a b=some (a+b - 4519):=by
 unfold Norm.Dr;rw [if_neg (by omega),if_pos ⟨(Norm.Cd a).2 ⟨h.1,h.2.1⟩,h.2.2⟩]
theorem Amk {a b:Int} (h1:¬ (4352<=a/\a<=4370/\4449<=b/\b<=4469)) (h2:¬ (44032<=a/\a<=55203/\(a - 44032) % 28=0/\4520<=b/\b<=4546)):Norm.Dr a b=Gg a b:=by
 unfold Norm.Dr;rw [if_neg h1,if_neg λh=>h2 ⟨((Norm.Cd a).1 h.1).1,((Norm.Cd a).1 h.1).2,h.2⟩]
namespace Norm
theorem E9 {p:Int->Bool}:∀ {M:List Int} (B:List Int),(∀ y ∈ M,p y=true)->(∀ s t,B=s::t->p s=false)->(M ++ B).takeWhile p=M/\(M ++ B).dropWhile p=B
 | [],B,_,hB=>by
  cases B with
  | nil=>exact ⟨rfl,rfl⟩
  | cons s t =>
   have:=hB s t rfl
   simp [this]
 | y::M,B,hM,hB=>by
  obtain ⟨h1,h2⟩:=E9 B (M:=M) (λz hz=>hM z (by simp [hz])) hB
  have hy:=hM y (by simp)
  simp only [List.cons_append,List.takeWhile_cons,List.dropWhile_cons,hy,if_true,h1,h2]
  exact ⟨trivial,trivial⟩
def next (o:List Int) (x:Int):List Int:=(step o.reverse x).reverse
theorem Aaq (l:List Int) (k:Nat) (h:k<l.length):join (l.take (k+1))=next (join (l.take k)) l[k]!:=by
 unfold join Afv next
 rw [List.take_succ_eq_append_getElem h,List.foldl_append,getElem!_pos l k h,List.reverse_reverse]
 rfl
theorem Ao7 {M:List Int} (x:Int) (hM:∀ y ∈ M,0<Ae y):next M x=M ++ [x]:=by
 obtain ⟨h1,h2⟩:=E9 (p:=λy=>decide (0<Ae y)) (M:=M.reverse) [] (λy hy=>by simpa using hM y (by simpa using hy)) (λs t h=>by cases h)
 rw [List.append_nil] at h1 h2
 unfold next step
 rw [h2]
 simp
theorem Awm {Q M:List Int} (s x:Int) (hM:∀ y ∈ M,0<Ae y) (hs:¬ 0<Ae s) :
  next (Q ++ s::M) x=if M.all (λy=>decide (Ae y<Ae x))=true then (match Dr s x with | some z=>Q ++ z::M | none=>Q ++ s::M ++ [x]) else Q ++ s::M ++ [x]:=by
 have e:(Q ++ s::M).reverse=M.reverse ++ s::Q.reverse:=by simp
 obtain ⟨h1,h2⟩:=E9 (p:=λy=>decide (0<Ae y)) (M:=M.reverse) (s::Q.reverse) (λy hy=>by simpa using hM y (by simpa using hy)) (λs' t h=>by cases h;simpa using hs)
 unfold next step
 rw [e,h1,h2,List.all_reverse]
 simp only
 split
 ·cases Dr s x with
  | some z=>simp
  | none=>simp
 ·simp
theorem Ko (Q:List Int) (s:Int) (M:List Int):(Q ++ s::M)[Q.length]! = s:=by simp
theorem Adu (Q:List Int) (s z:Int) (M:List Int):(Q ++ s::M).set Q.length z=Q ++ z::M:=by
 rw [List.set_append_right _ _ (Nat.le_refl _),Nat.sub_self]
 rfl
theorem Atp (o:List Int) (x:Int):(next o x).length<=o.length+1:=by
 unfold next step
 split
 ·simp
 ·rename_i s A hA
  split
  ·split
   ·have:=congrArg List.length (List.takeWhile_append_dropWhile (p:=λy=>decide (0<Ae y)) (l:=o.reverse))
    rw [hA] at this
    simp only [List.length_append,List.length_cons,List.length_reverse] at this ⊢
    omega
   ·simp
  ·simp
theorem Wt:∀ (l:List Int) (k:Nat),k<=l.length->(join (l.take k)).length<=k
 | _,0,_=>by simp [join,Afv]
 | l,k+1,h=>by
  rw [Aaq l k (by omega)]
  have:=Wt l k (by omega)
  have:=Atp (join (l.take k)) l[k]!
  omega
end Norm
end
section
open Go.RowKit Utf
theorem Akv:∀ y ∈ splits,(Ak y.rune && (Norm.pieces false y.rune).all Ak && (Norm.pieces true y.rune).all Ak)=true:=by decide +kernel
theorem Alj:∀ i ∈ List.range 94,(Ak (65281+i) && (Norm.pieces false (65281+i)).all Ak && (Norm.pieces true (65281+i)).all Ak)=true:=by decide +kernel
theorem Un (soft:Bool) {x:Int} {y:Sp} (h:Aj x=some y):Ak x=true/\∀ c ∈ Norm.pieces soft x,Ak c=true:=by
 have key:(Ak x && (Norm.pieces false x).all Ak && (Norm.pieces true x).all Ak)=true:=by
  rcases Bi h with ⟨hy,rfl⟩ | ⟨hw,rfl⟩
  ·exact Akv y hy
  ·simp only [Bl,Bool.and_eq_true,decide_eq_true_eq] at hw
   have:=Alj (x - 65281).toNat (by rw [List.mem_range];omega)
   rwa [show (65281:Int)+((x - 65281).toNat:Int)=x by omega] at this
 simp only [Bool.and_eq_true] at key
 refine ⟨key.1.1,?_⟩
 cases soft
 ·exact List.all_eq_true.1 key.1.2
 ·exact List.all_eq_true.1 key.2
theorem Adj (soft:Bool) {r:Int} (h:Ak r=true):∀ c ∈ Norm.pieces soft r,Ak c=true:=by
 cases hs:Norm.syl r with
 | true =>
  rw [Norm.Ay,hs]
  intro c hc
  have:=(Norm.Hk c).1 (Norm.Ng hs c hc)
  exact (Al c).2 (by omega)
 | false =>
  cases hp:Aj r with
  | none =>
   intro c hc
   rw [Norm.Ay,hs,hp] at hc
   simp only [Bool.false_eq_true,if_false,List.mem_singleton] at hc
   rw [hc];exact h
  | some y=>exact (Un soft hp).2
theorem Oy (soft:Bool) {l:List Int} (h:Af l=true):Af (Norm.down soft l)=true:=by
 unfold Af at h ⊢
 rw [List.all_eq_true] at h ⊢
 intro c hc
 obtain ⟨r,hr,hcr⟩:=Norm.Qk soft l c hc
 exact Adj soft (h r hr) c hcr
theorem Agd {a b x:Int} (h:Norm.Dr a b=some x):Ak x=true:=by
 unfold Norm.Dr at h
 split at h
 ·obtain rfl:=Option.some.inj h
  exact (Al _).2 (by omega)
 ·split at h
  ·rename_i h2
   obtain rfl:=Option.some.inj h
   have:=(Norm.Cd a).1 h2.1
   exact (Al _).2 (by omega)
  ·obtain ⟨y,hy,-⟩:=Ft h
   exact (Un false hy).1
theorem Ak4 {R:List Int} {c:Int} (hR:∀ y ∈ R,Ak y=true) (hc:Ak c=true):∀ y ∈ Norm.step R c,Ak y=true:=by
 have plain:∀ y ∈ c::R,Ak y=true:=λy hy=>by
  rcases List.mem_cons.1 hy with rfl | hy
  ·exact hc
  ·exact hR y hy
 unfold Norm.step
 split
 ·exact plain
 ·rename_i s A hA
  split
  ·split
   ·rename_i x hx
    intro y hy
    rw [List.mem_append,List.mem_cons] at hy
    rcases hy with hy | rfl | hy
    · exact hR y ((List.takeWhile_sublist _).subset hy)
    · exact Agd hx
    · exact hR y ((List.dropWhile_sublist (λy=>decide (0<Ae y))).subset (by rw [hA];simp [hy]))
   ·exact plain
  ·exact plain
theorem Wu {l:List Int} (h:Af l=true):Af (Norm.join l)=true:=by
 have key:∀ (l R:List Int),(∀ y ∈ l,Ak y=true)->(∀ y ∈ R,Ak y=true)->∀ y ∈ l.foldl Norm.step R,Ak y=true:=by
  intro l
  induction l with
  | nil=>exact λR _ hR=>hR
  | cons c l ih=>exact λR hl hR=>ih (Norm.step R c) (λy hy=>hl y (by simp [hy])) (Ak4 hR (hl c (by simp)))
 unfold Af at h ⊢
 rw [List.all_eq_true] at h ⊢
 intro c hc
 unfold Norm.join at hc
 rw [List.mem_reverse] at hc
 exact key l [] h (λy hy=>by cases hy) c hc
def Ev (soft join:Bool) (l:List Int):List Int:=if join then Norm.join (Norm.down soft l) else Norm.down soft l
theorem Wl (soft join:Bool) {l:List Int} (h:Af l=true):Af (Ev soft join l)=true:=by
 unfold Ev
 split
 · exact Wu (Oy soft h)
 · exact Oy soft h
theorem Adv {x y:List Int} (h:Norm.Sim x y):x.length=y.length:=by
 induction h with
 | refl l=>rfl
 | swap p a b q _ _ _=>simp
 | trans _ _ ih1 ih2=>exact ih1.trans ih2
theorem Aap (l:List Int):(Norm.join l).length<=l.length:=by
 have:=Norm.Wt l l.length (Nat.le_refl _)
 rwa [List.take_length] at this
theorem Yf {l:List Int} (h:Af l=true):Aqw l=Ah l:=by unfold Aqw;rw [h,if_pos rfl]
end
end Go.Proofs.YtpcgbgfpnhiihaaGreatDoor
