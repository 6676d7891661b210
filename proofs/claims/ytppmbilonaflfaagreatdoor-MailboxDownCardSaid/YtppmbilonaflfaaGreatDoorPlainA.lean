import Derived.Test.YtppmbilonaflfaaGreatDoorTabPl
namespace Go.Proofs.YtppmbilonaflfaaGreatDoor
section
def Agu (y:Sp):Bool:=match Aj y.rune with | some s=>s.one == y.one && s.two == y.two && s.out == y.out | none=>false
theorem Aqz:∀ y ∈ splits,Agu y=true:=by decide +kernel
theorem Am2:∀ y ∈ splits,y.out=false->Gq y.one y.two=some y.rune/\y.two ≠ 0/\y.soft=false:=by decide +kernel
theorem Bk {x:Int} {y:Sp} (h:Aj x=some y):(y ∈ splits/\y.rune=x)\/(Bm x=true/\y=⟨x,x - 65248,0,true,true⟩):=by
 unfold Aj at h
 cases hr:rowOf x with
 | some z =>
  rw [hr] at h
  obtain rfl:=Option.some.inj h
  obtain ⟨h1,h2,h3⟩:=Da hr
  exact .inl ⟨h1,Int.le_antisymm h2 h3⟩
 | none =>
  rw [hr] at h
  cases hw:Bm x with
  | true=>simp only [hw,if_true,Option.some.injEq] at h;exact .inr ⟨rfl,h.symm⟩
  | false=>simp [hw] at h
theorem Ot {x:Int} {y:Sp} (h:Aj x=some y) (ho:y.out=false):Gq y.one y.two=some x/\y.two ≠ 0/\y.soft=false:=by
 rcases Bk h with ⟨hy,rfl⟩ | ⟨_,rfl⟩
 · exact Am2 y hy ho
 · cases ho
theorem F0 {a b z:Int} (h:Gq a b=some z):∃ y,Aj z=some y/\y.one=a/\y.two=b/\y.out=false:=by
 unfold Gq at h
 by_cases hb:b=0
 ·rw [if_pos hb] at h;cases h
 ·rw [if_neg hb] at h
  cases hf:splits.find? (makes a b) with
  | none=>rw [hf] at h;cases h
  | some s =>
   rw [hf] at h
   have hz:s.rune=z:=by simpa using h
   have hm:=List.find?_some hf
   have hs:=List.mem_of_find?_eq_some hf
   simp only [makes,Bool.and_eq_true,Bool.not_eq_true',beq_iff_eq] at hm
   have ht:=Aqz s hs
   unfold Agu at ht
   rw [hz] at ht
   cases hq:Aj z with
   | none=>rw [hq] at ht;cases ht
   | some y =>
    rw [hq] at ht
    simp only [Bool.and_eq_true,beq_iff_eq] at ht
    exact ⟨y,rfl,by rw [ht.1.1,hm.1.2],by rw [ht.1.2,hm.2],by rw [ht.2,hm.1.1.2]⟩
def Atx (x:Int):Bool:=decide (Fp (Fp x)=Fp x/\Dk x=1/\Dk (Fp x)=2/\Ba (Fp x)=Ba x/\Af (Fp x)=0/\Ay (Fp x)=Ay x)
theorem Atj:∀ y ∈ lowers,∀ i ∈ List.range (y.hi - y.lo+1).toNat,Atx (y.lo+i)=true:=by decide +kernel
theorem Anu (x:Int):Fp x=x\/Atx x=true:=by
 cases h:Km x with
 | none=>left;unfold Fp;rw [h]
 | some y =>
  right
  obtain ⟨h1,h2,h3⟩:=Da h
  have:=Atj y h1 (x - y.lo).toNat (by rw [List.mem_range];omega)
  rwa [show y.lo+((x - y.lo).toNat:Int)=x by omega] at this
def Rr (x one two:Int) (soft:Bool):Bool:=decide (Af one=0/\Af x=0/\(two=0\/soft=true\/0<Af two)/\Dk one ≠ 0)
theorem Ako:∀ y ∈ splits,Rr y.rune y.one y.two y.soft=true:=by decide +kernel
theorem Aj7:∀ i ∈ List.range 94,Rr (65281+i) (65281+i - 65248) 0 true=true:=by decide +kernel
theorem Um {x:Int} {y:Sp} (h:Aj x=some y):Rr x y.one y.two y.soft=true:=by
 rcases Bk h with ⟨hy,rfl⟩ | ⟨hw,rfl⟩
 ·exact Ako y hy
 ·simp only [Bm,Bool.and_eq_true,decide_eq_true_eq] at hw
  have:=Aj7 (x - 65281).toNat (by rw [List.mem_range];omega)
  rwa [show (65281:Int)+((x - 65281).toNat:Int)=x by omega] at this
end
section
namespace Norm
def syl (r:Int):Bool:=decide (44032<=r) && decide (r<=55203)
def Cv (r:Int):List Int:=[4352+(r - 44032) / 588,4449+(r - 44032) % 588 / 28] ++ (if (r - 44032) % 28=0 then [] else [4519+(r - 44032) % 28])
def one:Nat->Bool->Int->List Int
 | 0,_,r=>[r]
 | n+1,soft,r=>if syl r then Cv r else match Aj r with
  | none=>[r]
  | some x=>if x.soft && !soft then [r] else one n soft x.one ++ (if x.two=0 then [] else one n soft x.two)
def pieces (soft:Bool) (r:Int):List Int:=one 4 soft r
def whole (soft:Bool) (c:Int):Bool:=pieces soft c == [c]
theorem Dp {soft:Bool} {c:Int}:whole soft c=true ↔ pieces soft c=[c]:=by unfold whole;rw [beq_iff_eq]
def Ue (soft:Bool) (x a b:Int):Bool:=decide (one 3 soft a=one 4 soft a) && decide (one 3 soft b=one 4 soft b) && (pieces soft x).all (whole soft) && (pieces true x).all (whole false) && decide ((pieces false x).flatMap (pieces true)=pieces true x) && !syl x
theorem Ag1:∀ y ∈ splits,Ue false y.rune y.one y.two=true/\Ue true y.rune y.one y.two=true:=by decide +kernel
theorem Atv:∀ i ∈ List.range 94,Ue false (65281+i) (65281+i - 65248) 0=true/\Ue true (65281+i) (65281+i - 65248) 0=true:=by decide +kernel
theorem Tj (soft:Bool) {x:Int} {y:Sp} (h:Aj x=some y):Ue soft x y.one y.two=true:=by
 rcases Bk h with ⟨hy,rfl⟩ | ⟨hw,rfl⟩
 ·cases soft
  · exact (Ag1 y hy).1
  · exact (Ag1 y hy).2
 ·simp only [Bm,Bool.and_eq_true,decide_eq_true_eq] at hw
  have:=Atv (x - 65281).toNat (by rw [List.mem_range];omega)
  rw [show (65281:Int)+((x - 65281).toNat:Int)=x by omega] at this
  cases soft
  · exact this.1
  · exact this.2
theorem Ch (r:Int):syl r=true ↔ 44032<=r/\r<=55203:=by unfold syl;simp
theorem A9 (soft:Bool) (r:Int):pieces soft r=if syl r then Cv r else match Aj r with
  | none=>[r]
  | some x=>if x.soft && !soft then [r] else pieces soft x.one ++ (if x.two=0 then [] else pieces soft x.two):=by
 show one 4 soft r=_
 rw [one]
 cases hs:syl r with
 | true=>rfl
 | false =>
  simp only [Bool.false_eq_true,if_false]
  cases h:Aj r with
  | none=>rfl
  | some x =>
   have:=Tj soft h
   simp only [Ue,Bool.and_eq_true,decide_eq_true_eq] at this
   simp only [this.1.1.1.1.1,this.1.1.1.1.2]
   rfl
def Yt (c:Int):Bool:=(decide (4352<=c) && decide (c<=4370)) || (decide (4449<=c) && decide (c<=4469)) || (decide (4520<=c) && decide (c<=4546))
theorem Hq (c:Int):Yt c=true ↔ (4352<=c/\c<=4370)\/(4449<=c/\c<=4469)\/(4520<=c/\c<=4546):=by
 unfold Yt;simp [or_assoc]
def Ati (c:Int):Bool:=whole false c && whole true c && decide (Af c=0)
theorem Aob:∀ i ∈ List.range 195,Yt (4352+i)=true->Ati (4352+i)=true:=by decide +kernel
theorem Amp {c:Int} (h:Yt c=true):whole false c=true/\whole true c=true/\Af c=0:=by
 have h':=(Hq c).1 h
 have:=Aob (c - 4352).toNat (by rw [List.mem_range];omega)
 rw [show (4352:Int)+((c - 4352).toNat:Int)=c by omega] at this
 have:=this h
 simp only [Ati,Bool.and_eq_true,decide_eq_true_eq] at this
 exact ⟨this.1.1,this.1.2,this.2⟩
theorem I6 {c:Int} (h:Yt c=true) (soft:Bool):whole soft c=true:=by
 cases soft
 · exact (Amp h).1
 · exact (Amp h).2.1
theorem Mj {r:Int} (h:syl r=true):∀ c ∈ Cv r,Yt c=true:=by
 have h':=(Ch r).1 h
 intro c hc
 unfold Cv at hc
 rw [Hq]
 split at hc
 ·simp only [List.append_nil,List.mem_cons,List.not_mem_nil,or_false] at hc
  omega
 ·simp only [List.cons_append,List.nil_append,List.mem_cons,List.not_mem_nil,or_false] at hc
  omega
theorem Ad3 (soft:Bool) (r:Int):∀ c ∈ pieces soft r,whole soft c=true:=by
 cases hs:syl r with
 | true =>
  rw [A9,hs]
  exact λc hc=>I6 (Mj hs c hc) soft
 | false =>
  cases h:Aj r with
  | none =>
   have e:pieces soft r=[r]:=by rw [A9,hs,h];rfl
   intro c hc
   rw [e,List.mem_singleton] at hc
   rw [hc]
   exact Dp.2 e
  | some x =>
   have:=Tj soft h
   simp only [Ue,Bool.and_eq_true] at this
   exact List.all_eq_true.1 this.1.1.1.2
theorem Oe (soft:Bool) {l:List Int} (h:∀ c ∈ l,whole soft c=true):l.flatMap (pieces soft)=l:=by
 induction l with
 | nil=>rfl
 | cons a l ih =>
  rw [List.flatMap_cons,Dp.1 (h a (by simp)),ih λc hc=>h c (by simp [hc])]
  rfl
theorem Au8:∀ y ∈ Hf,y.hi<=12441:=by decide +kernel
theorem Alj {r:Int} (h:syl r=true):Af r=0:=by
 have h':=(Ch r).1 h
 unfold Af
 cases hc:Ach r with
 | none=>rfl
 | some y =>
  obtain ⟨h1,h2,h3⟩:=Da hc
  have:=Au8 y h1
  omega
theorem Lb (soft:Bool) {c:Int} (h:0<Af c):whole soft c=true:=by
 rw [Dp,A9]
 cases hs:syl c with
 | true=>rw [Alj hs] at h;omega
 | false =>
  cases hp:Aj c with
  | none=>rfl
  | some x =>
   have:=Um hp
   simp only [Rr,decide_eq_true_eq] at this
   omega
def Dy (a b:Int):Option Int :=
 if 4352<=a/\a<=4370/\4449<=b/\b<=4469 then some (44032+(a - 4352)*588+(b - 4449)*28)
 else if syl a=true/\(a - 44032) % 28=0/\4520<=b/\b<=4546 then some (a+b - 4519)
 else Gq a b
theorem Aq1 (soft:Bool) {a b x:Int} (h:Dy a b=some x):pieces soft x=pieces soft a ++ pieces soft b:=by
 unfold Dy at h
 by_cases h1:4352<=a/\a<=4370/\4449<=b/\b<=4469
 ·rw [if_pos h1] at h
  have hx:=(Option.some.inj h).symm
  have ha:Yt a=true:=(Hq a).2 (by omega)
  have hb:Yt b=true:=(Hq b).2 (by omega)
  rw [Dp.1 (I6 ha soft),Dp.1 (I6 hb soft),A9,if_pos ((Ch x).2 (by omega))]
  unfold Cv
  rw [if_pos (by omega),show 4352+(x - 44032) / 588=a by omega,show 4449+(x - 44032) % 588 / 28=b by omega]
  rfl
 ·rw [if_neg h1] at h
  by_cases h2:syl a=true/\(a - 44032) % 28=0/\4520<=b/\b<=4546
  ·rw [if_pos h2] at h
   have hx:=(Option.some.inj h).symm
   have ha:=(Ch a).1 h2.1
   have hb:Yt b=true:=(Hq b).2 (by omega)
   rw [Dp.1 (I6 hb soft),A9,if_pos ((Ch x).2 (by omega)),A9,if_pos h2.1]
   unfold Cv
   rw [if_pos h2.2.1,if_neg (by omega),show 4352+(x - 44032) / 588=4352+(a - 44032) / 588 by omega,show 4449+(x - 44032) % 588 / 28=4449+(a - 44032) % 588 / 28 by omega,show 4519+(x - 44032) % 28=b by omega]
   rfl
  ·rw [if_neg h2] at h
   obtain ⟨y,hy,rfl,rfl,ho⟩:=F0 h
   obtain ⟨-,h3,h4⟩:=Ot hy ho
   have h5:=Tj soft hy
   simp only [Ue,Bool.and_eq_true,Bool.not_eq_true'] at h5
   rw [A9 soft x,h5.2,hy]
   simp only [h4,Bool.false_and,Bool.false_eq_true,if_false,if_neg h3]
inductive Sim:List Int->List Int->Prop
 | refl (l:List Int):Sim l l
 | swap (p:List Int) (a b:Int) (q:List Int):0<Af a->0<Af b->Af a ≠ Af b->Sim (p ++ a::b::q) (p ++ b::a::q)
 | trans {x y z:List Int}:Sim x y->Sim y z->Sim x z
theorem Sim.symm {x y:List Int} (h:Sim x y):Sim y x:=by
 induction h with
 | refl l=>exact .refl l
 | swap p a b q h1 h2 h3=>exact .swap p b a q h2 h1 λe=>h3 e.symm
 | trans _ _ ih1 ih2=>exact .trans ih2 ih1
theorem Sim.ahead {x y:List Int} (h:Sim x y) (p:List Int):Sim (p ++ x) (p ++ y):=by
 induction h with
 | refl l=>exact .refl _
 | swap p' a b q h1 h2 h3 =>
  rw [<- List.append_assoc,<- List.append_assoc]
  exact .swap _ a b q h1 h2 h3
 | trans _ _ ih1 ih2=>exact .trans ih1 ih2
theorem Sim.behind {x y:List Int} (h:Sim x y) (q:List Int):Sim (x ++ q) (y ++ q):=by
 induction h with
 | refl l=>exact .refl _
 | swap p a b q' h1 h2 h3 =>
  simp only [List.append_assoc,List.cons_append]
  exact .swap p a b _ h1 h2 h3
 | trans _ _ ih1 ih2=>exact .trans ih1 ih2
def ins (x:Int):List Int->List Int
 | []=>[x]
 | y::l=>if 0<Af y/\Af y<Af x then y::ins x l else x::y::l
def order:List Int->List Int
 | []=>[]
 | x::l=>ins x (order l)
theorem Xm {a b:Int} (ha:0<Af a) (hab:Af a<Af b):∀ L:List Int,ins a (ins b L)=ins b (ins a L)
 | []=>by simp only [ins];rw [if_neg (by omega),if_pos ⟨ha,hab⟩]
 | y::l=>by
  by_cases h1:0<Af y/\Af y<Af b
  ·by_cases h2:Af y<Af a
   ·simp only [ins,if_pos h1,if_pos (show 0<Af y/\Af y<Af a from ⟨h1.1,h2⟩)]
    rw [Xm ha hab l]
   ·simp only [ins,if_pos h1,if_neg (show ¬ (0<Af y/\Af y<Af a) from λh=>h2 h.2),if_pos (show 0<Af a/\Af a<Af b from ⟨ha,hab⟩)]
  ·simp only [ins,if_neg h1,if_neg (show ¬ (0<Af y/\Af y<Af a) from λh=>h1 ⟨h.1,by omega⟩),if_pos (show 0<Af a/\Af a<Af b from ⟨ha,hab⟩),if_neg (show ¬ (0<Af b/\Af b<Af a) from λh=>by omega)]
theorem Arr {a b:Int} (ha:0<Af a) (hb:0<Af b) (h:Af a ≠ Af b) (L:List Int):ins a (ins b L)=ins b (ins a L):=by
 rcases (show Af a<Af b\/Af b<Af a by omega) with h1 | h1
 · exact Xm ha h1 L
 · exact (Xm hb h1 L).symm
theorem Qj (p q:List Int):order (p ++ q)=p.foldr ins (order q):=by
 induction p with
 | nil=>rfl
 | cons x p ih=>simp only [List.cons_append,order,List.foldr_cons,ih]
theorem Nn {x y:List Int} (h:Sim x y):order x=order y:=by
 induction h with
 | refl l=>rfl
 | swap p a b q h1 h2 h3=>rw [Qj,Qj];simp only [order];rw [Arr h1 h2 h3]
 | trans _ _ ih1 ih2=>exact ih1.trans ih2
theorem Al2 (x:Int):∀ L:List Int,Sim (x::L) (ins x L)
 | []=>.refl _
 | y::l=>by
  unfold ins
  split
  ·rename_i h
   exact .trans (Sim.swap [] x y l (by omega) h.1 (by omega)) ((Al2 x l).ahead [y])
  ·exact .refl _
theorem Gs:∀ l:List Int,Sim l (order l)
 | []=>.refl _
 | x::l=>.trans ((Gs l).ahead [x]) (Al2 x _)
theorem Ad9 (l:List Int):order (order l)=order l:=(Nn (Gs l)).symm
def sorted:List Int->Bool
 | []=>true
 | x::l=>(match l with | []=>true | y::_=>!(decide (0<Af y) && decide (Af y<Af x))) && sorted l
theorem Kx:∀ {l:List Int},sorted l=true->order l=l
 | [],_=>rfl
 | [x],_=>rfl
 | x::y::l,h=>by
  simp only [sorted,Bool.and_eq_true,Bool.not_eq_true',Bool.and_eq_false_iff,decide_eq_false_iff_not] at h
  have ih:order (y::l)=y::l:=Kx (by simp only [sorted,Bool.and_eq_true];exact h.2)
  show ins x (order (y::l))=_
  rw [ih]
  unfold ins
  rw [if_neg (λhh=>by rcases h.1 with h1 | h1<;>omega)]
theorem Ato {l m:List Int} (h:Sim l m) (hs:sorted m=true):m=order l:=(Kx hs).symm.trans (Nn h).symm
def split (soft:Bool) (l:List Int):List Int:=l.flatMap (pieces soft)
theorem Gl (soft:Bool) (p q:List Int):split soft (p ++ q)=split soft p ++ split soft q:=List.flatMap_append
theorem Jk (soft:Bool) {l:List Int} (h:∀ c ∈ l,whole soft c=true):split soft l=l:=Oe soft h
theorem Aoj (soft:Bool) {x y:List Int} (h:Sim x y):Sim (split soft x) (split soft y):=by
 induction h with
 | refl l=>exact .refl _
 | swap p a b q h1 h2 h3 =>
  simp only [split,List.flatMap_append,List.flatMap_cons,Dp.1 (Lb soft h1),Dp.1 (Lb soft h2),List.cons_append,List.nil_append]
  exact .swap _ a b _ h1 h2 h3
 | trans _ _ ih1 ih2=>exact .trans ih1 ih2
def step (R:List Int) (c:Int):List Int :=
 match R.dropWhile (λy=>decide (0<Af y)) with
 | []=>c::R
 | s
   :: A=>if (R.takeWhile (λy=>decide (0<Af y))).all (λy=>decide (Af y<Af c)) then
   (match Dy s c with | some x=>R.takeWhile (λy=>decide (0<Af y)) ++ x::A | none=>c::R)
  else c::R
def Ag6 (l:List Int):List Int:=l.foldl step []
def join (l:List Int):List Int:=(Ag6 l).reverse
theorem Aaz {p:Int->Bool}:∀ {l:List Int} {y:Int},y ∈ l.takeWhile p->p y=true
 | [],_,h=>by cases h
 | x::l,y,h=>by
  rw [List.takeWhile_cons] at h
  split at h
  ·rcases List.mem_cons.1 h with rfl | h
   · assumption
   · exact Aaz h
  ·cases h
theorem Yh {c:Int}:∀ {M:List Int},(∀ y ∈ M,0<Af y/\Af y<Af c)->Sim (c::M) (M ++ [c])
 | [],_=>.refl _
 | y::M,h=>by
  have hy:=h y (by simp)
  exact .trans (Sim.swap [] c y M (by omega) hy.1 (by omega)) ((Yh λz hz=>h z (by simp [hz])).ahead [y])
theorem Atc (soft:Bool) (R p:List Int) (c:Int) (hc:whole soft c=true) (h:Sim (split soft R.reverse) p):Sim (split soft (step R c).reverse) (p ++ [c]):=by
 have plain:Sim (split soft (c::R).reverse) (p ++ [c]):=by
  rw [List.reverse_cons,Gl]
  have e:split soft [c]=[c]:=Jk soft (by simpa using hc)
  rw [e]
  exact h.behind [c]
 unfold step
 split
 ·exact plain
 ·rename_i s A hA
  split
  ·rename_i hfree
   split
   ·rename_i x hx
    have hR:R=R.takeWhile (λy=>decide (0<Af y)) ++ s::A:=by rw [<- hA];exact (List.takeWhile_append_dropWhile).symm
    have hM:∀ y ∈ (R.takeWhile (λy=>decide (0<Af y))).reverse,0<Af y/\Af y<Af c:=by
     intro y hy
     rw [List.mem_reverse] at hy
     exact ⟨of_decide_eq_true (Aaz hy),of_decide_eq_true (List.all_eq_true.1 hfree y hy)⟩
    generalize R.takeWhile (λy=>decide (0<Af y))=M at hR hM
    subst hR
    refine .trans ?_ (h.behind [c])
    simp only [List.reverse_append,List.reverse_cons,List.append_assoc,List.singleton_append,Gl]
    have eM:split soft M.reverse=M.reverse:=Jk soft λy hy=>Lb soft (hM y hy).1
    have ex:split soft (x::M.reverse)=pieces soft s ++ (c::M.reverse):=by
     show pieces soft x ++ split soft M.reverse=_
     rw [Aq1 soft hx,Dp.1 hc,eM,List.append_assoc]
     rfl
    have es:split soft (s::M.reverse)=pieces soft s ++ M.reverse:=by
     show pieces soft s ++ split soft M.reverse=_
     rw [eM]
    rw [ex,es,List.append_assoc]
    exact ((Yh hM).ahead _).ahead _
   ·exact plain
  ·exact plain
theorem Aa8 (soft:Bool):∀ (l R p:List Int),(∀ c ∈ l,whole soft c=true)->Sim (split soft R.reverse) p->Sim (split soft (l.foldl step R).reverse) (p ++ l)
 | [],R,p,_,h=>by simpa using h
 | c::l,R,p,hl,h=>by
  have:=Aa8 soft l (step R c) (p ++ [c]) (λy hy=>hl y (by simp [hy])) (Atc soft R p c (hl c (by simp)) h)
  simpa using this
theorem Ag0 (soft:Bool) {l:List Int} (h:∀ c ∈ l,whole soft c=true):Sim (split soft (join l)) l:=by
 have:=Aa8 soft l [] [] h (.refl _)
 exact this
def down (soft:Bool) (l:List Int):List Int:=order (split soft l)
theorem Alk {x y:List Int} (h:Sim x y):∀ c,c ∈ x ↔ c ∈ y:=by
 induction h with
 | refl l=>intro c;exact Iff.rfl
 | swap p a b q _ _ _=>intro c;simp only [List.mem_append,List.mem_cons];constructor<;>(rintro (h | h | h | h)<;>simp [h])
 | trans _ _ ih1 ih2=>exact λc=>(ih1 c).trans (ih2 c)
theorem Rk (soft:Bool) (l:List Int):∀ c ∈ down soft l,∃ r ∈ l,c ∈ pieces soft r:=by
 intro c hc
 have:=(Alk (Gs (split soft l)) c).2 hc
 exact List.mem_flatMap.1 this
theorem Ox (soft:Bool) (l:List Int):∀ c ∈ down soft l,whole soft c=true:=λc hc=>by
 obtain ⟨r,-,h⟩:=Rk soft l c hc
 exact Ad3 soft r c h
theorem Ar0 (soft:Bool) {x y:List Int} (h:Sim x y):down soft x=down soft y:=Nn (Aoj soft h)
theorem Vw (soft:Bool) (l:List Int):order (down soft l)=down soft l:=Ad9 _
theorem Aqd (soft:Bool) (l:List Int):down soft (down soft l)=down soft l:=by
 show order (split soft (down soft l))=_
 rw [Jk soft (Ox soft l),Vw]
theorem Anw (soft:Bool) (l:List Int):down soft (join (down soft l))=down soft l:=by
 show order (split soft (join (down soft l)))=_
 rw [Nn (Ag0 soft (Ox soft l)),Vw]
end Norm
end
section
namespace Norm
end Norm
end
section
namespace Fold
open Norm
def narrow (r:Int):Int:=if Bm r then r - 65248 else r
def fo (r:Int):Int:=Fp (narrow r)
def Za (r:Int):Bool:=decide (pieces false (fo r)=((pieces false r).map fo).flatMap (pieces false)) && (pieces false (fo r)).all (λc=>fo c == c) && decide (0<Af r->fo r=r)
theorem Aro:∀ y ∈ lowers,∀ i ∈ List.range (y.hi - y.lo+1).toNat,Za (y.lo+i)=true:=by decide +kernel
theorem Ajg:∀ y ∈ splits,Za y.rune=true:=by decide +kernel
theorem Ans:∀ i ∈ List.range 94,Za (65281+i)=true:=by decide +kernel
theorem Aqt:∀ i ∈ List.range 195,Za (4352+i)=true/\fo (4352+i)=4352+i:=by decide +kernel
theorem Aqo:∀ y ∈ lowers,y.hi<44032\/55203<y.lo:=by decide +kernel
theorem Uw {r:Int} (h:syl r=true):fo r=r:=by
 have h':=(Ch r).1 h
 have hn:narrow r=r:=by unfold narrow Bm;rw [if_neg];simp;omega
 unfold fo
 rw [hn]
 unfold Fp
 cases hl:Km r with
 | none=>rfl
 | some y =>
  obtain ⟨h1,h2,h3⟩:=Da hl
  have:=Aqo y h1
  omega
theorem Avf {c:Int} (h:Yt c=true):fo c=c:=by
 have h':=(Hq c).1 h
 have:=(Aqt (c - 4352).toNat (by rw [List.mem_range];omega)).2
 rwa [show (4352:Int)+((c - 4352).toNat:Int)=c by omega] at this
theorem Q8 {l:List Int} (h:∀ c ∈ l,fo c=c):l.map fo=l:=by
 induction l with
 | nil=>rfl
 | cons a l ih=>rw [List.map_cons,h a (by simp),ih λc hc=>h c (by simp [hc])]
theorem Arm (r:Int):Za r=true:=by
 cases hs:syl r with
 | true =>
  have e:pieces false r=Cv r:=by rw [A9,hs];rfl
  have hj:=λc hc=>Avf (Mj hs c hc)
  unfold Za
  rw [Uw hs,e,Q8 hj,Oe false λc hc=>I6 (Mj hs c hc) false]
  simp only [Bool.and_eq_true,decide_eq_true_eq,List.all_eq_true,beq_iff_eq]
  exact ⟨⟨trivial,hj⟩,λ_=>trivial⟩
 | false =>
  cases hw:Bm r with
  | true =>
   simp only [Bm,Bool.and_eq_true,decide_eq_true_eq] at hw
   have:=Ans (r - 65281).toNat (by rw [List.mem_range];omega)
   rwa [show (65281:Int)+((r - 65281).toNat:Int)=r by omega] at this
  | false =>
   cases hp:Aj r with
   | some y =>
    rcases Bk hp with ⟨hy,rfl⟩ | ⟨hw',-⟩
    ·exact Ajg y hy
    ·rw [hw] at hw';cases hw'
   | none =>
    have hn:narrow r=r:=by unfold narrow;rw [hw];rfl
    cases hl:Km r with
    | some y =>
     obtain ⟨h1,h2,h3⟩:=Da hl
     have:=Aro y h1 (r - y.lo).toNat (by rw [List.mem_range];omega)
     rwa [show y.lo+((r - y.lo).toNat:Int)=r by omega] at this
    | none =>
     have e:pieces false r=[r]:=by rw [A9,hs,hp];rfl
     have hf:fo r=r:=by unfold fo Fp;rw [hn,hl]
     unfold Za
     rw [hf,e]
     simp [hf,e]
theorem Anj (r:Int):pieces false (fo r)=((pieces false r).map fo).flatMap (pieces false):=by
 have:=Arm r
 simp only [Za,Bool.and_eq_true,decide_eq_true_eq] at this
 exact this.1.1
theorem Axw (r:Int):∀ c ∈ pieces false (fo r),fo c=c:=by
 have:=Arm r
 simp only [Za,Bool.and_eq_true,List.all_eq_true,beq_iff_eq] at this
 exact this.1.2
theorem Ali {r:Int} (h:0<Af r):fo r=r:=by
 have:=Arm r
 simp only [Za,Bool.and_eq_true,decide_eq_true_eq] at this
 exact this.2 h
theorem Yl (l:List Int):split false (l.map fo)=split false ((split false l).map fo):=by
 induction l with
 | nil=>rfl
 | cons r l ih =>
  show pieces false (fo r) ++ split false (l.map fo)=split false ((pieces false r ++ split false l).map fo)
  rw [List.map_append,Gl,ih,Anj]
  rfl
theorem Ax1 {x y:List Int} (h:Sim x y):Sim (x.map fo) (y.map fo):=by
 induction h with
 | refl l=>exact .refl _
 | swap p a b q h1 h2 h3 =>
  simp only [List.map_append,List.map_cons,Ali h1,Ali h2]
  exact .swap _ a b _ h1 h2 h3
 | trans _ _ ih1 ih2=>exact .trans ih1 ih2
theorem Ava (l:List Int):down false (l.map fo)=down false ((down false l).map fo):=by
 have h1:down false (l.map fo)=down false ((split false l).map fo):=by
  show order (split false (l.map fo))=order (split false ((split false l).map fo))
  rw [Yl]
 rw [h1]
 exact Ar0 false (Ax1 (Gs (split false l)))
def fold (l:List Int):List Int:=join (down false (l.map fo))
theorem Abq (l:List Int):down false (fold l)=down false (l.map fo):=Anw false _
theorem Aex (l:List Int):∀ c ∈ down false (l.map fo),fo c=c:=by
 intro c hc
 obtain ⟨r,hr,hcr⟩:=Rk false _ c hc
 obtain ⟨q,-,rfl⟩:=List.mem_map.1 hr
 exact Axw q c hcr
theorem Il (l:List Int):fold (fold l)=fold l:=by
 show join (down false ((fold l).map fo))=join (down false (l.map fo))
 rw [Ava,Abq,Q8 (Aex l),Aqd]
theorem Asy (l:List Int):join (down false (fold l))=fold l:=by rw [Abq];rfl
theorem Aoi:∀ y ∈ splits,fo y.one=y.one->fo y.two=y.two->fo y.rune=y.rune:=by decide +kernel
theorem Amt {a b x:Int} (h:Dy a b=some x) (ha:fo a=a) (hb:fo b=b):fo x=x:=by
 unfold Dy at h
 split at h
 ·obtain rfl:=Option.some.inj h
  exact Uw ((Ch _).2 (by omega))
 ·split at h
  ·rename_i h2
   obtain rfl:=Option.some.inj h
   have:=(Ch a).1 h2.1
   exact Uw ((Ch _).2 (by omega))
  ·obtain ⟨y,hy,rfl,rfl,ho⟩:=F0 h
   rcases Bk hy with ⟨h1,rfl⟩ | ⟨-,rfl⟩
   · exact Aoi y h1 ha hb
   · cases ho
theorem Ase {R:List Int} {c:Int} (hR:∀ y ∈ R,fo y=y) (hc:fo c=c):∀ y ∈ step R c,fo y=y:=by
 have plain:∀ y ∈ c::R,fo y=y:=λy hy=>by
  rcases List.mem_cons.1 hy with rfl | hy
  ·exact hc
  ·exact hR y hy
 unfold step
 split
 ·exact plain
 ·rename_i s A hA
  have hin:∀ y ∈ s::A,fo y=y:=λy hy=>hR y ((List.dropWhile_sublist (λy=>decide (0<Af y))).subset (by rw [hA];exact hy))
  split
  ·split
   ·rename_i x hx
    intro y hy
    rw [List.mem_append,List.mem_cons] at hy
    rcases hy with hy | rfl | hy
    · exact hR y ((List.takeWhile_sublist _).subset hy)
    · exact Amt hx (hin s (by simp)) hc
    · exact hin y (by simp [hy])
   ·exact plain
  ·exact plain
theorem Afh:∀ (l R:List Int),(∀ y ∈ l,fo y=y)->(∀ y ∈ R,fo y=y)->∀ y ∈ l.foldl step R,fo y=y
 | [],_,_,hR=>hR
 | c::l,R,hl,hR=>Afh l (step R c) (λy hy=>hl y (by simp [hy])) (Ase hR (hl c (by simp)))
theorem Ko (l:List Int):∀ c ∈ fold l,fo c=c:=by
 intro c hc
 unfold fold join at hc
 rw [List.mem_reverse] at hc
 exact Afh _ [] (Aex l) (λy hy=>by cases hy) c hc
end Fold
end
section
namespace Norm
def D6 (l:List Int):Prop:=∀ c ∈ l,0<=c/\c<128
def Nv (c:Int):Bool:=whole false c && whole true c && decide (Af c=0) && decide (Fold.fo c=if 65<=c/\c<=90 then c+32 else c)
theorem Aik:∀ i ∈ List.range 128,Nv (i:Nat)=true:=by decide +kernel
theorem Px {c:Int} (h:0<=c/\c<128):Nv c=true:=by
 have:=Aik c.toNat (by rw [List.mem_range];omega)
 rwa [show ((c.toNat:Nat):Int)=c by omega] at this
theorem Jc {c:Int} (h:0<=c/\c<128) (soft:Bool):whole soft c=true:=by
 have:=Px h
 simp only [Nv,Bool.and_eq_true] at this
 cases soft
 · exact this.1.1.1
 · exact this.1.1.2
theorem Aa7 {c:Int} (h:0<=c/\c<128):Af c=0:=by
 have:=Px h
 simp only [Nv,Bool.and_eq_true,decide_eq_true_eq] at this
 exact this.1.2
theorem Rh {c:Int} (h:0<=c/\c<128):Fold.fo c=if 65<=c/\c<=90 then c+32 else c:=by
 have:=Px h
 simp only [Nv,Bool.and_eq_true,decide_eq_true_eq] at this
 exact this.2
theorem Ub:∀ {l:List Int},(∀ c ∈ l,Af c=0)->sorted l=true
 | [],_=>rfl
 | [_],_=>rfl
 | x::y::l,h=>by
  have ih:sorted (y::l)=true:=Ub λc hc=>h c (by simp [hc])
  unfold sorted
  rw [Bool.and_eq_true]
  refine ⟨?_,ih⟩
  simp [h y (by simp)]
theorem Alc (soft:Bool) {l:List Int} (h:D6 l):down soft l=l:=by
 show order (split soft l)=l
 rw [Jk soft λc hc=>Jc (h c hc) soft]
 exact Kx (Ub λc hc=>Aa7 (h c hc))
theorem As4:∀ y ∈ splits,y.soft=false->y.out=false->768<=y.two:=by decide +kernel
theorem Ai0 {a b:Int} (ha:0<=a/\a<128) (hb:0<=b/\b<128):Dy a b=none:=by
 unfold Dy
 rw [if_neg (by omega),if_neg (λh=>by have:=(Ch a).1 h.1;omega)]
 cases hp:Gq a b with
 | none=>rfl
 | some z =>
  obtain ⟨y,hy,-,h2,ho⟩:=F0 hp
  obtain ⟨-,-,h4⟩:=Ot hy ho
  rcases Bk hy with ⟨h1,-⟩ | ⟨-,rfl⟩
  ·have:=As4 y h1 h4 ho
   omega
  ·cases ho
theorem Aig {R:List Int} {c:Int} (hR:D6 R) (hc:0<=c/\c<128):step R c=c::R:=by
 cases R with
 | nil=>rfl
 | cons s A =>
  have hs:¬ 0<Af s:=by rw [Aa7 (hR s (by simp))];omega
  unfold step
  simp only [List.dropWhile_cons,List.takeWhile_cons,hs,decide_false,Bool.false_eq_true,if_false,List.all_nil,if_true,Ai0 (hR s (by simp)) hc]
theorem Oo:∀ (l R:List Int),D6 l->D6 R->l.foldl step R=l.reverse ++ R
 | [],_,_,_=>rfl
 | c::l,R,hl,hR=>by
  have hc:=hl c (by simp)
  rw [List.foldl_cons,Aig hR hc,Oo l (c::R) (λy hy=>hl y (by simp [hy])) (λy hy=>by
   rcases List.mem_cons.1 hy with rfl | hy
   · exact hc
   · exact hR y hy)]
  simp
theorem Ajd {l:List Int} (h:D6 l):join l=l:=by
 unfold join Ag6
 rw [Oo l [] h (λy hy=>by cases hy)]
 simp
theorem Jt {l:List Int} (h:D6 l):Fold.fold l=l.map λc=>if 65<=c/\c<=90 then c+32 else c:=by
 have e:l.map Fold.fo=l.map λc=>if 65<=c/\c<=90 then c+32 else c:=List.map_congr_left λc hc=>Rh (h c hc)
 have ha:D6 (l.map λc=>if 65<=c/\c<=90 then c+32 else c):=by
  intro c hc
  obtain ⟨d,hd,rfl⟩:=List.mem_map.1 hc
  have:=h d hd
  split<;>omega
 unfold Fold.fold
 rw [e,Alc false ha,Ajd ha]
end Norm
end
section
namespace Norm
theorem Xv {L M:List Int} (hl:L.length=M.length) (h:∀ i,i<L.length->L[i]! = M[i]!):L=M:=by
 refine List.ext_getElem hl λi h1 h2=>?_
 have:=h i h1
 rwa [getElem!_pos L i h1,getElem!_pos M i h2] at this
theorem Db {p q:List Int} {i:Nat} (h:i<p.length):(p ++ q)[i]! = p[i]!:=by
 rw [getElem!_pos (p ++ q) i (by rw [List.length_append];omega),getElem!_pos p i h,List.getElem_append_left h]
theorem Cs {p q:List Int} {i:Nat} (h:p.length<=i):(p ++ q)[i]! = q[i - p.length]!:=by
 simp only [List.getElem!_eq_getElem?_getD,List.getElem?_append_right h]
theorem Ga {L:List Int} {n i:Nat} (h:i<n):(L.take n)[i]! = L[i]!:=by
 simp only [List.getElem!_eq_getElem?_getD,List.getElem?_take_of_lt h]
theorem F8 (L:List Int) (n i:Nat):(L.drop n)[i]! = L[n+i]!:=by
 simp only [List.getElem!_eq_getElem?_getD,List.getElem?_drop]
theorem Qp (L:List Int) (k i:Nat) (x:Int) (h:k<L.length):(L.set k x)[i]! = if i=k then x else L[i]!:=by
 simp only [List.getElem!_eq_getElem?_getD,List.getElem?_set]
 by_cases e:i=k
 · subst e;simp [h]
 · rw [if_neg (λh=>e h.symm),if_neg e]
theorem Ahu {L:List Int} {x:Int} (h:x ∈ L):∃ i,i<L.length/\L[i]! = x:=by
 obtain ⟨i,hi,rfl⟩:=List.mem_iff_getElem.1 h
 exact ⟨i,hi,getElem!_pos L i hi⟩
def Up (L:List Int) (a b:Nat):Prop:=∀ i j,a<=i->i<j->j<b->Af L[i]!<=Af L[j]!
theorem Up.part {L:List Int} {a b a' b':Nat} (h:Up L a b) (h1:a<=a') (h2:b'<=b):Up L a' b':=λi j hi hij hj=>h i j (by omega) hij (by omega)
theorem Up.le {L:List Int} {a b:Nat} (h:Up L a b) {i j:Nat} (hi:a<=i) (hij:i<=j) (hj:j<b):Af L[i]!<=Af L[j]!:=by
 rcases Nat.lt_or_eq_of_le hij with h1 | rfl
 · exact h i j hi h1 hj
 · exact Int.le_refl _
theorem Up.small {L:List Int} {a b:Nat} (h:b<=a+1):Up L a b:=λi j _ _ _=>by omega
theorem Up.same {L M:List Int} {a b:Nat} (h:Up L a b) (e:∀ i,a<=i->i<b->M[i]! = L[i]!):Up M a b:=λi j hi hij hj=>by
 rw [e i hi (by omega),e j (by omega) hj]
 exact h i j hi hij hj
structure Av (a b:Nat) (L M:List Int):Prop where
 len:M.length=L.length
 out:∀ i,i<a\/b<=i->M[i]! = L[i]!
 inn:∀ i,a<=i->i<b->∃ j,a<=j/\j<b/\M[i]! = L[j]!
 sim:(∀ i,a<=i->i<b->0<Af L[i]!)->Sim L M
theorem Av.refl (a b:Nat) (L:List Int):Av a b L L:=⟨rfl,λ_ _=>rfl,λi h1 h2=>⟨i,h1,h2,rfl⟩,λ_=>.refl _⟩
theorem Av.trans {a b:Nat} {L M N:List Int} (h:Av a b L M) (k:Av a b M N):Av a b L N:=by
 refine ⟨k.len.trans h.len,λi hi=>(k.out i hi).trans (h.out i hi),λi h1 h2=>?_,λhm=>?_⟩
 ·obtain ⟨j,h3,h4,e⟩:=k.inn i h1 h2
  obtain ⟨j',h5,h6,e'⟩:=h.inn j h3 h4
  exact ⟨j',h5,h6,e.trans e'⟩
 ·refine .trans (h.sim hm) (k.sim λi h1 h2=>?_)
  obtain ⟨j,h3,h4,e⟩:=h.inn i h1 h2
  rw [e]
  exact hm j h3 h4
theorem Av.mono {a b a' b':Nat} {L M:List Int} (h:Av a b L M) (h1:a'<=a) (h2:b<=b'):Av a' b' L M:=by
 refine ⟨h.len,λi hi=>h.out i (by omega),λi h3 h4=>?_,λhm=>h.sim λi h3 h4=>hm i (by omega) (by omega)⟩
 by_cases hi:a<=i/\i<b
 ·obtain ⟨j,h5,h6,e⟩:=h.inn i hi.1 hi.2
  exact ⟨j,by omega,by omega,e⟩
 ·exact ⟨i,h3,h4,h.out i (by omega)⟩
theorem Av.all {a b:Nat} {L M:List Int} (h:Av a b L M) {p:Int->Prop} (hp:∀ i,a<=i->i<b->p L[i]!):∀ i,a<=i->i<b->p M[i]!:=λi h1 h2=>by
 obtain ⟨j,h3,h4,e⟩:=h.inn i h1 h2
 rw [e]
 exact hp j h3 h4
def F1 (L:List Int) (k:Nat):List Int:=(L.set k L[k+1]!).set (k+1) L[k]!
theorem Wh (L:List Int) (k:Nat):(F1 L k).length=L.length:=by unfold F1;simp
theorem Ir (L:List Int) (k i:Nat) (h:k+1<L.length):(F1 L k)[i]! = if i=k+1 then L[k]! else if i=k then L[k+1]! else L[i]!:=by
 unfold F1
 rw [Qp _ _ _ _ (by rw [List.length_set];exact h),Qp _ _ _ _ (by omega)]
theorem Amf (L:List Int) (k:Nat) (h:k+1<L.length):L=L.take k ++ L[k]!::L[k+1]!::L.drop (k+2):=by
 rw [getElem!_pos L k (by omega),getElem!_pos L (k+1) h,<- List.drop_eq_getElem_cons h,<- List.drop_eq_getElem_cons (by omega),List.take_append_drop]
theorem Av1 (L:List Int) (k:Nat) (h:k+1<L.length):F1 L k=L.take k ++ L[k+1]!::L[k]!::L.drop (k+2):=by
 have e:=Amf L k h
 have hk:(L.take k).length=k:=by rw [List.length_take];omega
 unfold F1
 generalize L[k]! = x at e ⊢
 generalize L[k+1]! = y at e ⊢
 generalize L.take k=p at e hk ⊢
 generalize L.drop (k+2)=q at e ⊢
 subst e hk
 rw [List.set_append_right _ _ (Nat.le_refl _),List.set_append_right _ _ (by omega),Nat.sub_self,show p.length+1 - p.length=1 by omega]
 rfl
theorem Av.F1 {a b k:Nat} (L:List Int) (h1:a<=k) (h2:k+1<b) (h3:b<=L.length) (hc:Af L[k+1]!<Af L[k]!):Av a b L (F1 L k):=by
 refine ⟨Wh _ _,λi hi=>?_,λi h4 h5=>?_,λhm=>?_⟩
 ·rw [Ir _ _ _ (by omega),if_neg (by omega),if_neg (by omega)]
 ·rw [Ir _ _ _ (by omega)]
  by_cases e1:i=k+1
  ·rw [if_pos e1];exact ⟨k,by omega,by omega,rfl⟩
  ·rw [if_neg e1]
   by_cases e2:i=k
   · rw [if_pos e2];exact ⟨k+1,by omega,by omega,rfl⟩
   · rw [if_neg e2];exact ⟨i,h4,h5,rfl⟩
 ·rw [Av1 L k (by omega)]
  have h:=Sim.swap (L.take k) L[k]! L[k+1]! (L.drop (k+2)) (hm k h1 (by omega)) (hm (k+1) (by omega) h2) (by omega)
  rwa [<- Amf L k (by omega)] at h
structure Rot (a m b:Nat) (L M:List Int):Prop where
 len:M.length=L.length
 fst:∀ i,a<=i->i<a+(b - m)->M[i]! = L[i+(m - a)]!
 snd:∀ i,a+(b - m)<=i->i<b->M[i]! = L[i - (b - m)]!
 out:∀ i,i<a\/b<=i->M[i]! = L[i]!
theorem Rot.none {a m b:Nat} (L:List Int) (h1:a<=m) (h2:m<=b) (h:a=m\/m=b):Rot a m b L L:=by
 refine ⟨rfl,λi h3 h4=>?_,λi h3 h4=>?_,λ_ _=>rfl⟩
 ·rcases h with rfl | rfl
  · rw [show i+(a - a)=i by omega]
  · omega
 ·rcases h with rfl | rfl
  · omega
  · rw [show i - (m - m)=i by omega]
theorem Abg:∀ {X Y:List Int},(∀ x ∈ X,∀ y ∈ Y,0<Af y/\Af y<Af x)->Sim (X ++ Y) (Y ++ X)
 | [],Y,_=>by rw [List.append_nil];exact .refl _
 | x::X,Y,h=>by
  have h1:Sim (X ++ Y) (Y ++ X):=Abg λz hz y hy=>h z (by simp [hz]) y hy
  have h2:Sim (x::Y) (Y ++ [x]):=Yh λy hy=>h x (by simp) y hy
  have h3:=h2.behind X
  rw [List.append_assoc] at h3
  exact .trans (h1.ahead [x]) h3
theorem Rot.Ax7 {a m b:Nat} {L M:List Int} (h:Rot a m b L M) (h1:a<=m) (h2:m<=b) (h3:b<=L.length) (hc:∀ i j,a<=i->i<m->m<=j->j<b->Af L[j]!<Af L[i]!):Av a b L M:=by
 refine ⟨h.len,h.out,λi h4 h5=>?_,λhm=>?_⟩
 ·by_cases hi:i<a+(b - m)
  ·exact ⟨i+(m - a),by omega,by omega,h.fst i h4 hi⟩
  ·exact ⟨i - (b - m),by omega,by omega,h.snd i (by omega) h5⟩
 ·have l1:(L.take a).length=a:=by rw [List.length_take];omega
  have l2:((L.take m).drop a).length=m - a:=by rw [List.length_drop,List.length_take];omega
  have l3:((L.take b).drop m).length=b - m:=by rw [List.length_drop,List.length_take];omega
  have b2:∀ i,i<m - a->((L.take m).drop a)[i]! = L[a+i]!:=λi hi=>by rw [F8,Ga (by omega)]
  have b3:∀ i,i<b - m->((L.take b).drop m)[i]! = L[m+i]!:=λi hi=>by rw [F8,Ga (by omega)]
  have eL:L=L.take a ++ (((L.take m).drop a ++ (L.take b).drop m) ++ L.drop b):=by
   refine Xv (by simp only [List.length_append,List.length_drop,l1,l2,l3];omega) λi hi=>?_
   by_cases i1:i<a
   ·rw [Db (by omega),Ga i1]
   rw [Cs (by omega),l1]
   by_cases i2:i<m
   ·rw [Db (by simp only [List.length_append,l2,l3];omega),Db (by omega),b2 _ (by omega),show a+(i - a)=i by omega]
   by_cases i3:i<b
   ·rw [Db (by simp only [List.length_append,l2,l3];omega),Cs (by omega),l2,b3 _ (by omega),show m+(i - a - (m - a))=i by omega]
   rw [Cs (by simp only [List.length_append,l2,l3];omega),F8,List.length_append,l2,l3,show b+(i - a - (m - a+(b - m)))=i by omega]
  have eM:M=L.take a ++ (((L.take b).drop m ++ (L.take m).drop a) ++ L.drop b):=by
   refine Xv (by rw [h.len];simp only [List.length_append,List.length_drop,l1,l2,l3];omega) λi hi=>?_
   by_cases i1:i<a
   ·rw [Db (by omega),Ga i1];exact h.out i (.inl i1)
   rw [Cs (by omega),l1]
   by_cases i2:i<a+(b - m)
   ·rw [Db (by simp only [List.length_append,l2,l3];omega),Db (by omega),b3 _ (by omega),h.fst i (by omega) i2]
    congr 1;omega
   by_cases i3:i<b
   ·rw [Db (by simp only [List.length_append,l2,l3];omega),Cs (by omega),l3,b2 _ (by omega),h.snd i (by omega) i3]
    congr 1;omega
   rw [Cs (by simp only [List.length_append,l2,l3];omega),F8,List.length_append,l2,l3,h.out i (.inr (by omega))]
   congr 1;omega
  have hS:Sim ((L.take m).drop a ++ (L.take b).drop m) ((L.take b).drop m ++ (L.take m).drop a):=by
   refine Abg λx hx y hy=>?_
   obtain ⟨i,hi,rfl⟩:=Ahu hx
   obtain ⟨j,hj,rfl⟩:=Ahu hy
   rw [b2 i (by omega),b3 j (by omega)]
   exact ⟨hm _ (by omega) (by omega),hc _ _ (by omega) (by omega) (by omega) (by omega)⟩
  have:=(hS.behind (L.drop b)).ahead (L.take a)
  rw [<- eL,<- eM] at this
  exact this
theorem Rot.G0 {a m b mid s e:Nat} {L M:List Int} (h:Rot s m e L M) (h1:a<=s) (h2:s<=m) (h3:m<=e) (h4:e<=b) (hse:s+e=mid+m) (u1:Up L a m) (u2:Up L m b) :
  Up M a s/\Up M s mid/\Up M mid e/\Up M e b:=by
 refine ⟨λi j hi hij hj=>?_,λi j hi hij hj=>?_,λi j hi hij hj=>?_,λi j hi hij hj=>?_⟩
 ·rw [h.out i (by omega),h.out j (by omega)];exact u1 i j hi hij (by omega)
 ·rw [h.fst i hi (by omega),h.fst j (by omega) (by omega)];exact u2 _ _ (by omega) (by omega) (by omega)
 ·rw [h.snd i (by omega) (by omega),h.snd j (by omega) hj];exact u1 _ _ (by omega) (by omega) (by omega)
 ·rw [h.out i (by omega),h.out j (by omega)];exact u2 i j (by omega) hij hj
theorem merged {a m b mid s e:Nat} {L L1 L2 L3:List Int} (h1:a<=s) (h2:s<=m) (h3:m<=e) (h4:e<=b) (hse:s+e=mid+m) (hm1:s<=mid) (hb:b<=L.length) (u1:Up L a m) (u2:Up L m b)
  (hlo:∀ c d,a<=c->c<s->e<=d->d<b->Af L[c]!<=Af L[d]!)
  (hhi:∀ i j,s<=i->i<m->m<=j->j<e->Af L[j]!<Af L[i]!)
  (hR:Rot s m e L L1) (k2:Av a mid L1 L2) (v2:Up L2 a mid) (k3:Av mid b L2 L3) (v3:Up L3 mid b):Av a b L L3/\Up L3 a b:=by
 refine ⟨(((hR.Ax7 h2 h3 (by omega) hhi).mono h1 h4).trans (k2.mono (Nat.le_refl _) (by omega))).trans (k3.mono (by omega) (Nat.le_refl _)),λi j hi hij hj=>?_⟩
 by_cases c1:j<mid
 ·rw [k3.out i (by omega),k3.out j (by omega)];exact v2 i j hi hij c1
 by_cases c2:mid<=i
 ·exact v3 i j c2 hij hj
 rw [k3.out i (by omega)]
 obtain ⟨i',a1,a2,ei⟩:=k2.inn i hi (by omega)
 obtain ⟨j',b1,b2,ej⟩:=k3.inn j (by omega) hj
 rw [ei,ej,k2.out j' (by omega)]
 by_cases d1:i'<s
 ·rw [hR.out i' (by omega)]
  by_cases d2:j'<e
  · rw [hR.snd j' (by omega) d2];exact u1 _ _ (by omega) (by omega) (by omega)
  · rw [hR.out j' (by omega)];exact hlo _ _ (by omega) d1 (by omega) b2
 ·rw [hR.fst i' (by omega) (by omega)]
  by_cases d2:j'<e
  · rw [hR.snd j' (by omega) d2];exact Int.le_of_lt (hhi _ _ (by omega) (by omega) (by omega) (by omega))
  · rw [hR.out j' (by omega)];exact u2 _ _ (by omega) (by omega) b2
end Norm
end
end Go.Proofs.YtppmbilonaflfaaGreatDoor
