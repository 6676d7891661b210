import Derived.Test.YtpcgbgfpnhiihaaGreatDoorTabPl
namespace Go.Proofs.YtpcgbgfpnhiihaaGreatDoor
section
def Aht (y:Sp):Bool:=match Aj y.rune with | some s=>s.one == y.one && s.two == y.two && s.out == y.out | none=>false
theorem Aqe:∀ y ∈ splits,Aht y=true:=by decide +kernel
theorem Aqb:∀ y ∈ splits,y.out=false->Gg y.one y.two=some y.rune/\y.two ≠ 0/\y.soft=false:=by decide +kernel
theorem Bi {x:Int} {y:Sp} (h:Aj x=some y):(y ∈ splits/\y.rune=x)\/(Bl x=true/\y=⟨x,x - 65248,0,true,true⟩):=by
 unfold Aj at h
 cases hr:rowOf x with
 | some z =>
  rw [hr] at h
  obtain rfl:=Option.some.inj h
  obtain ⟨h1,h2,h3⟩:=Cz hr
  exact .inl ⟨h1,Int.le_antisymm h2 h3⟩
 | none =>
  rw [hr] at h
  cases hw:Bl x with
  | true=>simp only [hw,if_true,Option.some.injEq] at h;exact .inr ⟨rfl,h.symm⟩
  | false=>simp [hw] at h
theorem Pl {x:Int} {y:Sp} (h:Aj x=some y) (ho:y.out=false):Gg y.one y.two=some x/\y.two ≠ 0/\y.soft=false:=by
 rcases Bi h with ⟨hy,rfl⟩ | ⟨_,rfl⟩
 · exact Aqb y hy ho
 · cases ho
theorem Ft {a b z:Int} (h:Gg a b=some z):∃ y,Aj z=some y/\y.one=a/\y.two=b/\y.out=false:=by
 unfold Gg at h
 by_cases hb:b=0
 ·rw [if_pos hb] at h;cases h
 ·rw [if_neg hb] at h
  cases hf:splits.find? (makes a b) with
  | none=>rw [hf] at h;cases h
  | some s =>
   rw [hf] at h
   have hz:s.rune=z:=by simpa using h
   have hm:=List.find?_some hf
   have hs:=List.mem_of_find?_eq_some hf
   simp only [makes,Bool.and_eq_true,Bool.not_eq_true',beq_iff_eq] at hm
   have ht:=Aqe s hs
   unfold Aht at ht
   rw [hz] at ht
   cases hq:Aj z with
   | none=>rw [hq] at ht;cases ht
   | some y =>
    rw [hq] at ht
    simp only [Bool.and_eq_true,beq_iff_eq] at ht
    exact ⟨y,rfl,by rw [ht.1.1,hm.1.2],by rw [ht.1.2,hm.2],by rw [ht.2,hm.1.1.2]⟩
def Atf (x:Int):Bool:=decide (Fi (Fi x)=Fi x/\Dc x=1/\Dc (Fi x)=2/\Bz (Fi x)=Bz x/\Ae (Fi x)=0/\Aw (Fi x)=Aw x)
theorem Auj:∀ y ∈ lowers,∀ i ∈ List.range (y.hi - y.lo+1).toNat,Atf (y.lo+i)=true:=by decide +kernel
theorem Aou (x:Int):Fi x=x\/Atf x=true:=by
 cases h:K9 x with
 | none=>left;unfold Fi;rw [h]
 | some y =>
  right
  obtain ⟨h1,h2,h3⟩:=Cz h
  have:=Auj y h1 (x - y.lo).toNat (by rw [List.mem_range];omega)
  rwa [show y.lo+((x - y.lo).toNat:Int)=x by omega] at this
def Q7 (x one two:Int) (soft:Bool):Bool:=decide (Ae one=0/\Ae x=0/\(two=0\/soft=true\/0<Ae two)/\Dc one ≠ 0)
theorem Aku:∀ y ∈ splits,Q7 y.rune y.one y.two y.soft=true:=by decide +kernel
theorem Ali:∀ i ∈ List.range 94,Q7 (65281+i) (65281+i - 65248) 0 true=true:=by decide +kernel
theorem Um {x:Int} {y:Sp} (h:Aj x=some y):Q7 x y.one y.two y.soft=true:=by
 rcases Bi h with ⟨hy,rfl⟩ | ⟨hw,rfl⟩
 ·exact Aku y hy
 ·simp only [Bl,Bool.and_eq_true,decide_eq_true_eq] at hw
  have:=Ali (x - 65281).toNat (by rw [List.mem_range];omega)
  rwa [show (65281:Int)+((x - 65281).toNat:Int)=x by omega] at this
end
section
namespace Norm
def syl (r:Int):Bool:=decide (44032<=r) && decide (r<=55203)
def Cr (r:Int):List Int:=[4352+(r - 44032) / 588,4449+(r - 44032) % 588 / 28] ++ (if (r - 44032) % 28=0 then [] else [4519+(r - 44032) % 28])
def one:Nat->Bool->Int->List Int
 | 0,_,r=>[r]
 | n+1,soft,r=>if syl r then Cr r else match Aj r with
  | none=>[r]
  | some x=>if x.soft && !soft then [r] else one n soft x.one ++ (if x.two=0 then [] else one n soft x.two)
def pieces (soft:Bool) (r:Int):List Int:=one 4 soft r
def whole (soft:Bool) (c:Int):Bool:=pieces soft c == [c]
theorem Di {soft:Bool} {c:Int}:whole soft c=true ↔ pieces soft c=[c]:=by unfold whole;rw [beq_iff_eq]
def Ui (soft:Bool) (x a b:Int):Bool:=decide (one 3 soft a=one 4 soft a) && decide (one 3 soft b=one 4 soft b) && (pieces soft x).all (whole soft) && (pieces true x).all (whole false) && decide ((pieces false x).flatMap (pieces true)=pieces true x) && !syl x
theorem Ahf:∀ y ∈ splits,Ui false y.rune y.one y.two=true/\Ui true y.rune y.one y.two=true:=by decide +kernel
theorem Avf:∀ i ∈ List.range 94,Ui false (65281+i) (65281+i - 65248) 0=true/\Ui true (65281+i) (65281+i - 65248) 0=true:=by decide +kernel
theorem Ti (soft:Bool) {x:Int} {y:Sp} (h:Aj x=some y):Ui soft x y.one y.two=true:=by
 rcases Bi h with ⟨hy,rfl⟩ | ⟨hw,rfl⟩
 ·cases soft
  · exact (Ahf y hy).1
  · exact (Ahf y hy).2
 ·simp only [Bl,Bool.and_eq_true,decide_eq_true_eq] at hw
  have:=Avf (x - 65281).toNat (by rw [List.mem_range];omega)
  rw [show (65281:Int)+((x - 65281).toNat:Int)=x by omega] at this
  cases soft
  · exact this.1
  · exact this.2
theorem Cd (r:Int):syl r=true ↔ 44032<=r/\r<=55203:=by unfold syl;simp
theorem Ay (soft:Bool) (r:Int):pieces soft r=if syl r then Cr r else match Aj r with
  | none=>[r]
  | some x=>if x.soft && !soft then [r] else pieces soft x.one ++ (if x.two=0 then [] else pieces soft x.two):=by
 show one 4 soft r=_
 rw [one]
 cases hs:syl r with
 | true=>rfl
 | false =>
  simp only [Bool.false_eq_true,if_false]
  cases h:Aj r with
  | none=>rfl
  | some x =>
   have:=Ti soft h
   simp only [Ui,Bool.and_eq_true,decide_eq_true_eq] at this
   simp only [this.1.1.1.1.1,this.1.1.1.1.2]
   rfl
def Zb (c:Int):Bool:=(decide (4352<=c) && decide (c<=4370)) || (decide (4449<=c) && decide (c<=4469)) || (decide (4520<=c) && decide (c<=4546))
theorem Hk (c:Int):Zb c=true ↔ (4352<=c/\c<=4370)\/(4449<=c/\c<=4469)\/(4520<=c/\c<=4546):=by
 unfold Zb;simp [or_assoc]
def As4 (c:Int):Bool:=whole false c && whole true c && decide (Ae c=0)
theorem Ap9:∀ i ∈ List.range 195,Zb (4352+i)=true->As4 (4352+i)=true:=by decide +kernel
theorem Amd {c:Int} (h:Zb c=true):whole false c=true/\whole true c=true/\Ae c=0:=by
 have h':=(Hk c).1 h
 have:=Ap9 (c - 4352).toNat (by rw [List.mem_range];omega)
 rw [show (4352:Int)+((c - 4352).toNat:Int)=c by omega] at this
 have:=this h
 simp only [As4,Bool.and_eq_true,decide_eq_true_eq] at this
 exact ⟨this.1.1,this.1.2,this.2⟩
theorem Ir {c:Int} (h:Zb c=true) (soft:Bool):whole soft c=true:=by
 cases soft
 · exact (Amd h).1
 · exact (Amd h).2.1
theorem Ng {r:Int} (h:syl r=true):∀ c ∈ Cr r,Zb c=true:=by
 have h':=(Cd r).1 h
 intro c hc
 unfold Cr at hc
 rw [Hk]
 split at hc
 ·simp only [List.append_nil,List.mem_cons,List.not_mem_nil,or_false] at hc
  omega
 ·simp only [List.cons_append,List.nil_append,List.mem_cons,List.not_mem_nil,or_false] at hc
  omega
theorem Adk (soft:Bool) (r:Int):∀ c ∈ pieces soft r,whole soft c=true:=by
 cases hs:syl r with
 | true =>
  rw [Ay,hs]
  exact λc hc=>Ir (Ng hs c hc) soft
 | false =>
  cases h:Aj r with
  | none =>
   have e:pieces soft r=[r]:=by rw [Ay,hs,h];rfl
   intro c hc
   rw [e,List.mem_singleton] at hc
   rw [hc]
   exact Di.2 e
  | some x =>
   have:=Ti soft h
   simp only [Ui,Bool.and_eq_true] at this
   exact List.all_eq_true.1 this.1.1.1.2
theorem Oh (soft:Bool) {l:List Int} (h:∀ c ∈ l,whole soft c=true):l.flatMap (pieces soft)=l:=by
 induction l with
 | nil=>rfl
 | cons a l ih =>
  rw [List.flatMap_cons,Di.1 (h a (by simp)),ih λc hc=>h c (by simp [hc])]
  rfl
theorem Aw3:∀ y ∈ Gz,y.hi<=12441:=by decide +kernel
theorem Amx {r:Int} (h:syl r=true):Ae r=0:=by
 have h':=(Cd r).1 h
 unfold Ae
 cases hc:Aci r with
 | none=>rfl
 | some y =>
  obtain ⟨h1,h2,h3⟩:=Cz hc
  have:=Aw3 y h1
  omega
theorem La (soft:Bool) {c:Int} (h:0<Ae c):whole soft c=true:=by
 rw [Di,Ay]
 cases hs:syl c with
 | true=>rw [Amx hs] at h;omega
 | false =>
  cases hp:Aj c with
  | none=>rfl
  | some x =>
   have:=Um hp
   simp only [Q7,decide_eq_true_eq] at this
   omega
def Dr (a b:Int):Option Int :=
 if 4352<=a/\a<=4370/\4449<=b/\b<=4469 then some (44032+(a - 4352)*588+(b - 4449)*28)
 else if syl a=true/\(a - 44032) % 28=0/\4520<=b/\b<=4546 then some (a+b - 4519)
 else Gg a b
theorem Ao1 (soft:Bool) {a b x:Int} (h:Dr a b=some x):pieces soft x=pieces soft a ++ pieces soft b:=by
 unfold Dr at h
 by_cases h1:4352<=a/\a<=4370/\4449<=b/\b<=4469
 ·rw [if_pos h1] at h
  have hx:=(Option.some.inj h).symm
  have ha:Zb a=true:=(Hk a).2 (by omega)
  have hb:Zb b=true:=(Hk b).2 (by omega)
  rw [Di.1 (Ir ha soft),Di.1 (Ir hb soft),Ay,if_pos ((Cd x).2 (by omega))]
  unfold Cr
  rw [if_pos (by omega),show 4352+(x - 44032) / 588=a by omega,show 4449+(x - 44032) % 588 / 28=b by omega]
  rfl
 ·rw [if_neg h1] at h
  by_cases h2:syl a=true/\(a - 44032) % 28=0/\4520<=b/\b<=4546
  ·rw [if_pos h2] at h
   have hx:=(Option.some.inj h).symm
   have ha:=(Cd a).1 h2.1
   have hb:Zb b=true:=(Hk b).2 (by omega)
   rw [Di.1 (Ir hb soft),Ay,if_pos ((Cd x).2 (by omega)),Ay,if_pos h2.1]
   unfold Cr
   rw [if_pos h2.2.1,if_neg (by omega),show 4352+(x - 44032) / 588=4352+(a - 44032) / 588 by omega,show 4449+(x - 44032) % 588 / 28=4449+(a - 44032) % 588 / 28 by omega,show 4519+(x - 44032) % 28=b by omega]
   rfl
  ·rw [if_neg h2] at h
   obtain ⟨y,hy,rfl,rfl,ho⟩:=Ft h
   obtain ⟨-,h3,h4⟩:=Pl hy ho
   have h5:=Ti soft hy
   simp only [Ui,Bool.and_eq_true,Bool.not_eq_true'] at h5
   rw [Ay soft x,h5.2,hy]
   simp only [h4,Bool.false_and,Bool.false_eq_true,if_false,if_neg h3]
inductive Sim:List Int->List Int->Prop
 | refl (l:List Int):Sim l l
 | swap (p:List Int) (a b:Int) (q:List Int):0<Ae a->0<Ae b->Ae a ≠ Ae b->Sim (p ++ a::b::q) (p ++ b::a::q)
 | trans {x y z:List Int}:Sim x y->Sim y z->Sim x z
theorem Sim.symm {x y:List Int} (h:Sim x y):Sim y x:=by
 induction h with
 | refl l=>exact .refl l
 | swap p a b q h1 h2 h3=>exact .swap p b a q h2 h1 λe=>h3 e.symm
 | trans _ _ ih1 ih2=>exact .trans ih2 ih1
theorem Sim.ahead {x y:List Int} (h:Sim x y) (p:List Int):Sim (p ++ x) (p ++ y):=by
 induction h with
 | refl l=>exact .refl _
 | swap p' a b q h1 h2 h3 =>
  rw [<- List.append_assoc,<- List.append_assoc]
  exact .swap _ a b q h1 h2 h3
 | trans _ _ ih1 ih2=>exact .trans ih1 ih2
theorem Sim.behind {x y:List Int} (h:Sim x y) (q:List Int):Sim (x ++ q) (y ++ q):=by
 induction h with
 | refl l=>exact .refl _
 | swap p a b q' h1 h2 h3 =>
  simp only [List.append_assoc,List.cons_append]
  exact .swap p a b _ h1 h2 h3
 | trans _ _ ih1 ih2=>exact .trans ih1 ih2
def ins (x:Int):List Int->List Int
 | []=>[x]
 | y::l=>if 0<Ae y/\Ae y<Ae x then y::ins x l else x::y::l
def order:List Int->List Int
 | []=>[]
 | x::l=>ins x (order l)
theorem Wo {a b:Int} (ha:0<Ae a) (hab:Ae a<Ae b):∀ L:List Int,ins a (ins b L)=ins b (ins a L)
 | []=>by simp only [ins];rw [if_neg (by omega),if_pos ⟨ha,hab⟩]
 | y::l=>by
  by_cases h1:0<Ae y/\Ae y<Ae b
  ·by_cases h2:Ae y<Ae a
   ·simp only [ins,if_pos h1,if_pos (show 0<Ae y/\Ae y<Ae a from ⟨h1.1,h2⟩)]
    rw [Wo ha hab l]
   ·simp only [ins,if_pos h1,if_neg (show ¬ (0<Ae y/\Ae y<Ae a) from λh=>h2 h.2),if_pos (show 0<Ae a/\Ae a<Ae b from ⟨ha,hab⟩)]
  ·simp only [ins,if_neg h1,if_neg (show ¬ (0<Ae y/\Ae y<Ae a) from λh=>h1 ⟨h.1,by omega⟩),if_pos (show 0<Ae a/\Ae a<Ae b from ⟨ha,hab⟩),if_neg (show ¬ (0<Ae b/\Ae b<Ae a) from λh=>by omega)]
theorem As2 {a b:Int} (ha:0<Ae a) (hb:0<Ae b) (h:Ae a ≠ Ae b) (L:List Int):ins a (ins b L)=ins b (ins a L):=by
 rcases (show Ae a<Ae b\/Ae b<Ae a by omega) with h1 | h1
 · exact Wo ha h1 L
 · exact (Wo hb h1 L).symm
theorem Q4 (p q:List Int):order (p ++ q)=p.foldr ins (order q):=by
 induction p with
 | nil=>rfl
 | cons x p ih=>simp only [List.cons_append,order,List.foldr_cons,ih]
theorem N7 {x y:List Int} (h:Sim x y):order x=order y:=by
 induction h with
 | refl l=>rfl
 | swap p a b q h1 h2 h3=>rw [Q4,Q4];simp only [order];rw [As2 h1 h2 h3]
 | trans _ _ ih1 ih2=>exact ih1.trans ih2
theorem Amc (x:Int):∀ L:List Int,Sim (x::L) (ins x L)
 | []=>.refl _
 | y::l=>by
  unfold ins
  split
  ·rename_i h
   exact .trans (Sim.swap [] x y l (by omega) h.1 (by omega)) ((Amc x l).ahead [y])
  ·exact .refl _
theorem Gw:∀ l:List Int,Sim l (order l)
 | []=>.refl _
 | x::l=>.trans ((Gw l).ahead [x]) (Amc x _)
theorem Agq (l:List Int):order (order l)=order l:=(N7 (Gw l)).symm
def sorted:List Int->Bool
 | []=>true
 | x::l=>(match l with | []=>true | y::_=>!(decide (0<Ae y) && decide (Ae y<Ae x))) && sorted l
theorem Ld:∀ {l:List Int},sorted l=true->order l=l
 | [],_=>rfl
 | [x],_=>rfl
 | x::y::l,h=>by
  simp only [sorted,Bool.and_eq_true,Bool.not_eq_true',Bool.and_eq_false_iff,decide_eq_false_iff_not] at h
  have ih:order (y::l)=y::l:=Ld (by simp only [sorted,Bool.and_eq_true];exact h.2)
  show ins x (order (y::l))=_
  rw [ih]
  unfold ins
  rw [if_neg (λhh=>by rcases h.1 with h1 | h1<;>omega)]
theorem Atx {l m:List Int} (h:Sim l m) (hs:sorted m=true):m=order l:=(Ld hs).symm.trans (N7 h).symm
def split (soft:Bool) (l:List Int):List Int:=l.flatMap (pieces soft)
theorem Gl (soft:Bool) (p q:List Int):split soft (p ++ q)=split soft p ++ split soft q:=List.flatMap_append
theorem Jf (soft:Bool) {l:List Int} (h:∀ c ∈ l,whole soft c=true):split soft l=l:=Oh soft h
theorem Aqq (soft:Bool) {x y:List Int} (h:Sim x y):Sim (split soft x) (split soft y):=by
 induction h with
 | refl l=>exact .refl _
 | swap p a b q h1 h2 h3 =>
  simp only [split,List.flatMap_append,List.flatMap_cons,Di.1 (La soft h1),Di.1 (La soft h2),List.cons_append,List.nil_append]
  exact .swap _ a b _ h1 h2 h3
 | trans _ _ ih1 ih2=>exact .trans ih1 ih2
def step (R:List Int) (c:Int):List Int :=
 match R.dropWhile (λy=>decide (0<Ae y)) with
 | []=>c::R
 | s
   :: A=>if (R.takeWhile (λy=>decide (0<Ae y))).all (λy=>decide (Ae y<Ae c)) then
   (match Dr s c with | some x=>R.takeWhile (λy=>decide (0<Ae y)) ++ x::A | none=>c::R)
  else c::R
def Afv (l:List Int):List Int:=l.foldl step []
def join (l:List Int):List Int:=(Afv l).reverse
theorem Abx {p:Int->Bool}:∀ {l:List Int} {y:Int},y ∈ l.takeWhile p->p y=true
 | [],_,h=>by cases h
 | x::l,y,h=>by
  rw [List.takeWhile_cons] at h
  split at h
  ·rcases List.mem_cons.1 h with rfl | h
   · assumption
   · exact Abx h
  ·cases h
theorem X4 {c:Int}:∀ {M:List Int},(∀ y ∈ M,0<Ae y/\Ae y<Ae c)->Sim (c::M) (M ++ [c])
 | [],_=>.refl _
 | y::M,h=>by
  have hy:=h y (by simp)
  exact .trans (Sim.swap [] c y M (by omega) hy.1 (by omega)) ((X4 λz hz=>h z (by simp [hz])).ahead [y])
theorem Au3 (soft:Bool) (R p:List Int) (c:Int) (hc:whole soft c=true) (h:Sim (split soft R.reverse) p):Sim (split soft (step R c).reverse) (p ++ [c]):=by
 have plain:Sim (split soft (c::R).reverse) (p ++ [c]):=by
  rw [List.reverse_cons,Gl]
  have e:split soft [c]=[c]:=Jf soft (by simpa using hc)
  rw [e]
  exact h.behind [c]
 unfold step
 split
 ·exact plain
 ·rename_i s A hA
  split
  ·rename_i hfree
   split
   ·rename_i x hx
    have hR:R=R.takeWhile (λy=>decide (0<Ae y)) ++ s::A:=by rw [<- hA];exact (List.takeWhile_append_dropWhile).symm
    have hM:∀ y ∈ (R.takeWhile (λy=>decide (0<Ae y))).reverse,0<Ae y/\Ae y<Ae c:=by
     intro y hy
     rw [List.mem_reverse] at hy
     exact ⟨of_decide_eq_true (Abx hy),of_decide_eq_true (List.all_eq_true.1 hfree y hy)⟩
    generalize R.takeWhile (λy=>decide (0<Ae y))=M at hR hM
    subst hR
    refine .trans ?_ (h.behind [c])
    simp only [List.reverse_append,List.reverse_cons,List.append_assoc,List.singleton_append,Gl]
    have eM:split soft M.reverse=M.reverse:=Jf soft λy hy=>La soft (hM y hy).1
    have ex:split soft (x::M.reverse)=pieces soft s ++ (c::M.reverse):=by
     show pieces soft x ++ split soft M.reverse=_
     rw [Ao1 soft hx,Di.1 hc,eM,List.append_assoc]
     rfl
    have es:split soft (s::M.reverse)=pieces soft s ++ M.reverse:=by
     show pieces soft s ++ split soft M.reverse=_
     rw [eM]
    rw [ex,es,List.append_assoc]
    exact ((X4 hM).ahead _).ahead _
   ·exact plain
  ·exact plain
theorem Aao (soft:Bool):∀ (l R p:List Int),(∀ c ∈ l,whole soft c=true)->Sim (split soft R.reverse) p->Sim (split soft (l.foldl step R).reverse) (p ++ l)
 | [],R,p,_,h=>by simpa using h
 | c::l,R,p,hl,h=>by
  have:=Aao soft l (step R c) (p ++ [c]) (λy hy=>hl y (by simp [hy])) (Au3 soft R p c (hl c (by simp)) h)
  simpa using this
theorem Afz (soft:Bool) {l:List Int} (h:∀ c ∈ l,whole soft c=true):Sim (split soft (join l)) l:=by
 have:=Aao soft l [] [] h (.refl _)
 exact this
def down (soft:Bool) (l:List Int):List Int:=order (split soft l)
theorem Amv {x y:List Int} (h:Sim x y):∀ c,c ∈ x ↔ c ∈ y:=by
 induction h with
 | refl l=>intro c;exact Iff.rfl
 | swap p a b q _ _ _=>intro c;simp only [List.mem_append,List.mem_cons];constructor<;>(rintro (h | h | h | h)<;>simp [h])
 | trans _ _ ih1 ih2=>exact λc=>(ih1 c).trans (ih2 c)
theorem Qk (soft:Bool) (l:List Int):∀ c ∈ down soft l,∃ r ∈ l,c ∈ pieces soft r:=by
 intro c hc
 have:=(Amv (Gw (split soft l)) c).2 hc
 exact List.mem_flatMap.1 this
theorem Oz (soft:Bool) (l:List Int):∀ c ∈ down soft l,whole soft c=true:=λc hc=>by
 obtain ⟨r,-,h⟩:=Qk soft l c hc
 exact Adk soft r c h
theorem Ar9 (soft:Bool) {x y:List Int} (h:Sim x y):down soft x=down soft y:=N7 (Aqq soft h)
theorem Wd (soft:Bool) (l:List Int):order (down soft l)=down soft l:=Agq _
theorem An1 (soft:Bool) (l:List Int):down soft (down soft l)=down soft l:=by
 show order (split soft (down soft l))=_
 rw [Jf soft (Oz soft l),Wd]
theorem An2 (soft:Bool) (l:List Int):down soft (join (down soft l))=down soft l:=by
 show order (split soft (join (down soft l)))=_
 rw [N7 (Afz soft (Oz soft l)),Wd]
end Norm
end
section
namespace Norm
end Norm
end
section
namespace Fold
open Norm
def narrow (r:Int):Int:=if Bl r then r - 65248 else r
def fo (r:Int):Int:=Fi (narrow r)
def Y6 (r:Int):Bool:=decide (pieces false (fo r)=((pieces false r).map fo).flatMap (pieces false)) && (pieces false (fo r)).all (λc=>fo c == c) && decide (0<Ae r->fo r=r)
theorem Atg:∀ y ∈ lowers,∀ i ∈ List.range (y.hi - y.lo+1).toNat,Y6 (y.lo+i)=true:=by decide +kernel
theorem Ak1:∀ y ∈ splits,Y6 y.rune=true:=by decide +kernel
theorem Aq9:∀ i ∈ List.range 94,Y6 (65281+i)=true:=by decide +kernel
theorem Aof:∀ i ∈ List.range 195,Y6 (4352+i)=true/\fo (4352+i)=4352+i:=by decide +kernel
theorem Aoy:∀ y ∈ lowers,y.hi<44032\/55203<y.lo:=by decide +kernel
theorem Vc {r:Int} (h:syl r=true):fo r=r:=by
 have h':=(Cd r).1 h
 have hn:narrow r=r:=by unfold narrow Bl;rw [if_neg];simp;omega
 unfold fo
 rw [hn]
 unfold Fi
 cases hl:K9 r with
 | none=>rfl
 | some y =>
  obtain ⟨h1,h2,h3⟩:=Cz hl
  have:=Aoy y h1
  omega
theorem Awd {c:Int} (h:Zb c=true):fo c=c:=by
 have h':=(Hk c).1 h
 have:=(Aof (c - 4352).toNat (by rw [List.mem_range];omega)).2
 rwa [show (4352:Int)+((c - 4352).toNat:Int)=c by omega] at this
theorem Vd {l:List Int} (h:∀ c ∈ l,fo c=c):l.map fo=l:=by
 induction l with
 | nil=>rfl
 | cons a l ih=>rw [List.map_cons,h a (by simp),ih λc hc=>h c (by simp [hc])]
theorem Ass (r:Int):Y6 r=true:=by
 cases hs:syl r with
 | true =>
  have e:pieces false r=Cr r:=by rw [Ay,hs];rfl
  have hj:=λc hc=>Awd (Ng hs c hc)
  unfold Y6
  rw [Vc hs,e,Vd hj,Oh false λc hc=>Ir (Ng hs c hc) false]
  simp only [Bool.and_eq_true,decide_eq_true_eq,List.all_eq_true,beq_iff_eq]
  exact ⟨⟨trivial,hj⟩,λ_=>trivial⟩
 | false =>
  cases hw:Bl r with
  | true =>
   simp only [Bl,Bool.and_eq_true,decide_eq_true_eq] at hw
   have:=Aq9 (r - 65281).toNat (by rw [List.mem_range];omega)
   rwa [show (65281:Int)+((r - 65281).toNat:Int)=r by omega] at this
  | false =>
   cases hp:Aj r with
   | some y =>
    rcases Bi hp with ⟨hy,rfl⟩ | ⟨hw',-⟩
    ·exact Ak1 y hy
    ·rw [hw] at hw';cases hw'
   | none =>
    have hn:narrow r=r:=by unfold narrow;rw [hw];rfl
    cases hl:K9 r with
    | some y =>
     obtain ⟨h1,h2,h3⟩:=Cz hl
     have:=Atg y h1 (r - y.lo).toNat (by rw [List.mem_range];omega)
     rwa [show y.lo+((r - y.lo).toNat:Int)=r by omega] at this
    | none =>
     have e:pieces false r=[r]:=by rw [Ay,hs,hp];rfl
     have hf:fo r=r:=by unfold fo Fi;rw [hn,hl]
     unfold Y6
     rw [hf,e]
     simp [hf,e]
theorem An7 (r:Int):pieces false (fo r)=((pieces false r).map fo).flatMap (pieces false):=by
 have:=Ass r
 simp only [Y6,Bool.and_eq_true,decide_eq_true_eq] at this
 exact this.1.1
theorem Ax9 (r:Int):∀ c ∈ pieces false (fo r),fo c=c:=by
 have:=Ass r
 simp only [Y6,Bool.and_eq_true,List.all_eq_true,beq_iff_eq] at this
 exact this.1.2
theorem Al9 {r:Int} (h:0<Ae r):fo r=r:=by
 have:=Ass r
 simp only [Y6,Bool.and_eq_true,decide_eq_true_eq] at this
 exact this.2 h
theorem Ya (l:List Int):split false (l.map fo)=split false ((split false l).map fo):=by
 induction l with
 | nil=>rfl
 | cons r l ih =>
  show pieces false (fo r) ++ split false (l.map fo)=split false ((pieces false r ++ split false l).map fo)
  rw [List.map_append,Gl,ih,An7]
  rfl
theorem Aym {x y:List Int} (h:Sim x y):Sim (x.map fo) (y.map fo):=by
 induction h with
 | refl l=>exact .refl _
 | swap p a b q h1 h2 h3 =>
  simp only [List.map_append,List.map_cons,Al9 h1,Al9 h2]
  exact .swap _ a b _ h1 h2 h3
 | trans _ _ ih1 ih2=>exact .trans ih1 ih2
theorem Av2 (l:List Int):down false (l.map fo)=down false ((down false l).map fo):=by
 have h1:down false (l.map fo)=down false ((split false l).map fo):=by
  show order (split false (l.map fo))=order (split false ((split false l).map fo))
  rw [Ya]
 rw [h1]
 exact Ar9 false (Aym (Gw (split false l)))
def fold (l:List Int):List Int:=join (down false (l.map fo))
theorem Aab (l:List Int):down false (fold l)=down false (l.map fo):=An2 false _
theorem Afl (l:List Int):∀ c ∈ down false (l.map fo),fo c=c:=by
 intro c hc
 obtain ⟨r,hr,hcr⟩:=Qk false _ c hc
 obtain ⟨q,-,rfl⟩:=List.mem_map.1 hr
 exact Ax9 q c hcr
theorem Nv (l:List Int):fold (fold l)=fold l:=by
 show join (down false ((fold l).map fo))=join (down false (l.map fo))
 rw [Av2,Aab,Vd (Afl l),An1]
theorem Atq (l:List Int):join (down false (fold l))=fold l:=by rw [Aab];rfl
theorem Apb:∀ y ∈ splits,fo y.one=y.one->fo y.two=y.two->fo y.rune=y.rune:=by decide +kernel
theorem Ao0 {a b x:Int} (h:Dr a b=some x) (ha:fo a=a) (hb:fo b=b):fo x=x:=by
 unfold Dr at h
 split at h
 ·obtain rfl:=Option.some.inj h
  exact Vc ((Cd _).2 (by omega))
 ·split at h
  ·rename_i h2
   obtain rfl:=Option.some.inj h
   have:=(Cd a).1 h2.1
   exact Vc ((Cd _).2 (by omega))
  ·obtain ⟨y,hy,rfl,rfl,ho⟩:=Ft h
   rcases Bi hy with ⟨h1,rfl⟩ | ⟨-,rfl⟩
   · exact Apb y h1 ha hb
   · cases ho
theorem Au2 {R:List Int} {c:Int} (hR:∀ y ∈ R,fo y=y) (hc:fo c=c):∀ y ∈ step R c,fo y=y:=by
 have plain:∀ y ∈ c::R,fo y=y:=λy hy=>by
  rcases List.mem_cons.1 hy with rfl | hy
  ·exact hc
  ·exact hR y hy
 unfold step
 split
 ·exact plain
 ·rename_i s A hA
  have hin:∀ y ∈ s::A,fo y=y:=λy hy=>hR y ((List.dropWhile_sublist (λy=>decide (0<Ae y))).subset (by rw [hA];exact hy))
  split
  ·split
   ·rename_i x hx
    intro y hy
    rw [List.mem_append,List.mem_cons] at hy
    rcases hy with hy | rfl | hy
    · exact hR y ((List.takeWhile_sublist _).subset hy)
    · exact Ao0 hx (hin s (by simp)) hc
    · exact hin y (by simp [hy])
   ·exact plain
  ·exact plain
theorem Afy:∀ (l R:List Int),(∀ y ∈ l,fo y=y)->(∀ y ∈ R,fo y=y)->∀ y ∈ l.foldl step R,fo y=y
 | [],_,_,hR=>hR
 | c::l,R,hl,hR=>Afy l (step R c) (λy hy=>hl y (by simp [hy])) (Au2 hR (hl c (by simp)))
theorem Qs (l:List Int):∀ c ∈ fold l,fo c=c:=by
 intro c hc
 unfold fold join at hc
 rw [List.mem_reverse] at hc
 exact Afy _ [] (Afl l) (λy hy=>by cases hy) c hc
end Fold
end
section
namespace Norm
def Du (l:List Int):Prop:=∀ c ∈ l,0<=c/\c<128
def Np (c:Int):Bool:=whole false c && whole true c && decide (Ae c=0) && decide (Fold.fo c=if 65<=c/\c<=90 then c+32 else c)
theorem Aks:∀ i ∈ List.range 128,Np (i:Nat)=true:=by decide +kernel
theorem Py {c:Int} (h:0<=c/\c<128):Np c=true:=by
 have:=Aks c.toNat (by rw [List.mem_range];omega)
 rwa [show ((c.toNat:Nat):Int)=c by omega] at this
theorem I8 {c:Int} (h:0<=c/\c<128) (soft:Bool):whole soft c=true:=by
 have:=Py h
 simp only [Np,Bool.and_eq_true] at this
 cases soft
 · exact this.1.1.1
 · exact this.1.1.2
theorem Zu {c:Int} (h:0<=c/\c<128):Ae c=0:=by
 have:=Py h
 simp only [Np,Bool.and_eq_true,decide_eq_true_eq] at this
 exact this.1.2
theorem Px {c:Int} (h:0<=c/\c<128):Fold.fo c=if 65<=c/\c<=90 then c+32 else c:=by
 have:=Py h
 simp only [Np,Bool.and_eq_true,decide_eq_true_eq] at this
 exact this.2
theorem Uj:∀ {l:List Int},(∀ c ∈ l,Ae c=0)->sorted l=true
 | [],_=>rfl
 | [_],_=>rfl
 | x::y::l,h=>by
  have ih:sorted (y::l)=true:=Uj λc hc=>h c (by simp [hc])
  unfold sorted
  rw [Bool.and_eq_true]
  refine ⟨?_,ih⟩
  simp [h y (by simp)]
theorem Aig (soft:Bool) {l:List Int} (h:Du l):down soft l=l:=by
 show order (split soft l)=l
 rw [Jf soft λc hc=>I8 (h c hc) soft]
 exact Ld (Uj λc hc=>Zu (h c hc))
theorem Auk:∀ y ∈ splits,y.soft=false->y.out=false->768<=y.two:=by decide +kernel
theorem Aii {a b:Int} (ha:0<=a/\a<128) (hb:0<=b/\b<128):Dr a b=none:=by
 unfold Dr
 rw [if_neg (by omega),if_neg (λh=>by have:=(Cd a).1 h.1;omega)]
 cases hp:Gg a b with
 | none=>rfl
 | some z =>
  obtain ⟨y,hy,-,h2,ho⟩:=Ft hp
  obtain ⟨-,-,h4⟩:=Pl hy ho
  rcases Bi hy with ⟨h1,-⟩ | ⟨-,rfl⟩
  ·have:=Auk y h1 h4 ho
   omega
  ·cases ho
theorem Aij {R:List Int} {c:Int} (hR:Du R) (hc:0<=c/\c<128):step R c=c::R:=by
 cases R with
 | nil=>rfl
 | cons s A =>
  have hs:¬ 0<Ae s:=by rw [Zu (hR s (by simp))];omega
  unfold step
  simp only [List.dropWhile_cons,List.takeWhile_cons,hs,decide_false,Bool.false_eq_true,if_false,List.all_nil,if_true,Aii (hR s (by simp)) hc]
theorem Oq:∀ (l R:List Int),Du l->Du R->l.foldl step R=l.reverse ++ R
 | [],_,_,_=>rfl
 | c::l,R,hl,hR=>by
  have hc:=hl c (by simp)
  rw [List.foldl_cons,Aij hR hc,Oq l (c::R) (λy hy=>hl y (by simp [hy])) (λy hy=>by
   rcases List.mem_cons.1 hy with rfl | hy
   · exact hc
   · exact hR y hy)]
  simp
theorem Aih {l:List Int} (h:Du l):join l=l:=by
 unfold join Afv
 rw [Oq l [] h (λy hy=>by cases hy)]
 simp
theorem Ji {l:List Int} (h:Du l):Fold.fold l=l.map λc=>if 65<=c/\c<=90 then c+32 else c:=by
 have e:l.map Fold.fo=l.map λc=>if 65<=c/\c<=90 then c+32 else c:=List.map_congr_left λc hc=>Px (h c hc)
 have ha:Du (l.map λc=>if 65<=c/\c<=90 then c+32 else c):=by
  intro c hc
  obtain ⟨d,hd,rfl⟩:=List.mem_map.1 hc
  have:=h d hd
  split<;>omega
 unfold Fold.fold
 rw [e,Aig false ha,Aih ha]
end Norm
end
section
namespace Norm
theorem Vu {L M:List Int} (hl:L.length=M.length) (h:∀ i,i<L.length->L[i]! = M[i]!):L=M:=by
 refine List.ext_getElem hl λi h1 h2=>?_
 have:=h i h1
 rwa [getElem!_pos L i h1,getElem!_pos M i h2] at this
theorem Cy {p q:List Int} {i:Nat} (h:i<p.length):(p ++ q)[i]! = p[i]!:=by
 rw [getElem!_pos (p ++ q) i (by rw [List.length_append];omega),getElem!_pos p i h,List.getElem_append_left h]
theorem Co {p q:List Int} {i:Nat} (h:p.length<=i):(p ++ q)[i]! = q[i - p.length]!:=by
 simp only [List.getElem!_eq_getElem?_getD,List.getElem?_append_right h]
theorem Fz {L:List Int} {n i:Nat} (h:i<n):(L.take n)[i]! = L[i]!:=by
 simp only [List.getElem!_eq_getElem?_getD,List.getElem?_take_of_lt h]
theorem Fy (L:List Int) (n i:Nat):(L.drop n)[i]! = L[n+i]!:=by
 simp only [List.getElem!_eq_getElem?_getD,List.getElem?_drop]
theorem Qb (L:List Int) (k i:Nat) (x:Int) (h:k<L.length):(L.set k x)[i]! = if i=k then x else L[i]!:=by
 simp only [List.getElem!_eq_getElem?_getD,List.getElem?_set]
 by_cases e:i=k
 · subst e;simp [h]
 · rw [if_neg (λh=>e h.symm),if_neg e]
theorem Aej {L:List Int} {x:Int} (h:x ∈ L):∃ i,i<L.length/\L[i]! = x:=by
 obtain ⟨i,hi,rfl⟩:=List.mem_iff_getElem.1 h
 exact ⟨i,hi,getElem!_pos L i hi⟩
def Up (L:List Int) (a b:Nat):Prop:=∀ i j,a<=i->i<j->j<b->Ae L[i]!<=Ae L[j]!
theorem Up.part {L:List Int} {a b a' b':Nat} (h:Up L a b) (h1:a<=a') (h2:b'<=b):Up L a' b':=λi j hi hij hj=>h i j (by omega) hij (by omega)
theorem Up.le {L:List Int} {a b:Nat} (h:Up L a b) {i j:Nat} (hi:a<=i) (hij:i<=j) (hj:j<b):Ae L[i]!<=Ae L[j]!:=by
 rcases Nat.lt_or_eq_of_le hij with h1 | rfl
 · exact h i j hi h1 hj
 · exact Int.le_refl _
theorem Up.small {L:List Int} {a b:Nat} (h:b<=a+1):Up L a b:=λi j _ _ _=>by omega
theorem Up.same {L M:List Int} {a b:Nat} (h:Up L a b) (e:∀ i,a<=i->i<b->M[i]! = L[i]!):Up M a b:=λi j hi hij hj=>by
 rw [e i hi (by omega),e j (by omega) hj]
 exact h i j hi hij hj
structure Aq (a b:Nat) (L M:List Int):Prop where
 len:M.length=L.length
 out:∀ i,i<a\/b<=i->M[i]! = L[i]!
 inn:∀ i,a<=i->i<b->∃ j,a<=j/\j<b/\M[i]! = L[j]!
 sim:(∀ i,a<=i->i<b->0<Ae L[i]!)->Sim L M
theorem Aq.refl (a b:Nat) (L:List Int):Aq a b L L:=⟨rfl,λ_ _=>rfl,λi h1 h2=>⟨i,h1,h2,rfl⟩,λ_=>.refl _⟩
theorem Aq.trans {a b:Nat} {L M N:List Int} (h:Aq a b L M) (k:Aq a b M N):Aq a b L N:=by
 refine ⟨k.len.trans h.len,λi hi=>(k.out i hi).trans (h.out i hi),λi h1 h2=>?_,λhm=>?_⟩
 ·obtain ⟨j,h3,h4,e⟩:=k.inn i h1 h2
  obtain ⟨j',h5,h6,e'⟩:=h.inn j h3 h4
  exact ⟨j',h5,h6,e.trans e'⟩
 ·refine .trans (h.sim hm) (k.sim λi h1 h2=>?_)
  obtain ⟨j,h3,h4,e⟩:=h.inn i h1 h2
  rw [e]
  exact hm j h3 h4
theorem Aq.mono {a b a' b':Nat} {L M:List Int} (h:Aq a b L M) (h1:a'<=a) (h2:b<=b'):Aq a' b' L M:=by
 refine ⟨h.len,λi hi=>h.out i (by omega),λi h3 h4=>?_,λhm=>h.sim λi h3 h4=>hm i (by omega) (by omega)⟩
 by_cases hi:a<=i/\i<b
 ·obtain ⟨j,h5,h6,e⟩:=h.inn i hi.1 hi.2
  exact ⟨j,by omega,by omega,e⟩
 ·exact ⟨i,h3,h4,h.out i (by omega)⟩
theorem Aq.all {a b:Nat} {L M:List Int} (h:Aq a b L M) {p:Int->Prop} (hp:∀ i,a<=i->i<b->p L[i]!):∀ i,a<=i->i<b->p M[i]!:=λi h1 h2=>by
 obtain ⟨j,h3,h4,e⟩:=h.inn i h1 h2
 rw [e]
 exact hp j h3 h4
def Fw (L:List Int) (k:Nat):List Int:=(L.set k L[k+1]!).set (k+1) L[k]!
theorem Ym (L:List Int) (k:Nat):(Fw L k).length=L.length:=by unfold Fw;simp
theorem Ij (L:List Int) (k i:Nat) (h:k+1<L.length):(Fw L k)[i]! = if i=k+1 then L[k]! else if i=k then L[k+1]! else L[i]!:=by
 unfold Fw
 rw [Qb _ _ _ _ (by rw [List.length_set];exact h),Qb _ _ _ _ (by omega)]
theorem Al4 (L:List Int) (k:Nat) (h:k+1<L.length):L=L.take k ++ L[k]!::L[k+1]!::L.drop (k+2):=by
 rw [getElem!_pos L k (by omega),getElem!_pos L (k+1) h,<- List.drop_eq_getElem_cons h,<- List.drop_eq_getElem_cons (by omega),List.take_append_drop]
theorem Axe (L:List Int) (k:Nat) (h:k+1<L.length):Fw L k=L.take k ++ L[k+1]!::L[k]!::L.drop (k+2):=by
 have e:=Al4 L k h
 have hk:(L.take k).length=k:=by rw [List.length_take];omega
 unfold Fw
 generalize L[k]! = x at e ⊢
 generalize L[k+1]! = y at e ⊢
 generalize L.take k=p at e hk ⊢
 generalize L.drop (k+2)=q at e ⊢
 subst e hk
 rw [List.set_append_right _ _ (Nat.le_refl _),List.set_append_right _ _ (by omega),Nat.sub_self,show p.length+1 - p.length=1 by omega]
 rfl
theorem Aq.Fw {a b k:Nat} (L:List Int) (h1:a<=k) (h2:k+1<b) (h3:b<=L.length) (hc:Ae L[k+1]!<Ae L[k]!):Aq a b L (Fw L k):=by
 refine ⟨Ym _ _,λi hi=>?_,λi h4 h5=>?_,λhm=>?_⟩
 ·rw [Ij _ _ _ (by omega),if_neg (by omega),if_neg (by omega)]
 ·rw [Ij _ _ _ (by omega)]
  by_cases e1:i=k+1
  ·rw [if_pos e1];exact ⟨k,by omega,by omega,rfl⟩
  ·rw [if_neg e1]
   by_cases e2:i=k
   · rw [if_pos e2];exact ⟨k+1,by omega,by omega,rfl⟩
   · rw [if_neg e2];exact ⟨i,h4,h5,rfl⟩
 ·rw [Axe L k (by omega)]
  have h:=Sim.swap (L.take k) L[k]! L[k+1]! (L.drop (k+2)) (hm k h1 (by omega)) (hm (k+1) (by omega) h2) (by omega)
  rwa [<- Al4 L k (by omega)] at h
structure Rot (a m b:Nat) (L M:List Int):Prop where
 len:M.length=L.length
 fst:∀ i,a<=i->i<a+(b - m)->M[i]! = L[i+(m - a)]!
 snd:∀ i,a+(b - m)<=i->i<b->M[i]! = L[i - (b - m)]!
 out:∀ i,i<a\/b<=i->M[i]! = L[i]!
theorem Rot.none {a m b:Nat} (L:List Int) (h1:a<=m) (h2:m<=b) (h:a=m\/m=b):Rot a m b L L:=by
 refine ⟨rfl,λi h3 h4=>?_,λi h3 h4=>?_,λ_ _=>rfl⟩
 ·rcases h with rfl | rfl
  · rw [show i+(a - a)=i by omega]
  · omega
 ·rcases h with rfl | rfl
  · omega
  · rw [show i - (m - m)=i by omega]
theorem Abl:∀ {X Y:List Int},(∀ x ∈ X,∀ y ∈ Y,0<Ae y/\Ae y<Ae x)->Sim (X ++ Y) (Y ++ X)
 | [],Y,_=>by rw [List.append_nil];exact .refl _
 | x::X,Y,h=>by
  have h1:Sim (X ++ Y) (Y ++ X):=Abl λz hz y hy=>h z (by simp [hz]) y hy
  have h2:Sim (x::Y) (Y ++ [x]):=X4 λy hy=>h x (by simp) y hy
  have h3:=h2.behind X
  rw [List.append_assoc] at h3
  exact .trans (h1.ahead [x]) h3
theorem Rot.Ayu {a m b:Nat} {L M:List Int} (h:Rot a m b L M) (h1:a<=m) (h2:m<=b) (h3:b<=L.length) (hc:∀ i j,a<=i->i<m->m<=j->j<b->Ae L[j]!<Ae L[i]!):Aq a b L M:=by
 refine ⟨h.len,h.out,λi h4 h5=>?_,λhm=>?_⟩
 ·by_cases hi:i<a+(b - m)
  ·exact ⟨i+(m - a),by omega,by omega,h.fst i h4 hi⟩
  ·exact ⟨i - (b - m),by omega,by omega,h.snd i (by omega) h5⟩
 ·have l1:(L.take a).length=a:=by rw [List.length_take];omega
  have l2:((L.take m).drop a).length=m - a:=by rw [List.length_drop,List.length_take];omega
  have l3:((L.take b).drop m).length=b - m:=by rw [List.length_drop,List.length_take];omega
  have b2:∀ i,i<m - a->((L.take m).drop a)[i]! = L[a+i]!:=λi hi=>by rw [Fy,Fz (by omega)]
  have b3:∀ i,i<b - m->((L.take b).drop m)[i]! = L[m+i]!:=λi hi=>by rw [Fy,Fz (by omega)]
  have eL:L=L.take a ++ (((L.take m).drop a ++ (L.take b).drop m) ++ L.drop b):=by
   refine Vu (by simp only [List.length_append,List.length_drop,l1,l2,l3];omega) λi hi=>?_
   by_cases i1:i<a
   ·rw [Cy (by omega),Fz i1]
   rw [Co (by omega),l1]
   by_cases i2:i<m
   ·rw [Cy (by simp only [List.length_append,l2,l3];omega),Cy (by omega),b2 _ (by omega),show a+(i - a)=i by omega]
   by_cases i3:i<b
   ·rw [Cy (by simp only [List.length_append,l2,l3];omega),Co (by omega),l2,b3 _ (by omega),show m+(i - a - (m - a))=i by omega]
   rw [Co (by simp only [List.length_append,l2,l3];omega),Fy,List.length_append,l2,l3,show b+(i - a - (m - a+(b - m)))=i by omega]
  have eM:M=L.take a ++ (((L.take b).drop m ++ (L.take m).drop a) ++ L.drop b):=by
   refine Vu (by rw [h.len];simp only [List.length_append,List.length_drop,l1,l2,l3];omega) λi hi=>?_
   by_cases i1:i<a
   ·rw [Cy (by omega),Fz i1];exact h.out i (.inl i1)
   rw [Co (by omega),l1]
   by_cases i2:i<a+(b - m)
   ·rw [Cy (by simp only [List.length_append,l2,l3];omega),Cy (by omega),b3 _ (by omega),h.fst i (by omega) i2]
    congr 1;omega
   by_cases i3:i<b
   ·rw [Cy (by simp only [List.length_append,l2,l3];omega),Co (by omega),l3,b2 _ (by omega),h.snd i (by omega) i3]
    congr 1;omega
   rw [Co (by simp only [List.length_append,l2,l3];omega),Fy,List.length_append,l2,l3,h.out i (.inr (by omega))]
   congr 1;omega
  have hS:Sim ((L.take m).drop a ++ (L.take b).drop m) ((L.take b).drop m ++ (L.take m).drop a):=by
   refine Abl λx hx y hy=>?_
   obtain ⟨i,hi,rfl⟩:=Aej hx
   obtain ⟨j,hj,rfl⟩:=Aej hy
   rw [b2 i (by omega),b3 j (by omega)]
   exact ⟨hm _ (by omega) (by omega),hc _ _ (by omega) (by omega) (by omega) (by omega)⟩
  have:=(hS.behind (L.drop b)).ahead (L.take a)
  rw [<- eL,<- eM] at this
  exact this
theorem Rot.Gr {a m b mid s e:Nat} {L M:List Int} (h:Rot s m e L M) (h1:a<=s) (h2:s<=m) (h3:m<=e) (h4:e<=b) (hse:s+e=mid+m) (u1:Up L a m) (u2:Up L m b) :
  Up M a s/\Up M s mid/\Up M mid e/\Up M e b:=by
 refine ⟨λi j hi hij hj=>?_,λi j hi hij hj=>?_,λi j hi hij hj=>?_,λi j hi hij hj=>?_⟩
 ·rw [h.out i (by omega),h.out j (by omega)];exact u1 i j hi hij (by omega)
 ·rw [h.fst i hi (by omega),h.fst j (by omega) (by omega)];exact u2 _ _ (by omega) (by omega) (by omega)
 ·rw [h.snd i (by omega) (by omega),h.snd j (by omega) hj];exact u1 _ _ (by omega) (by omega) (by omega)
 ·rw [h.out i (by omega),h.out j (by omega)];exact u2 i j (by omega) hij hj
theorem merged {a m b mid s e:Nat} {L L1 L2 L3:List Int} (h1:a<=s) (h2:s<=m) (h3:m<=e) (h4:e<=b) (hse:s+e=mid+m) (hm1:s<=mid) (hb:b<=L.length) (u1:Up L a m) (u2:Up L m b)
  (hlo:∀ c d,a<=c->c<s->e<=d->d<b->Ae L[c]!<=Ae L[d]!)
  (hhi:∀ i j,s<=i->i<m->m<=j->j<e->Ae L[j]!<Ae L[i]!)
  (hR:Rot s m e L L1) (k2:Aq a mid L1 L2) (v2:Up L2 a mid) (k3:Aq mid b L2 L3) (v3:Up L3 mid b):Aq a b L L3/\Up L3 a b:=by
 refine ⟨(((hR.Ayu h2 h3 (by omega) hhi).mono h1 h4).trans (k2.mono (Nat.le_refl _) (by omega))).trans (k3.mono (by omega) (Nat.le_refl _)),λi j hi hij hj=>?_⟩
 by_cases c1:j<mid
 ·rw [k3.out i (by omega),k3.out j (by omega)];exact v2 i j hi hij c1
 by_cases c2:mid<=i
 ·exact v3 i j c2 hij hj
 rw [k3.out i (by omega)]
 obtain ⟨i',a1,a2,ei⟩:=k2.inn i hi (by omega)
 obtain ⟨j',b1,b2,ej⟩:=k3.inn j (by omega) hj
 rw [ei,ej,k2.out j' (by omega)]
 by_cases d1:i'<s
 ·rw [hR.out i' (by omega)]
  by_cases d2:j'<e
  · rw [hR.snd j' (by omega) d2];exact u1 _ _ (by omega) (by omega) (by omega)
  · rw [hR.out j' (by omega)];exact hlo _ _ (by omega) d1 (by omega) b2
 ·rw [hR.fst i' (by omega) (by omega)]
  by_cases d2:j'<e
  · rw [hR.snd j' (by omega) d2];exact Int.le_of_lt (hhi _ _ (by omega) (by omega) (by omega) (by omega))
  · rw [hR.out j' (by omega)];exact u2 _ _ (by omega) (by omega) b2
end Norm
end
end Go.Proofs.YtpcgbgfpnhiihaaGreatDoor
