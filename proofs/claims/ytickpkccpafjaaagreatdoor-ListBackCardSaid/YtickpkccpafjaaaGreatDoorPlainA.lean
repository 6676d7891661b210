import Derived.Test.YtickpkccpafjaaaGreatDoorTabPl
namespace Go.Proofs.YtickpkccpafjaaaGreatDoor
section
def Aj5 (y:Sp):Bool:=match Ak y.rune with | some s=>s.one == y.one && s.two == y.two && s.out == y.out | none=>false
theorem Atp:∀ y ∈ splits,Aj5 y=true:=by decide +kernel
theorem Atm:∀ y ∈ splits,y.out=false->Gk y.one y.two=some y.rune/\y.two ≠ 0/\y.soft=false:=by decide +kernel
theorem Bi {x:Int} {y:Sp} (h:Ak x=some y):(y ∈ splits/\y.rune=x)\/(Bj x=true/\y=⟨x,x - 65248,0,true,true⟩):=by
 unfold Ak at h;cases hr:rowOf x with
 | some z =>
  rw [hr] at h;obtain rfl:=Option.some.inj h;obtain ⟨h1,h2,h3⟩:=C8 hr;exact .inl ⟨h1,Int.le_antisymm h2 h3⟩
 | none =>
  rw [hr] at h;cases hw:Bj x with
  | true=>simp only [hw,if_true,Option.some.injEq] at h;exact .inr ⟨rfl,h.symm⟩
  | false=>simp [hw] at h
theorem Qe {x:Int} {y:Sp} (h:Ak x=some y) (ho:y.out=false):Gk y.one y.two=some x/\y.two ≠ 0/\y.soft=false:=by
 rcases Bi h with ⟨hy,rfl⟩ | ⟨_,rfl⟩
 · exact Atm y hy ho
 · cases ho
theorem Fx {a b z:Int} (h:Gk a b=some z):∃ y,Ak z=some y/\y.one=a/\y.two=b/\y.out=false:=by
 unfold Gk at h;by_cases hb:b=0
 ·rw [if_pos hb] at h;cases h
 ·rw [if_neg hb] at h;cases hf:splits.find? (makes a b) with
  | none=>rw [hf] at h;cases h
  | some s =>
   rw [hf] at h;have hz:s.rune=z:=by simpa using h
   have hm:=List.find?_some hf;have hs:=List.mem_of_find?_eq_some hf;simp only [makes,jag,Bool.not_eq_true',beq_iff_eq] at hm;have ht:=Atp s hs;unfold Aj5 at ht;rw [hz] at ht;cases hq:Ak z with
   | none=>rw [hq] at ht;cases ht
   | some y =>
    rw [hq] at ht;simp only [jag,beq_iff_eq] at ht;exact ⟨y,rfl,by rw [ht.1.1,hm.1.2],by rw [ht.1.2,hm.2],by rw [ht.2,hm.1.1.2]⟩
def Awy (x:Int):Bool:=decide (Fo (Fo x)=Fo x/\D4 x=1/\D4 (Fo x)=2/\Bv (Fo x)=Bv x/\Ad (Fo x)=0/\Ax (Fo x)=Ax x)
theorem Ax8:∀ y ∈ lowers,∀ i ∈ List.range (y.hi - y.lo+1).toNat,Awy (y.lo+i)=true:=by decide +kernel
theorem Ar6 (x:Int):Fo x=x\/Awy x=true:=by
 cases h:Lv x with
 | none=>left;unfold Fo;rw [h]
 | some y =>
  right;obtain ⟨h1,h2,h3⟩:=C8 h;have:=Ax8 y h1 (x - y.lo).toNat (by rw [List.mem_range];omega);rwa [show y.lo+((x - y.lo).toNat:Int)=x by omega] at this
def Rv (x one two:Int) (soft:Bool):Bool:=decide (Ad one=0/\Ad x=0/\(two=0\/soft=true\/0<Ad two)/\D4 one ≠ 0)
theorem Ani:∀ y ∈ splits,Rv y.rune y.one y.two y.soft=true:=by decide +kernel
theorem An9:∀ i ∈ List.range 94,Rv (65281+i) (65281+i - 65248) 0 true=true:=by decide +kernel
theorem Vd {x:Int} {y:Sp} (h:Ak x=some y):Rv x y.one y.two y.soft=true:=by
 rcases Bi h with ⟨hy,rfl⟩ | ⟨hw,rfl⟩
 ·exact Ani y hy
 ·simp only [Bj,jag,decide_eq_true_eq] at hw;have:=An9 (x - 65281).toNat (by rw [List.mem_range];omega);rwa [show (65281:Int)+((x - 65281).toNat:Int)=x by omega] at this
end
section
namespace Norm
def syl (r:Int):Bool:=decide (44032<=r) && decide (r<=55203)
def Cu (r:Int):List Int:=[4352+(r - 44032) / 588,4449+(r - 44032) % 588 / 28] ++ (if (r - 44032) % 28=0 then [] else [4519+(r - 44032) % 28])
def one:Nat->Bool->Int->List Int
 | 0,_,r=>[r]
 | n+1,soft,r=>if syl r then Cu r else match Ak r with
  | none=>[r]
  | some x=>if x.soft && !soft then [r] else one n soft x.one ++ (if x.two=0 then [] else one n soft x.two)
def pieces (soft:Bool) (r:Int):List Int:=one 4 soft r
def whole (soft:Bool) (c:Int):Bool:=pieces soft c == [c]
theorem Dk {soft:Bool} {c:Int}:whole soft c=true ↔ pieces soft c=[c]:=by unfold whole;rw [beq_iff_eq]
def U9 (soft:Bool) (x a b:Int):Bool:=decide (one 3 soft a=one 4 soft a) && decide (one 3 soft b=one 4 soft b) && (pieces soft x).all (whole soft) && (pieces true x).all (whole false) && decide ((pieces false x).flatMap (pieces true)=pieces true x) && !syl x
theorem Ajm:∀ y ∈ splits,U9 false y.rune y.one y.two=true/\U9 true y.rune y.one y.two=true:=by decide +kernel
theorem Ay0:∀ i ∈ List.range 94,U9 false (65281+i) (65281+i - 65248) 0=true/\U9 true (65281+i) (65281+i - 65248) 0=true:=by decide +kernel
theorem Ug (soft:Bool) {x:Int} {y:Sp} (h:Ak x=some y):U9 soft x y.one y.two=true:=by
 rcases Bi h with ⟨hy,rfl⟩ | ⟨hw,rfl⟩
 ·cases soft
  · exact (Ajm y hy).1
  · exact (Ajm y hy).2
 ·simp only [Bj,jag,decide_eq_true_eq] at hw;have:=Ay0 (x - 65281).toNat (by rw [List.mem_range];omega);rw [show (65281:Int)+((x - 65281).toNat:Int)=x by omega] at this;cases soft
  · exact this.1
  · exact this.2
theorem Ce (r:Int):syl r=true ↔ 44032<=r/\r<=55203:=by unfold syl;simp
theorem A9 (soft:Bool) (r:Int):pieces soft r=if syl r then Cu r else match Ak r with
  | none=>[r]
  | some x=>if x.soft && !soft then [r] else pieces soft x.one ++ (if x.two=0 then [] else pieces soft x.two):=by
 show one 4 soft r=_;rw [one];cases hs:syl r with
 | true=>rfl
 | false =>
  simp only [Bool.false_eq_true,if_false];cases h:Ak r with
  | none=>rfl
  | some x =>
   have:=Ug soft h;simp only [U9,jag,decide_eq_true_eq] at this;simp only [this.1.1.1.1.1,this.1.1.1.1.2];rfl
def Aan (c:Int):Bool:=(decide (4352<=c) && decide (c<=4370)) || (decide (4449<=c) && decide (c<=4469)) || (decide (4520<=c) && decide (c<=4546))
theorem Hv (c:Int):Aan c=true ↔ (4352<=c/\c<=4370)\/(4449<=c/\c<=4469)\/(4520<=c/\c<=4546):=by
 unfold Aan;simp [or_assoc]
def Awk (c:Int):Bool:=whole false c && whole true c && decide (Ad c=0)
theorem Atk:∀ i ∈ List.range 195,Aan (4352+i)=true->Awk (4352+i)=true:=by decide +kernel
theorem Apa {c:Int} (h:Aan c=true):whole false c=true/\whole true c=true/\Ad c=0:=by
 have h':=(Hv c).1 h;have:=Atk (c - 4352).toNat (by rw [List.mem_range];omega);rw [show (4352:Int)+((c - 4352).toNat:Int)=c by omega] at this;have:=this h;simp only [Awk,jag,decide_eq_true_eq] at this;exact ⟨this.1.1,this.1.2,this.2⟩
theorem Jk {c:Int} (h:Aan c=true) (soft:Bool):whole soft c=true:=by
 cases soft
 · exact (Apa h).1
 · exact (Apa h).2.1
theorem Nu {r:Int} (h:syl r=true):∀ c ∈ Cu r,Aan c=true:=by
 have h':=(Ce r).1 h;intro c hc;unfold Cu at hc;rw [Hv];split at hc
 ·simp only [List.append_nil,jal,List.not_mem_nil,or_false] at hc;omega
 ·simp only [jah,List.nil_append,jal,List.not_mem_nil,or_false] at hc;omega
theorem Ae5 (soft:Bool) (r:Int):∀ c ∈ pieces soft r,whole soft c=true:=by
 cases hs:syl r with
 | true =>
  rw [A9,hs];exact λc hc=>Jk (Nu hs c hc) soft
 | false =>
  cases h:Ak r with
  | none =>
   have e:pieces soft r=[r]:=by rw [A9,hs,h];rfl
   intro c hc;rw [e,List.mem_singleton] at hc;rw [hc];exact Dk.2 e
  | some x =>
   have:=Ug soft h;simp only [U9,jag] at this;exact jar.1 this.1.1.1.2
theorem O6 (soft:Bool) {l:List Int} (h:∀ c ∈ l,whole soft c=true):l.flatMap (pieces soft)=l:=by
 induction l with
 | nil=>rfl
 | cons a l ih =>
  rw [jao,Dk.1 (h a jS),ih λc hc=>h c (by simp [hc])];rfl
theorem A0u:∀ y ∈ Hh,y.hi<=12441:=by decide +kernel
theorem Apy {r:Int} (h:syl r=true):Ad r=0:=by
 have h':=(Ce r).1 h;unfold Ad;cases hc:Aea r with
 | none=>rfl
 | some y =>
  obtain ⟨h1,h2,h3⟩:=C8 hc;have:=A0u y h1;omega
theorem Lx (soft:Bool) {c:Int} (h:0<Ad c):whole soft c=true:=by
 rw [Dk,A9];cases hs:syl c with
 | true=>rw [Apy hs] at h;omega
 | false =>
  cases hp:Ak c with
  | none=>rfl
  | some x =>
   have:=Vd hp;simp only [Rv,decide_eq_true_eq] at this;omega
def Dy (a b:Int):Option Int :=
 if 4352<=a/\a<=4370/\4449<=b/\b<=4469 then some (44032+(a - 4352)*588+(b - 4449)*28)
 else if syl a=true/\(a - 44032) % 28=0/\4520<=b/\b<=4546 then some (a+b - 4519)
 else Gk a b
theorem Asd (soft:Bool) {a b x:Int} (h:Dy a b=some x):pieces soft x=pieces soft a ++ pieces soft b:=by
 unfold Dy at h;by_cases h1:4352<=a/\a<=4370/\4449<=b/\b<=4469
 ·rw [if_pos h1] at h;have hx:=(Option.some.inj h).symm;have ha:Aan a=true:=(Hv a).2 jO;have hb:Aan b=true:=(Hv b).2 jO;rw [Dk.1 (Jk ha soft),Dk.1 (Jk hb soft),A9,if_pos ((Ce x).2 jO)];unfold Cu;rw [if_pos jO,show 4352+(x - 44032) / 588=a by omega,show 4449+(x - 44032) % 588 / 28=b by omega];rfl
 ·rw [if_neg h1] at h;by_cases h2:syl a=true/\(a - 44032) % 28=0/\4520<=b/\b<=4546
  ·rw [if_pos h2] at h;have hx:=(Option.some.inj h).symm;have ha:=(Ce a).1 h2.1;have hb:Aan b=true:=(Hv b).2 jO;rw [Dk.1 (Jk hb soft),A9,if_pos ((Ce x).2 jO),A9,if_pos h2.1];unfold Cu;rw [if_pos h2.2.1,if_neg jO,show 4352+(x - 44032) / 588=4352+(a - 44032) / 588 by omega,show 4449+(x - 44032) % 588 / 28=4449+(a - 44032) % 588 / 28 by omega,show 4519+(x - 44032) % 28=b by omega];rfl
  ·rw [if_neg h2] at h;obtain ⟨y,hy,rfl,rfl,ho⟩:=Fx h;obtain ⟨-,h3,h4⟩:=Qe hy ho;have h5:=Ug soft hy;simp only [U9,jag,Bool.not_eq_true'] at h5;rw [A9 soft x,h5.2,hy];simp only [h4,Bool.false_and,Bool.false_eq_true,if_false,if_neg h3]
inductive Sim:List Int->List Int->Prop
 | refl (l:List Int):Sim l l
 | swap (p:List Int) (a b:Int) (q:List Int):0<Ad a->0<Ad b->Ad a ≠ Ad b->Sim (p ++ a::b::q) (p ++ b::a::q)
 | trans {x y z:List Int}:Sim x y->Sim y z->Sim x z
theorem Sim.symm {x y:List Int} (h:Sim x y):Sim y x:=by
 induction h with
 | refl l=>exact .refl l
 | swap p a b q h1 h2 h3=>exact .swap p b a q h2 h1 λe=>h3 e.symm
 | trans _ _ ih1 ih2=>exact .trans ih2 ih1
theorem Sim.ahead {x y:List Int} (h:Sim x y) (p:List Int):Sim (p ++ x) (p ++ y):=by
 induction h with
 | refl l=>exact .refl _
 | swap p' a b q h1 h2 h3 =>
  rw [<- jaq,<- jaq];exact .swap _ a b q h1 h2 h3
 | trans _ _ ih1 ih2=>exact .trans ih1 ih2
theorem Sim.behind {x y:List Int} (h:Sim x y) (q:List Int):Sim (x ++ q) (y ++ q):=by
 induction h with
 | refl l=>exact .refl _
 | swap p a b q' h1 h2 h3 =>
  simp only [jaq,jah];exact .swap p a b _ h1 h2 h3
 | trans _ _ ih1 ih2=>exact .trans ih1 ih2
def ins (x:Int):List Int->List Int
 | []=>[x]
 | y::l=>if 0<Ad y/\Ad y<Ad x then y::ins x l else x::y::l
def order:List Int->List Int
 | []=>[]
 | x::l=>ins x (order l)
theorem Xu {a b:Int} (ha:0<Ad a) (hab:Ad a<Ad b):∀ L:List Int,ins a (ins b L)=ins b (ins a L)
 | []=>by simp only [ins];rw [if_neg jO,if_pos ⟨ha,hab⟩]
 | y::l=>by
  by_cases h1:0<Ad y/\Ad y<Ad b
  ·by_cases h2:Ad y<Ad a
   ·simp only [ins,if_pos h1,if_pos (show 0<Ad y/\Ad y<Ad a from ⟨h1.1,h2⟩)];rw [Xu ha hab l]
   ·simp only [ins,if_pos h1,if_neg (show ¬ (0<Ad y/\Ad y<Ad a) from λh=>h2 h.2),if_pos (show 0<Ad a/\Ad a<Ad b from ⟨ha,hab⟩)]
  ·simp only [ins,if_neg h1,if_neg (show ¬ (0<Ad y/\Ad y<Ad a) from λh=>h1 ⟨h.1,by omega⟩),if_pos (show 0<Ad a/\Ad a<Ad b from ⟨ha,hab⟩),if_neg (show ¬ (0<Ad b/\Ad b<Ad a) from λh=>by omega)]
theorem Awi {a b:Int} (ha:0<Ad a) (hb:0<Ad b) (h:Ad a ≠ Ad b) (L:List Int):ins a (ins b L)=ins b (ins a L):=by
 rcases (show Ad a<Ad b\/Ad b<Ad a by omega) with h1 | h1
 · exact Xu ha h1 L
 · exact (Xu hb h1 L).symm
theorem Rr (p q:List Int):order (p ++ q)=p.foldr ins (order q):=by
 induction p with
 | nil=>rfl
 | cons x p ih=>simp only [jah,order,List.foldr_cons,ih]
theorem Ol {x y:List Int} (h:Sim x y):order x=order y:=by
 induction h with
 | refl l=>rfl
 | swap p a b q h1 h2 h3=>rw [Rr,Rr];simp only [order];rw [Awi h1 h2 h3]
 | trans _ _ ih1 ih2=>exact ih1.trans ih2
theorem Ao8 (x:Int):∀ L:List Int,Sim (x::L) (ins x L)
 | []=>.refl _
 | y::l=>by
  unfold ins;split
  ·rename_i h
   exact .trans (Sim.swap [] x y l jO h.1 jO) ((Ao8 x l).ahead [y])
  ·exact .refl _
theorem Hd:∀ l:List Int,Sim l (order l)
 | []=>.refl _
 | x::l=>.trans ((Hd l).ahead [x]) (Ao8 x _)
theorem Aiv (l:List Int):order (order l)=order l:=(Ol (Hd l)).symm
def sorted:List Int->Bool
 | []=>true
 | x::l=>(match l with | []=>true | y::_=>!(decide (0<Ad y) && decide (Ad y<Ad x))) && sorted l
theorem Mb:∀ {l:List Int},sorted l=true->order l=l
 | [],_=>rfl
 | [x],_=>rfl
 | x::y::l,h=>by
  simp only [sorted,jag,Bool.not_eq_true',Bool.and_eq_false_iff,decide_eq_false_iff_not] at h;have ih:order (y::l)=y::l:=Mb (by simp only [sorted,jag];exact h.2);show ins x (order (y::l))=_;rw [ih];unfold ins;rw [if_neg (λhh=>by rcases h.1 with h1 | h1<;>omega)]
theorem Axi {l m:List Int} (h:Sim l m) (hs:sorted m=true):m=order l:=(Mb hs).symm.trans (Ol h).symm
def split (soft:Bool) (l:List Int):List Int:=l.flatMap (pieces soft)
theorem Gs (soft:Bool) (p q:List Int):split soft (p ++ q)=split soft p ++ split soft q:=List.flatMap_append
theorem J3 (soft:Bool) {l:List Int} (h:∀ c ∈ l,whole soft c=true):split soft l=l:=O6 soft h
theorem Atz (soft:Bool) {x y:List Int} (h:Sim x y):Sim (split soft x) (split soft y):=by
 induction h with
 | refl l=>exact .refl _
 | swap p a b q h1 h2 h3 =>
  simp only [split,List.flatMap_append,jao,Dk.1 (Lx soft h1),Dk.1 (Lx soft h2),jah,List.nil_append];exact .swap _ a b _ h1 h2 h3
 | trans _ _ ih1 ih2=>exact .trans ih1 ih2
def step (R:List Int) (c:Int):List Int :=
 match R.dropWhile (λy=>decide (0<Ad y)) with
 | []=>c::R
 | s
   :: A=>if (R.takeWhile (λy=>decide (0<Ad y))).all (λy=>decide (Ad y<Ad c)) then
   (match Dy s c with | some x=>R.takeWhile (λy=>decide (0<Ad y)) ++ x::A | none=>c::R)
  else c::R
def Ahr (l:List Int):List Int:=l.foldl step []
def join (l:List Int):List Int:=(Ahr l).reverse
theorem Adq {p:Int->Bool}:∀ {l:List Int} {y:Int},y ∈ l.takeWhile p->p y=true
 | [],_,h=>by cases h
 | x::l,y,h=>by
  rw [List.takeWhile_cons] at h;split at h
  ·rcases jal.1 h with rfl | h
   · assumption
   · exact Adq h
  ·cases h
theorem Zi {c:Int}:∀ {M:List Int},(∀ y ∈ M,0<Ad y/\Ad y<Ad c)->Sim (c::M) (M ++ [c])
 | [],_=>.refl _
 | y::M,h=>by
  have hy:=h y jS;exact .trans (Sim.swap [] c y M jO hy.1 jO) ((Zi λz hz=>h z (by simp [hz])).ahead [y])
theorem Ayq (soft:Bool) (R p:List Int) (c:Int) (hc:whole soft c=true) (h:Sim (split soft R.reverse) p):Sim (split soft (step R c).reverse) (p ++ [c]):=by
 have plain:Sim (split soft (c::R).reverse) (p ++ [c]):=by
  rw [List.reverse_cons,Gs];have e:split soft [c]=[c]:=J3 soft (by simpa using hc)
  rw [e];exact h.behind [c]
 unfold step;split
 ·exact plain
 ·rename_i s A hA
  split
  ·rename_i hfree
   split
   ·rename_i x hx
    have hR:R=R.takeWhile (λy=>decide (0<Ad y)) ++ s::A:=by rw [<- hA];exact (List.takeWhile_append_dropWhile).symm
    have hM:∀ y ∈ (R.takeWhile (λy=>decide (0<Ad y))).reverse,0<Ad y/\Ad y<Ad c:=by
     intro y hy;rw [List.mem_reverse] at hy;exact ⟨of_decide_eq_true (Adq hy),of_decide_eq_true (jar.1 hfree y hy)⟩
    generalize R.takeWhile (λy=>decide (0<Ad y))=M at hR hM;subst hR;refine .trans ?_ (h.behind [c]);simp only [List.reverse_append,List.reverse_cons,jaq,List.singleton_append,Gs];have eM:split soft M.reverse=M.reverse:=J3 soft λy hy=>Lx soft (hM y hy).1
    have ex:split soft (x::M.reverse)=pieces soft s ++ (c::M.reverse):=by
     show pieces soft x ++ split soft M.reverse=_
     rw [Asd soft hx,Dk.1 hc,eM,jaq];rfl
    have es:split soft (s::M.reverse)=pieces soft s ++ M.reverse:=by
     show pieces soft s ++ split soft M.reverse=_
     rw [eM]
    rw [ex,es,jaq];exact ((Zi hM).ahead _).ahead _
   ·exact plain
  ·exact plain
theorem Ab6 (soft:Bool):∀ (l R p:List Int),(∀ c ∈ l,whole soft c=true)->Sim (split soft R.reverse) p->Sim (split soft (l.foldl step R).reverse) (p ++ l)
 | [],R,p,_,h=>by simpa using h
 | c::l,R,p,hl,h=>by
  have:=Ab6 soft l (step R c) (p ++ [c]) (λy hy=>hl y (by simp [hy])) (Ayq soft R p c (hl c jS) h);simpa using this
theorem Ahv (soft:Bool) {l:List Int} (h:∀ c ∈ l,whole soft c=true):Sim (split soft (join l)) l:=by
 have:=Ab6 soft l [] [] h (.refl _);exact this
def down (soft:Bool) (l:List Int):List Int:=order (split soft l)
theorem Apv {x y:List Int} (h:Sim x y):∀ c,c ∈ x ↔ c ∈ y:=by
 induction h with
 | refl l=>intro c;exact Iff.rfl
 | swap p a b q _ _ _=>intro c;simp only [jap,jal];constructor<;>(rintro (h | h | h | h)<;>simp [h])
 | trans _ _ ih1 ih2=>exact λc=>(ih1 c).trans (ih2 c)
theorem Q4 (soft:Bool) (l:List Int):∀ c ∈ down soft l,∃ r ∈ l,c ∈ pieces soft r:=by
 intro c hc;have:=(Apv (Hd (split soft l)) c).2 hc;exact List.mem_flatMap.1 this
theorem Pq (soft:Bool) (l:List Int):∀ c ∈ down soft l,whole soft c=true:=λc hc=>by
 obtain ⟨r,-,h⟩:=Q4 soft l c hc;exact Ae5 soft r c h
theorem Avk (soft:Bool) {x y:List Int} (h:Sim x y):down soft x=down soft y:=Ol (Atz soft h)
theorem Xf (soft:Bool) (l:List Int):order (down soft l)=down soft l:=Aiv _
theorem Aq5 (soft:Bool) (l:List Int):down soft (down soft l)=down soft l:=by
 show order (split soft (down soft l))=_;rw [J3 soft (Pq soft l),Xf]
theorem Aq6 (soft:Bool) (l:List Int):down soft (join (down soft l))=down soft l:=by
 show order (split soft (join (down soft l)))=_;rw [Ol (Ahv soft (Pq soft l)),Xf]
end Norm
end
section
namespace Norm
end Norm
end
section
namespace Fold
open Norm
def narrow (r:Int):Int:=if Bj r then r - 65248 else r
def fo (r:Int):Int:=Fo (narrow r)
def Aai (r:Int):Bool:=decide (pieces false (fo r)=((pieces false r).map fo).flatMap (pieces false)) && (pieces false (fo r)).all (λc=>fo c == c) && decide (0<Ad r->fo r=r)
theorem Awz:∀ y ∈ lowers,∀ i ∈ List.range (y.hi - y.lo+1).toNat,Aai (y.lo+i)=true:=by decide +kernel
theorem Anr:∀ y ∈ splits,Aai y.rune=true:=by decide +kernel
theorem Aui:∀ i ∈ List.range 94,Aai (65281+i)=true:=by decide +kernel
theorem Arq:∀ i ∈ List.range 195,Aai (4352+i)=true/\fo (4352+i)=4352+i:=by decide +kernel
theorem Asa:∀ y ∈ lowers,y.hi<44032\/55203<y.lo:=by decide +kernel
theorem V9 {r:Int} (h:syl r=true):fo r=r:=by
 have h':=(Ce r).1 h;have hn:narrow r=r:=by unfold narrow Bj;rw [if_neg];simp;omega
 unfold fo;rw [hn];unfold Fo;cases hl:Lv r with
 | none=>rfl
 | some y =>
  obtain ⟨h1,h2,h3⟩:=C8 hl;have:=Asa y h1;omega
theorem Az4 {c:Int} (h:Aan c=true):fo c=c:=by
 have h':=(Hv c).1 h;have:=(Arq (c - 4352).toNat (by rw [List.mem_range];omega)).2;rwa [show (4352:Int)+((c - 4352).toNat:Int)=c by omega] at this
theorem Wa {l:List Int} (h:∀ c ∈ l,fo c=c):l.map fo=l:=by
 induction l with
 | nil=>rfl
 | cons a l ih=>rw [List.map_cons,h a jS,ih λc hc=>h c (by simp [hc])]
theorem Av6 (r:Int):Aai r=true:=by
 cases hs:syl r with
 | true =>
  have e:pieces false r=Cu r:=by rw [A9,hs];rfl
  have hj:=λc hc=>Az4 (Nu hs c hc);unfold Aai;rw [V9 hs,e,Wa hj,O6 false λc hc=>Jk (Nu hs c hc) false];simp only [jag,decide_eq_true_eq,jar,beq_iff_eq];exact ⟨⟨trivial,hj⟩,λ_=>trivial⟩
 | false =>
  cases hw:Bj r with
  | true =>
   simp only [Bj,jag,decide_eq_true_eq] at hw;have:=Aui (r - 65281).toNat (by rw [List.mem_range];omega);rwa [show (65281:Int)+((r - 65281).toNat:Int)=r by omega] at this
  | false =>
   cases hp:Ak r with
   | some y =>
    rcases Bi hp with ⟨hy,rfl⟩ | ⟨hw',-⟩
    ·exact Anr y hy
    ·rw [hw] at hw';cases hw'
   | none =>
    have hn:narrow r=r:=by unfold narrow;rw [hw];rfl
    cases hl:Lv r with
    | some y =>
     obtain ⟨h1,h2,h3⟩:=C8 hl;have:=Awz y h1 (r - y.lo).toNat (by rw [List.mem_range];omega);rwa [show y.lo+((r - y.lo).toNat:Int)=r by omega] at this
    | none =>
     have e:pieces false r=[r]:=by rw [A9,hs,hp];rfl
     have hf:fo r=r:=by unfold fo Fo;rw [hn,hl]
     unfold Aai;rw [hf,e];simp [hf,e]
theorem Ard (r:Int):pieces false (fo r)=((pieces false r).map fo).flatMap (pieces false):=by
 have:=Av6 r;simp only [Aai,jag,decide_eq_true_eq] at this;exact this.1.1
theorem A1z (r:Int):∀ c ∈ pieces false (fo r),fo c=c:=by
 have:=Av6 r;simp only [Aai,jag,jar,beq_iff_eq] at this;exact this.1.2
theorem Ao5 {r:Int} (h:0<Ad r):fo r=r:=by
 have:=Av6 r;simp only [Aai,jag,decide_eq_true_eq] at this;exact this.2 h
theorem Zo (l:List Int):split false (l.map fo)=split false ((split false l).map fo):=by
 induction l with
 | nil=>rfl
 | cons r l ih =>
  show pieces false (fo r) ++ split false (l.map fo)=split false ((pieces false r ++ split false l).map fo)
  rw [List.map_append,Gs,ih,Ard];rfl
theorem A2b {x y:List Int} (h:Sim x y):Sim (x.map fo) (y.map fo):=by
 induction h with
 | refl l=>exact .refl _
 | swap p a b q h1 h2 h3 =>
  simp only [List.map_append,List.map_cons,Ao5 h1,Ao5 h2];exact .swap _ a b _ h1 h2 h3
 | trans _ _ ih1 ih2=>exact .trans ih1 ih2
theorem Azq (l:List Int):down false (l.map fo)=down false ((down false l).map fo):=by
 have h1:down false (l.map fo)=down false ((split false l).map fo):=by
  show order (split false (l.map fo))=order (split false ((split false l).map fo));rw [Zo]
 rw [h1];exact Avk false (A2b (Hd (split false l)))
def fold (l:List Int):List Int:=join (down false (l.map fo))
theorem Abp (l:List Int):down false (fold l)=down false (l.map fo):=Aq6 false _
theorem Ahd (l:List Int):∀ c ∈ down false (l.map fo),fo c=c:=by
 intro c hc;obtain ⟨r,hr,hcr⟩:=Q4 false _ c hc;obtain ⟨q,-,rfl⟩:=List.mem_map.1 hr;exact A1z q c hcr
theorem I6 (l:List Int):fold (fold l)=fold l:=by
 show join (down false ((fold l).map fo))=join (down false (l.map fo));rw [Azq,Abp,Wa (Ahd l),Aq5]
theorem Aw9 (l:List Int):join (down false (fold l))=fold l:=by rw [Abp];rfl
theorem Aso:∀ y ∈ splits,fo y.one=y.one->fo y.two=y.two->fo y.rune=y.rune:=by decide +kernel
theorem Asc {a b x:Int} (h:Dy a b=some x) (ha:fo a=a) (hb:fo b=b):fo x=x:=by
 unfold Dy at h;split at h
 ·obtain rfl:=Option.some.inj h;exact V9 ((Ce _).2 jO)
 ·split at h
  ·rename_i h2
   obtain rfl:=Option.some.inj h;have:=(Ce a).1 h2.1;exact V9 ((Ce _).2 jO)
  ·obtain ⟨y,hy,rfl,rfl,ho⟩:=Fx h;rcases Bi hy with ⟨h1,rfl⟩ | ⟨-,rfl⟩
   · exact Aso y h1 ha hb
   · cases ho
theorem Ayp {R:List Int} {c:Int} (hR:∀ y ∈ R,fo y=y) (hc:fo c=c):∀ y ∈ step R c,fo y=y:=by
 have plain:∀ y ∈ c::R,fo y=y:=λy hy=>by
  rcases jal.1 hy with rfl | hy
  ·exact hc
  ·exact hR y hy
 unfold step;split
 ·exact plain
 ·rename_i s A hA
  have hin:∀ y ∈ s::A,fo y=y:=λy hy=>hR y ((List.dropWhile_sublist (λy=>decide (0<Ad y))).subset (by rw [hA];exact hy));split
  ·split
   ·rename_i x hx
    intro y hy;rw [jap,jal] at hy;rcases hy with hy | rfl | hy
    · exact hR y ((List.takeWhile_sublist _).subset hy)
    · exact Asc hx (hin s jS) hc
    · exact hin y (by simp [hy])
   ·exact plain
  ·exact plain
theorem Ahu:∀ (l R:List Int),(∀ y ∈ l,fo y=y)->(∀ y ∈ R,fo y=y)->∀ y ∈ l.foldl step R,fo y=y
 | [],_,_,hR=>hR
 | c::l,R,hl,hR=>Ahu l (step R c) (λy hy=>hl y (by simp [hy])) (Ayp hR (hl c jS))
theorem Re (l:List Int):∀ c ∈ fold l,fo c=c:=by
 intro c hc;unfold fold join at hc;rw [List.mem_reverse] at hc;exact Ahu _ [] (Ahd l) (λy hy=>by cases hy) c hc
end Fold
end
section
namespace Norm
def Eg (l:List Int):Prop:=∀ c ∈ l,0<=c/\c<128
def N5 (c:Int):Bool:=whole false c && whole true c && decide (Ad c=0) && decide (Fold.fo c=if 65<=c/\c<=90 then c+32 else c)
theorem Ang:∀ i ∈ List.range 128,N5 (i:Nat)=true:=by decide +kernel
theorem Qo {c:Int} (h:0<=c/\c<128):N5 c=true:=by
 have:=Ang c.toNat (by rw [List.mem_range];omega);rwa [show ((c.toNat:Nat):Int)=c by omega] at this
theorem Js {c:Int} (h:0<=c/\c<128) (soft:Bool):whole soft c=true:=by
 have:=Qo h;simp only [N5,jag] at this;cases soft
 · exact this.1.1.1
 · exact this.1.1.2
theorem Aa8 {c:Int} (h:0<=c/\c<128):Ad c=0:=by
 have:=Qo h;simp only [N5,jag,decide_eq_true_eq] at this;exact this.1.2
theorem Qn {c:Int} (h:0<=c/\c<128):Fold.fo c=if 65<=c/\c<=90 then c+32 else c:=by
 have:=Qo h;simp only [N5,jag,decide_eq_true_eq] at this;exact this.2
theorem Va:∀ {l:List Int},(∀ c ∈ l,Ad c=0)->sorted l=true
 | [],_=>rfl
 | [_],_=>rfl
 | x::y::l,h=>by
  have ih:sorted (y::l)=true:=Va λc hc=>h c (by simp [hc]);unfold sorted;rw [jag];refine ⟨?_,ih⟩;simp [h y jS]
theorem Akr (soft:Bool) {l:List Int} (h:Eg l):down soft l=l:=by
 show order (split soft l)=l;rw [J3 soft λc hc=>Js (h c hc) soft];exact Mb (Va λc hc=>Aa8 (h c hc))
theorem Ax9:∀ y ∈ splits,y.soft=false->y.out=false->768<=y.two:=by decide +kernel
theorem Akt {a b:Int} (ha:0<=a/\a<128) (hb:0<=b/\b<128):Dy a b=none:=by
 unfold Dy;rw [if_neg jO,if_neg (λh=>by have:=(Ce a).1 h.1;omega)];cases hp:Gk a b with
 | none=>rfl
 | some z =>
  obtain ⟨y,hy,-,h2,ho⟩:=Fx hp;obtain ⟨-,-,h4⟩:=Qe hy ho;rcases Bi hy with ⟨h1,-⟩ | ⟨-,rfl⟩
  ·have:=Ax9 y h1 h4 ho;omega
  ·cases ho
theorem Aku {R:List Int} {c:Int} (hR:Eg R) (hc:0<=c/\c<128):step R c=c::R:=by
 cases R with
 | nil=>rfl
 | cons s A =>
  have hs:¬ 0<Ad s:=by rw [Aa8 (hR s jS)];omega
  unfold step;simp only [List.dropWhile_cons,List.takeWhile_cons,hs,decide_false,Bool.false_eq_true,if_false,List.all_nil,if_true,Akt (hR s jS) hc]
theorem Pg:∀ (l R:List Int),Eg l->Eg R->l.foldl step R=l.reverse ++ R
 | [],_,_,_=>rfl
 | c::l,R,hl,hR=>by
  have hc:=hl c jS;rw [List.foldl_cons,Aku hR hc,Pg l (c::R) (λy hy=>hl y (by simp [hy])) (λy hy=>by
   rcases jal.1 hy with rfl | hy
   · exact hc
   · exact hR y hy)]
  simp
theorem Aks {l:List Int} (h:Eg l):join l=l:=by
 unfold join Ahr;rw [Pg l [] h (λy hy=>by cases hy)];simp
theorem J5 {l:List Int} (h:Eg l):Fold.fold l=l.map λc=>if 65<=c/\c<=90 then c+32 else c:=by
 have e:l.map Fold.fo=l.map λc=>if 65<=c/\c<=90 then c+32 else c:=List.map_congr_left λc hc=>Qn (h c hc);have ha:Eg (l.map λc=>if 65<=c/\c<=90 then c+32 else c):=by
  intro c hc;obtain ⟨d,hd,rfl⟩:=List.mem_map.1 hc;have:=h d hd;split<;>omega
 unfold Fold.fold;rw [e,Akr false ha,Aks ha]
end Norm
end
section
namespace Norm
theorem Wt {L M:List Int} (hl:L.length=M.length) (h:∀ i,i<L.length->L[i]! = M[i]!):L=M:=by
 refine List.ext_getElem hl λi h1 h2=>?_;have:=h i h1;rwa [getElem!_pos L i h1,getElem!_pos M i h2] at this
theorem C7 {p q:List Int} {i:Nat} (h:i<p.length):(p ++ q)[i]! = p[i]!:=by
 rw [getElem!_pos (p ++ q) i (by rw [jab];omega),getElem!_pos p i h,List.getElem_append_left h]
theorem Cq {p q:List Int} {i:Nat} (h:p.length<=i):(p ++ q)[i]! = q[i - p.length]!:=by
 simp only [List.getElem!_eq_getElem?_getD,List.getElem?_append_right h]
theorem F3 {L:List Int} {n i:Nat} (h:i<n):(L.take n)[i]! = L[i]!:=by
 simp only [List.getElem!_eq_getElem?_getD,List.getElem?_take_of_lt h]
theorem F2 (L:List Int) (n i:Nat):(L.drop n)[i]! = L[n+i]!:=by
 simp only [List.getElem!_eq_getElem?_getD,List.getElem?_drop]
theorem Qt (L:List Int) (k i:Nat) (x:Int) (h:k<L.length):(L.set k x)[i]! = if i=k then x else L[i]!:=by
 simp only [List.getElem!_eq_getElem?_getD,List.getElem?_set];by_cases e:i=k
 · subst e;simp [h]
 · rw [if_neg (λh=>e h.symm),if_neg e]
theorem Af8 {L:List Int} {x:Int} (h:x ∈ L):∃ i,i<L.length/\L[i]! = x:=by
 obtain ⟨i,hi,rfl⟩:=List.mem_iff_getElem.1 h;exact ⟨i,hi,getElem!_pos L i hi⟩
def Up (L:List Int) (a b:Nat):Prop:=∀ i j,a<=i->i<j->j<b->Ad L[i]!<=Ad L[j]!
theorem Up.part {L:List Int} {a b a' b':Nat} (h:Up L a b) (h1:a<=a') (h2:b'<=b):Up L a' b':=λi j hi hij hj=>h i j jO hij jO
theorem Up.le {L:List Int} {a b:Nat} (h:Up L a b) {i j:Nat} (hi:a<=i) (hij:i<=j) (hj:j<b):Ad L[i]!<=Ad L[j]!:=by
 rcases Nat.lt_or_eq_of_le hij with h1 | rfl
 · exact h i j hi h1 hj
 · exact Int.le_refl _
theorem Up.small {L:List Int} {a b:Nat} (h:b<=a+1):Up L a b:=λi j _ _ _=>by omega
theorem Up.same {L M:List Int} {a b:Nat} (h:Up L a b) (e:∀ i,a<=i->i<b->M[i]! = L[i]!):Up M a b:=λi j hi hij hj=>by
 rw [e i hi jO,e j jO hj];exact h i j hi hij hj
structure Ar (a b:Nat) (L M:List Int):Prop where
 len:M.length=L.length
 out:∀ i,i<a\/b<=i->M[i]! = L[i]!
 inn:∀ i,a<=i->i<b->∃ j,a<=j/\j<b/\M[i]! = L[j]!
 sim:(∀ i,a<=i->i<b->0<Ad L[i]!)->Sim L M
theorem Ar.refl (a b:Nat) (L:List Int):Ar a b L L:=⟨rfl,λ_ _=>rfl,λi h1 h2=>⟨i,h1,h2,rfl⟩,λ_=>.refl _⟩
theorem Ar.trans {a b:Nat} {L M N:List Int} (h:Ar a b L M) (k:Ar a b M N):Ar a b L N:=by
 refine ⟨k.len.trans h.len,λi hi=>(k.out i hi).trans (h.out i hi),λi h1 h2=>?_,λhm=>?_⟩
 ·obtain ⟨j,h3,h4,e⟩:=k.inn i h1 h2;obtain ⟨j',h5,h6,e'⟩:=h.inn j h3 h4;exact ⟨j',h5,h6,e.trans e'⟩
 ·refine .trans (h.sim hm) (k.sim λi h1 h2=>?_);obtain ⟨j,h3,h4,e⟩:=h.inn i h1 h2;rw [e];exact hm j h3 h4
theorem Ar.mono {a b a' b':Nat} {L M:List Int} (h:Ar a b L M) (h1:a'<=a) (h2:b<=b'):Ar a' b' L M:=by
 refine ⟨h.len,λi hi=>h.out i jO,λi h3 h4=>?_,λhm=>h.sim λi h3 h4=>hm i jO jO⟩;by_cases hi:a<=i/\i<b
 ·obtain ⟨j,h5,h6,e⟩:=h.inn i hi.1 hi.2;exact ⟨j,by omega,by omega,e⟩
 ·exact ⟨i,h3,h4,h.out i jO⟩
theorem Ar.all {a b:Nat} {L M:List Int} (h:Ar a b L M) {p:Int->Prop} (hp:∀ i,a<=i->i<b->p L[i]!):∀ i,a<=i->i<b->p M[i]!:=λi h1 h2=>by
 obtain ⟨j,h3,h4,e⟩:=h.inn i h1 h2;rw [e];exact hp j h3 h4
def Fz (L:List Int) (k:Nat):List Int:=(L.set k L[k+1]!).set (k+1) L[k]!
theorem Zx (L:List Int) (k:Nat):(Fz L k).length=L.length:=by unfold Fz;simp
theorem Ja (L:List Int) (k i:Nat) (h:k+1<L.length):(Fz L k)[i]! = if i=k+1 then L[k]! else if i=k then L[k+1]! else L[i]!:=by
 unfold Fz;rw [Qt _ _ _ _ (by rw [List.length_set];exact h),Qt _ _ _ _ jO]
theorem Aow (L:List Int) (k:Nat) (h:k+1<L.length):L=L.take k ++ L[k]!::L[k+1]!::L.drop (k+2):=by
 rw [getElem!_pos L k jO,getElem!_pos L (k+1) h,<- List.drop_eq_getElem_cons h,<- List.drop_eq_getElem_cons jO,List.take_append_drop]
theorem A03 (L:List Int) (k:Nat) (h:k+1<L.length):Fz L k=L.take k ++ L[k+1]!::L[k]!::L.drop (k+2):=by
 have e:=Aow L k h;have hk:(L.take k).length=k:=by rw [jak];omega
 unfold Fz;generalize L[k]! = x at e ⊢;generalize L[k+1]! = y at e ⊢;generalize L.take k=p at e hk ⊢;generalize L.drop (k+2)=q at e ⊢;subst e hk;rw [List.set_append_right _ _ (jaa _),List.set_append_right _ _ jO,Nat.sub_self,show p.length+1 - p.length=1 by omega];rfl
theorem Ar.Fz {a b k:Nat} (L:List Int) (h1:a<=k) (h2:k+1<b) (h3:b<=L.length) (hc:Ad L[k+1]!<Ad L[k]!):Ar a b L (Fz L k):=by
 refine ⟨Zx _ _,λi hi=>?_,λi h4 h5=>?_,λhm=>?_⟩
 ·rw [Ja _ _ _ jO,if_neg jO,if_neg jO]
 ·rw [Ja _ _ _ jO];by_cases e1:i=k+1
  ·rw [if_pos e1];exact ⟨k,by omega,by omega,rfl⟩
  ·rw [if_neg e1];by_cases e2:i=k
   · rw [if_pos e2];exact ⟨k+1,by omega,by omega,rfl⟩
   · rw [if_neg e2];exact ⟨i,h4,h5,rfl⟩
 ·rw [A03 L k jO];have h:=Sim.swap (L.take k) L[k]! L[k+1]! (L.drop (k+2)) (hm k h1 jO) (hm (k+1) jO h2) jO;rwa [<- Aow L k jO] at h
structure Rot (a m b:Nat) (L M:List Int):Prop where
 len:M.length=L.length
 fst:∀ i,a<=i->i<a+(b - m)->M[i]! = L[i+(m - a)]!
 snd:∀ i,a+(b - m)<=i->i<b->M[i]! = L[i - (b - m)]!
 out:∀ i,i<a\/b<=i->M[i]! = L[i]!
theorem Rot.none {a m b:Nat} (L:List Int) (h1:a<=m) (h2:m<=b) (h:a=m\/m=b):Rot a m b L L:=by
 refine ⟨rfl,λi h3 h4=>?_,λi h3 h4=>?_,λ_ _=>rfl⟩
 ·rcases h with rfl | rfl
  · rw [show i+(a - a)=i by omega]
  · omega
 ·rcases h with rfl | rfl
  · omega
  · rw [show i - (m - m)=i by omega]
theorem Ac8:∀ {X Y:List Int},(∀ x ∈ X,∀ y ∈ Y,0<Ad y/\Ad y<Ad x)->Sim (X ++ Y) (Y ++ X)
 | [],Y,_=>by rw [List.append_nil];exact .refl _
 | x::X,Y,h=>by
  have h1:Sim (X ++ Y) (Y ++ X):=Ac8 λz hz y hy=>h z (by simp [hz]) y hy;have h2:Sim (x::Y) (Y ++ [x]):=Zi λy hy=>h x jS y hy;have h3:=h2.behind X;rw [jaq] at h3;exact .trans (h1.ahead [x]) h3
theorem Rot.A2n {a m b:Nat} {L M:List Int} (h:Rot a m b L M) (h1:a<=m) (h2:m<=b) (h3:b<=L.length) (hc:∀ i j,a<=i->i<m->m<=j->j<b->Ad L[j]!<Ad L[i]!):Ar a b L M:=by
 refine ⟨h.len,h.out,λi h4 h5=>?_,λhm=>?_⟩
 ·by_cases hi:i<a+(b - m)
  ·exact ⟨i+(m - a),by omega,by omega,h.fst i h4 hi⟩
  ·exact ⟨i - (b - m),by omega,by omega,h.snd i jO h5⟩
 ·have l1:(L.take a).length=a:=by rw [jak];omega
  have l2:((L.take m).drop a).length=m - a:=by rw [jaj,jak];omega
  have l3:((L.take b).drop m).length=b - m:=by rw [jaj,jak];omega
  have b2:∀ i,i<m - a->((L.take m).drop a)[i]! = L[a+i]!:=λi hi=>by rw [F2,F3 jO]
  have b3:∀ i,i<b - m->((L.take b).drop m)[i]! = L[m+i]!:=λi hi=>by rw [F2,F3 jO]
  have eL:L=L.take a ++ (((L.take m).drop a ++ (L.take b).drop m) ++ L.drop b):=by
   refine Wt (by simp only [jab,jaj,l1,l2,l3];omega) λi hi=>?_;by_cases i1:i<a
   ·rw [C7 jO,F3 i1]
   rw [Cq jO,l1];by_cases i2:i<m
   ·rw [C7 (by simp only [jab,l2,l3];omega),C7 jO,b2 _ jO,show a+(i - a)=i by omega]
   by_cases i3:i<b
   ·rw [C7 (by simp only [jab,l2,l3];omega),Cq jO,l2,b3 _ jO,show m+(i - a - (m - a))=i by omega]
   rw [Cq (by simp only [jab,l2,l3];omega),F2,jab,l2,l3,show b+(i - a - (m - a+(b - m)))=i by omega]
  have eM:M=L.take a ++ (((L.take b).drop m ++ (L.take m).drop a) ++ L.drop b):=by
   refine Wt (by rw [h.len];simp only [jab,jaj,l1,l2,l3];omega) λi hi=>?_;by_cases i1:i<a
   ·rw [C7 jO,F3 i1];exact h.out i (.inl i1)
   rw [Cq jO,l1];by_cases i2:i<a+(b - m)
   ·rw [C7 (by simp only [jab,l2,l3];omega),C7 jO,b3 _ jO,h.fst i jO i2];congr 1;omega
   by_cases i3:i<b
   ·rw [C7 (by simp only [jab,l2,l3];omega),Cq jO,l3,b2 _ jO,h.snd i jO i3];congr 1;omega
   rw [Cq (by simp only [jab,l2,l3];omega),F2,jab,l2,l3,h.out i (.inr jO)];congr 1;omega
  have hS:Sim ((L.take m).drop a ++ (L.take b).drop m) ((L.take b).drop m ++ (L.take m).drop a):=by
   refine Ac8 λx hx y hy=>?_;obtain ⟨i,hi,rfl⟩:=Af8 hx;obtain ⟨j,hj,rfl⟩:=Af8 hy;rw [b2 i jO,b3 j jO];exact ⟨hm _ jO jO,hc _ _ jO jO jO jO⟩
  have:=(hS.behind (L.drop b)).ahead (L.take a);rw [<- eL,<- eM] at this;exact this
theorem Rot.Gz {a m b mid s e:Nat} {L M:List Int} (h:Rot s m e L M) (h1:a<=s) (h2:s<=m) (h3:m<=e) (h4:e<=b) (hse:s+e=mid+m) (u1:Up L a m) (u2:Up L m b) :
  Up M a s/\Up M s mid/\Up M mid e/\Up M e b:=by
 refine ⟨λi j hi hij hj=>?_,λi j hi hij hj=>?_,λi j hi hij hj=>?_,λi j hi hij hj=>?_⟩
 ·rw [h.out i jO,h.out j jO];exact u1 i j hi hij jO
 ·rw [h.fst i hi jO,h.fst j jO jO];exact u2 _ _ jO jO jO
 ·rw [h.snd i jO jO,h.snd j jO hj];exact u1 _ _ jO jO jO
 ·rw [h.out i jO,h.out j jO];exact u2 i j jO hij hj
theorem merged {a m b mid s e:Nat} {L L1 L2 L3:List Int} (h1:a<=s) (h2:s<=m) (h3:m<=e) (h4:e<=b) (hse:s+e=mid+m) (hm1:s<=mid) (hb:b<=L.length) (u1:Up L a m) (u2:Up L m b)
  (hlo:∀ c d,a<=c->c<s->e<=d->d<b->Ad L[c]!<=Ad L[d]!)
  (hhi:∀ i j,s<=i->i<m->m<=j->j<e->Ad L[j]!<Ad L[i]!)
  (hR:Rot s m e L L1) (k2:Ar a mid L1 L2) (v2:Up L2 a mid) (k3:Ar mid b L2 L3) (v3:Up L3 mid b):Ar a b L L3/\Up L3 a b:=by
 refine ⟨(((hR.A2n h2 h3 jO hhi).mono h1 h4).trans (k2.mono (jaa _) jO)).trans (k3.mono jO (jaa _)),λi j hi hij hj=>?_⟩;by_cases c1:j<mid
 ·rw [k3.out i jO,k3.out j jO];exact v2 i j hi hij c1
 by_cases c2:mid<=i
 ·exact v3 i j c2 hij hj
 rw [k3.out i jO];obtain ⟨i',a1,a2,ei⟩:=k2.inn i hi jO;obtain ⟨j',b1,b2,ej⟩:=k3.inn j jO hj;rw [ei,ej,k2.out j' jO];by_cases d1:i'<s
 ·rw [hR.out i' jO];by_cases d2:j'<e
  · rw [hR.snd j' jO d2];exact u1 _ _ jO jO jO
  · rw [hR.out j' jO];exact hlo _ _ jO d1 jO b2
 ·rw [hR.fst i' jO jO];by_cases d2:j'<e
  · rw [hR.snd j' jO d2];exact Int.le_of_lt (hhi _ _ jO jO jO jO)
  · rw [hR.out j' jO];exact u2 _ _ jO jO b2
end Norm
end
