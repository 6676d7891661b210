import Derived.Test.YthnhgmdlbfbhjaaGreatTabPl
namespace Go.Proofs.YthnhgmdlbfbhjaaGreat
section
def Ac7 (y:Sp):Bool:=match Aj y.rune with | some s=>s.one == y.one && s.two == y.two && s.out == y.out | none=>false
theorem Aji:∀ y ∈ splits,Ac7 y=true:=by decide +kernel
theorem Ajf:∀ y ∈ splits,y.out=false->D3 y.one y.two=some y.rune/\y.two ≠ 0/\y.soft=false:=by decide +kernel
theorem Bv {x:Int} {y:Sp} (h:Aj x=some y):(y ∈ splits/\y.rune=x)\/(Bf x=true/\y=⟨x,x - 65248,0,true,true⟩):=by
 unfold Aj at h;cases hr:rowOf x with
 | some z =>
  rw [hr] at h;obtain rfl:=Option.some.inj h;obtain ⟨h1,h2,h3⟩:=Co hr;exact .inl ⟨h1,Int.le_antisymm h2 h3⟩
 | none =>
  rw [hr] at h;cases hw:Bf x with
  | true=>simp only [hw,if_true,Option.some.injEq] at h;exact .inr ⟨rfl,h.symm⟩
  | false=>simp [hw] at h
theorem Og {x:Int} {y:Sp} (h:Aj x=some y) (ho:y.out=false):D3 y.one y.two=some x/\y.two ≠ 0/\y.soft=false:=by
 rcases Bv h with ⟨hy,rfl⟩ | ⟨_,rfl⟩
 · exact Ajf y hy ho
 · cases ho
theorem Fu {a b z:Int} (h:D3 a b=some z):∃ y,Aj z=some y/\y.one=a/\y.two=b/\y.out=false:=by
 unfold D3 at h;by_cases hb:b=0
 ·rw [if_pos hb] at h;cases h
 ·rw [if_neg hb] at h;cases hf:splits.find? (makes a b) with
  | none=>rw [hf] at h;cases h
  | some s =>
   rw [hf] at h;have hz:s.rune=z:=by simpa using h
   have hm:=List.find?_some hf;have hs:=List.mem_of_find?_eq_some hf;simp only [makes,jag,Bool.not_eq_true',beq_iff_eq] at hm;have ht:=Aji s hs;unfold Ac7 at ht;rw [hz] at ht;cases hq:Aj z with
   | none=>rw [hq] at ht;cases ht
   | some y =>
    rw [hq] at ht;simp only [jag,beq_iff_eq] at ht;exact ⟨y,rfl,by rw [ht.1.1,hm.1.2],by rw [ht.1.2,hm.2],by rw [ht.2,hm.1.1.2]⟩
def Aly (x:Int):Bool:=decide (Cm (Cm x)=Cm x/\Bm x=1/\Bm (Cm x)=2/\Ao (Cm x)=Ao x/\Ab (Cm x)=0/\Aq (Cm x)=Aq x)
theorem Aml:∀ y ∈ lowers,∀ i ∈ List.range (y.hi - y.lo+1).toNat,Aly (y.lo+i)=true:=by decide +kernel
theorem Aig (x:Int):Cm x=x\/Aly x=true:=by
 cases h:Jc x with
 | none=>left;unfold Cm;rw [h]
 | some y =>
  right;obtain ⟨h1,h2,h3⟩:=Co h;have:=Aml y h1 (x - y.lo).toNat (by rw [List.mem_range];omega);rwa [show y.lo+((x - y.lo).toNat:Int)=x by omega] at this
def Vk (x:Int):Bool:=decide (0<Ab x/\Bm x=4/\Ao x=6/\Ck x=3)
theorem Afi:∀ y ∈ Dy,∀ i ∈ List.range (y.hi - y.lo+1).toNat,Vk (y.lo+i)=true:=by decide +kernel
theorem Ajd:∀ y ∈ ranges,y.cat=4->∀ i ∈ List.range (y.hi - y.lo+1).toNat,Vk (y.lo+i)=true:=by decide +kernel
theorem Vl (x:Int):Vk x=true\/(Ab x=0/\Bm x ≠ 4):=by
 cases h:Mz x with
 | some y =>
  left;obtain ⟨h1,h2,h3⟩:=Co h;have:=Afi y h1 (x - y.lo).toNat (by rw [List.mem_range];omega);rwa [show y.lo+((x - y.lo).toNat:Int)=x by omega] at this
 | none =>
  by_cases hc:Bm x=4
  ·left;cases hr:Ch x with
   | none=>exfalso;unfold Bm at hc;rw [hr] at hc;exact absurd hc jD
   | some y =>
    obtain ⟨h1,h2,h3⟩:=Co hr;have hy:y.cat=4:=by unfold Bm at hc;rw [hr] at hc;exact hc
    have:=Ajd y h1 hy (x - y.lo).toNat (by rw [List.mem_range];omega);rwa [show y.lo+((x - y.lo).toNat:Int)=x by omega] at this
  ·right;exact ⟨by unfold Ab;rw [h],hc⟩
def P9 (x one two:Int) (soft:Bool):Bool:=decide (Ab one=0/\Ab x=0/\(two=0\/soft=true\/0<Ab two)/\Bm one ≠ 0)
theorem Afk:∀ y ∈ splits,P9 y.rune y.one y.two y.soft=true:=by decide +kernel
theorem Af5:∀ i ∈ List.range 94,P9 (65281+i) (65281+i - 65248) 0 true=true:=by decide +kernel
theorem Sy {x:Int} {y:Sp} (h:Aj x=some y):P9 x y.one y.two y.soft=true:=by
 rcases Bv h with ⟨hy,rfl⟩ | ⟨hw,rfl⟩
 ·exact Afk y hy
 ·simp only [Bf,jag,decide_eq_true_eq] at hw;have:=Af5 (x - 65281).toNat (by rw [List.mem_range];omega);rwa [show (65281:Int)+((x - 65281).toNat:Int)=x by omega] at this
theorem Afg:∀ y ∈ splits,y.one ≠ y.rune:=by decide +kernel
theorem Aoa {x:Int} {y:Sp} (h:Aj x=some y):y.one ≠ x:=by
 rcases Bv h with ⟨hy,rfl⟩ | ⟨_,rfl⟩
 ·exact Afg y hy
 ·show x - 65248 ≠ x;omega
def Am5 (x:Int):Bool:=match Aj (Cm x) with | some y=>y.one == Cm (x - 65248) | none=>false
theorem Ajj:∀ i ∈ List.range 94,Am5 (65281+i)=true:=by decide +kernel
theorem Art {x:Int} (h1:65281<=x) (h2:x<=65374):∃ y,Aj (Cm x)=some y/\y.one=Cm (x - 65248):=by
 have:=Ajj (x - 65281).toNat (by rw [List.mem_range];omega);rw [show (65281:Int)+((x - 65281).toNat:Int)=x by omega] at this;unfold Am5 at this;cases h:Aj (Cm x) with
 | none=>rw [h] at this;cases this
 | some y=>rw [h] at this;exact ⟨y,rfl,by simpa using this⟩
end
section
namespace Norm
def syl (r:Int):Bool:=decide (44032<=r) && decide (r<=55203)
def Cn (r:Int):List Int:=[4352+(r - 44032) / 588,4449+(r - 44032) % 588 / 28] ++ (if (r - 44032) % 28=0 then [] else [4519+(r - 44032) % 28])
def one:Nat->Bool->Int->List Int
 | 0,_,r=>[r]
 | n+1,soft,r=>if syl r then Cn r else match Aj r with
  | none=>[r]
  | some x=>if x.soft && !soft then [r] else one n soft x.one ++ (if x.two=0 then [] else one n soft x.two)
def pieces (soft:Bool) (r:Int):List Int:=one 4 soft r
def whole (soft:Bool) (c:Int):Bool:=pieces soft c == [c]
theorem Dw {soft:Bool} {c:Int}:whole soft c=true ↔ pieces soft c=[c]:=by unfold whole;rw [beq_iff_eq]
def Nv (soft:Bool) (x a b:Int):Bool:=decide (one 3 soft a=one 4 soft a) && decide (one 3 soft b=one 4 soft b) && (pieces soft x).all (whole soft) && (pieces true x).all (whole false) && decide ((pieces false x).flatMap (pieces true)=pieces true x) && !syl x
theorem Acy:∀ y ∈ splits,Nv false y.rune y.one y.two=true/\Nv true y.rune y.one y.two=true:=by decide +kernel
theorem Am8:∀ i ∈ List.range 94,Nv false (65281+i) (65281+i - 65248) 0=true/\Nv true (65281+i) (65281+i - 65248) 0=true:=by decide +kernel
theorem J8 (soft:Bool) {x:Int} {y:Sp} (h:Aj x=some y):Nv soft x y.one y.two=true:=by
 rcases Bv h with ⟨hy,rfl⟩ | ⟨hw,rfl⟩
 ·cases soft
  · exact (Acy y hy).1
  · exact (Acy y hy).2
 ·simp only [Bf,jag,decide_eq_true_eq] at hw;have:=Am8 (x - 65281).toNat (by rw [List.mem_range];omega);rw [show (65281:Int)+((x - 65281).toNat:Int)=x by omega] at this;cases soft
  · exact this.1
  · exact this.2
theorem Br (r:Int):syl r=true ↔ 44032<=r/\r<=55203:=by unfold syl;simp
theorem Ax (soft:Bool) (r:Int):pieces soft r=if syl r then Cn r else match Aj r with
  | none=>[r]
  | some x=>if x.soft && !soft then [r] else pieces soft x.one ++ (if x.two=0 then [] else pieces soft x.two):=by
 show one 4 soft r=_;rw [one];cases hs:syl r with
 | true=>rfl
 | false =>
  simp only [Bool.false_eq_true,if_false];cases h:Aj r with
  | none=>rfl
  | some x =>
   have:=J8 soft h;simp only [Nv,jag,decide_eq_true_eq] at this;simp only [this.1.1.1.1.1,this.1.1.1.1.2];rfl
def Wz (c:Int):Bool:=(decide (4352<=c) && decide (c<=4370)) || (decide (4449<=c) && decide (c<=4469)) || (decide (4520<=c) && decide (c<=4546))
theorem Fl (c:Int):Wz c=true ↔ (4352<=c/\c<=4370)\/(4449<=c/\c<=4469)\/(4520<=c/\c<=4546):=by
 unfold Wz;simp [or_assoc]
def Alq (c:Int):Bool:=whole false c && whole true c && decide (Ab c=0)
theorem Ajc:∀ i ∈ List.range 195,Wz (4352+i)=true->Alq (4352+i)=true:=by decide +kernel
theorem Tn {c:Int} (h:Wz c=true):whole false c=true/\whole true c=true/\Ab c=0:=by
 have h':=(Fl c).1 h;have:=Ajc (c - 4352).toNat (by rw [List.mem_range];omega);rw [show (4352:Int)+((c - 4352).toNat:Int)=c by omega] at this;have:=this h;simp only [Alq,jag,decide_eq_true_eq] at this;exact ⟨this.1.1,this.1.2,this.2⟩
theorem Ft {c:Int} (h:Wz c=true) (soft:Bool):whole soft c=true:=by
 cases soft
 · exact (Tn h).1
 · exact (Tn h).2.1
theorem I8 {r:Int} (h:syl r=true):∀ c ∈ Cn r,Wz c=true:=by
 have h':=(Br r).1 h;intro c hc;unfold Cn at hc;rw [Fl];split at hc
 ·simp only [List.append_nil,jal,List.not_mem_nil,or_false] at hc;omega
 ·simp only [jah,List.nil_append,jal,List.not_mem_nil,or_false] at hc;omega
theorem Z9 (soft:Bool) (r:Int):∀ c ∈ pieces soft r,whole soft c=true:=by
 cases hs:syl r with
 | true =>
  rw [Ax,hs];exact λc hc=>Ft (I8 hs c hc) soft
 | false =>
  cases h:Aj r with
  | none =>
   have e:pieces soft r=[r]:=by rw [Ax,hs,h];rfl
   intro c hc;rw [e,List.mem_singleton] at hc;rw [hc];exact Dw.2 e
  | some x =>
   have:=J8 soft h;simp only [Nv,jag] at this;exact jar.1 this.1.1.1.2
theorem Qa (r:Int):∀ c ∈ pieces true r,whole false c=true:=by
 cases hs:syl r with
 | true =>
  rw [Ax,hs];exact λc hc=>Ft (I8 hs c hc) false
 | false =>
  cases h:Aj r with
  | none =>
   have e:∀ b,pieces b r=[r]:=λb=>by rw [Ax,hs,h];rfl
   intro c hc;rw [e,List.mem_singleton] at hc;rw [hc];exact Dw.2 (e false)
  | some x =>
   have:=J8 true h;simp only [Nv,jag] at this;exact jar.1 this.1.1.2
theorem Jl (soft:Bool) {l:List Int} (h:∀ c ∈ l,whole soft c=true):l.flatMap (pieces soft)=l:=by
 induction l with
 | nil=>rfl
 | cons a l ih =>
  rw [jao,Dw.1 (h a jS),ih λc hc=>h c (by simp [hc])];rfl
theorem Z8 (r:Int):(pieces false r).flatMap (pieces true)=pieces true r:=by
 cases hs:syl r with
 | true =>
  have e:∀ b,pieces b r=Cn r:=λb=>by rw [Ax,hs];rfl
  rw [e,e];exact Jl true λc hc=>Ft (I8 hs c hc) true
 | false =>
  cases h:Aj r with
  | none =>
   have e:∀ b,pieces b r=[r]:=λb=>by rw [Ax,hs,h];rfl
   rw [e false];simp
  | some x =>
   have:=J8 true h;simp only [Nv,jag,decide_eq_true_eq] at this;exact this.1.2
theorem Aoh:∀ y ∈ Dy,y.hi<=12441:=by decide +kernel
theorem Aai {r:Int} (h:syl r=true):Ab r=0:=by
 have h':=(Br r).1 h;unfold Ab;cases hc:Mz r with
 | none=>rfl
 | some y =>
  obtain ⟨h1,h2,h3⟩:=Co hc;have:=Aoh y h1;omega
theorem Kt (soft:Bool) {c:Int} (h:0<Ab c):whole soft c=true:=by
 rw [Dw,Ax];cases hs:syl c with
 | true=>rw [Aai hs] at h;omega
 | false =>
  cases hp:Aj c with
  | none=>rfl
  | some x =>
   have:=Sy hp;simp only [P9,decide_eq_true_eq] at this;omega
def Ct (a b:Int):Option Int :=
 if 4352<=a/\a<=4370/\4449<=b/\b<=4469 then some (44032+(a - 4352)*588+(b - 4449)*28)
 else if syl a=true/\(a - 44032) % 28=0/\4520<=b/\b<=4546 then some (a+b - 4519)
 else D3 a b
theorem Aim (soft:Bool) {a b x:Int} (h:Ct a b=some x):pieces soft x=pieces soft a ++ pieces soft b:=by
 unfold Ct at h;by_cases h1:4352<=a/\a<=4370/\4449<=b/\b<=4469
 ·rw [if_pos h1] at h;have hx:=(Option.some.inj h).symm;have ha:Wz a=true:=(Fl a).2 jO;have hb:Wz b=true:=(Fl b).2 jO;rw [Dw.1 (Ft ha soft),Dw.1 (Ft hb soft),Ax,if_pos ((Br x).2 jO)];unfold Cn;rw [if_pos jO,show 4352+(x - 44032) / 588=a by omega,show 4449+(x - 44032) % 588 / 28=b by omega];rfl
 ·rw [if_neg h1] at h;by_cases h2:syl a=true/\(a - 44032) % 28=0/\4520<=b/\b<=4546
  ·rw [if_pos h2] at h;have hx:=(Option.some.inj h).symm;have ha:=(Br a).1 h2.1;have hb:Wz b=true:=(Fl b).2 jO;rw [Dw.1 (Ft hb soft),Ax,if_pos ((Br x).2 jO),Ax,if_pos h2.1];unfold Cn;rw [if_pos h2.2.1,if_neg jO,show 4352+(x - 44032) / 588=4352+(a - 44032) / 588 by omega,show 4449+(x - 44032) % 588 / 28=4449+(a - 44032) % 588 / 28 by omega,show 4519+(x - 44032) % 28=b by omega];rfl
  ·rw [if_neg h2] at h;obtain ⟨y,hy,rfl,rfl,ho⟩:=Fu h;obtain ⟨-,h3,h4⟩:=Og hy ho;have h5:=J8 soft hy;simp only [Nv,jag,Bool.not_eq_true'] at h5;rw [Ax soft x,h5.2,hy];simp only [h4,Bool.false_and,Bool.false_eq_true,if_false,if_neg h3]
inductive Sim:List Int->List Int->Prop
 | refl (l:List Int):Sim l l
 | swap (p:List Int) (a b:Int) (q:List Int):0<Ab a->0<Ab b->Ab a ≠ Ab b->Sim (p ++ a::b::q) (p ++ b::a::q)
 | trans {x y z:List Int}:Sim x y->Sim y z->Sim x z
theorem Sim.symm {x y:List Int} (h:Sim x y):Sim y x:=by
 induction h with
 | refl l=>exact .refl l
 | swap p a b q h1 h2 h3=>exact .swap p b a q h2 h1 λe=>h3 e.symm
 | trans _ _ ih1 ih2=>exact .trans ih2 ih1
theorem Sim.ahead {x y:List Int} (h:Sim x y) (p:List Int):Sim (p ++ x) (p ++ y):=by
 induction h with
 | refl l=>exact .refl _
 | swap p' a b q h1 h2 h3 =>
  rw [<- jaq,<- jaq];exact .swap _ a b q h1 h2 h3
 | trans _ _ ih1 ih2=>exact .trans ih1 ih2
theorem Sim.behind {x y:List Int} (h:Sim x y) (q:List Int):Sim (x ++ q) (y ++ q):=by
 induction h with
 | refl l=>exact .refl _
 | swap p a b q' h1 h2 h3 =>
  simp only [jaq,jah];exact .swap p a b _ h1 h2 h3
 | trans _ _ ih1 ih2=>exact .trans ih1 ih2
def ins (x:Int):List Int->List Int
 | []=>[x]
 | y::l=>if 0<Ab y/\Ab y<Ab x then y::ins x l else x::y::l
def order:List Int->List Int
 | []=>[]
 | x::l=>ins x (order l)
theorem U7 {a b:Int} (ha:0<Ab a) (hab:Ab a<Ab b):∀ L:List Int,ins a (ins b L)=ins b (ins a L)
 | []=>by simp only [ins];rw [if_neg jO,if_pos ⟨ha,hab⟩]
 | y::l=>by
  by_cases h1:0<Ab y/\Ab y<Ab b
  ·by_cases h2:Ab y<Ab a
   ·simp only [ins,if_pos h1,if_pos (show 0<Ab y/\Ab y<Ab a from ⟨h1.1,h2⟩)];rw [U7 ha hab l]
   ·simp only [ins,if_pos h1,if_neg (show ¬ (0<Ab y/\Ab y<Ab a) from λh=>h2 h.2),if_pos (show 0<Ab a/\Ab a<Ab b from ⟨ha,hab⟩)]
  ·simp only [ins,if_neg h1,if_neg (show ¬ (0<Ab y/\Ab y<Ab a) from λh=>h1 ⟨h.1,by omega⟩),if_pos (show 0<Ab a/\Ab a<Ab b from ⟨ha,hab⟩),if_neg (show ¬ (0<Ab b/\Ab b<Ab a) from λh=>by omega)]
theorem Alo {a b:Int} (ha:0<Ab a) (hb:0<Ab b) (h:Ab a ≠ Ab b) (L:List Int):ins a (ins b L)=ins b (ins a L):=by
 rcases (show Ab a<Ab b\/Ab b<Ab a by omega) with h1 | h1
 · exact U7 ha h1 L
 · exact (U7 hb h1 L).symm
theorem P8 (p q:List Int):order (p ++ q)=p.foldr ins (order q):=by
 induction p with
 | nil=>rfl
 | cons x p ih=>simp only [jah,order,List.foldr_cons,ih]
theorem Ip {x y:List Int} (h:Sim x y):order x=order y:=by
 induction h with
 | refl l=>rfl
 | swap p a b q h1 h2 h3=>rw [P8,P8];simp only [order];rw [Alo h1 h2 h3]
 | trans _ _ ih1 ih2=>exact ih1.trans ih2
theorem Agt (x:Int):∀ L:List Int,Sim (x::L) (ins x L)
 | []=>.refl _
 | y::l=>by
  unfold ins;split
  ·rename_i h
   exact .trans (Sim.swap [] x y l jO h.1 jO) ((Agt x l).ahead [y])
  ·exact .refl _
theorem Fi:∀ l:List Int,Sim l (order l)
 | []=>.refl _
 | x::l=>.trans ((Fi l).ahead [x]) (Agt x _)
theorem Acf (l:List Int):order (order l)=order l:=(Ip (Fi l)).symm
def sorted:List Int->Bool
 | []=>true
 | x::l=>(match l with | []=>true | y::_=>!(decide (0<Ab y) && decide (Ab y<Ab x))) && sorted l
theorem Kw:∀ {l:List Int},sorted l=true->order l=l
 | [],_=>rfl
 | [x],_=>rfl
 | x::y::l,h=>by
  simp only [sorted,jag,Bool.not_eq_true',Bool.and_eq_false_iff,decide_eq_false_iff_not] at h;have ih:order (y::l)=y::l:=Kw (by simp only [sorted,jag];exact h.2);show ins x (order (y::l))=_;rw [ih];unfold ins;rw [if_neg (λhh=>by rcases h.1 with h1 | h1<;>omega)]
theorem Ace {l m:List Int} (h:Sim l m) (hs:sorted m=true):m=order l:=(Kw hs).symm.trans (Ip h).symm
def split (soft:Bool) (l:List Int):List Int:=l.flatMap (pieces soft)
theorem Gi (soft:Bool) (p q:List Int):split soft (p ++ q)=split soft p ++ split soft q:=List.flatMap_append
theorem Jj (soft:Bool) {l:List Int} (h:∀ c ∈ l,whole soft c=true):split soft l=l:=Jl soft h
theorem Yz (soft:Bool) {x y:List Int} (h:Sim x y):Sim (split soft x) (split soft y):=by
 induction h with
 | refl l=>exact .refl _
 | swap p a b q h1 h2 h3 =>
  simp only [split,List.flatMap_append,jao,Dw.1 (Kt soft h1),Dw.1 (Kt soft h2),jah,List.nil_append];exact .swap _ a b _ h1 h2 h3
 | trans _ _ ih1 ih2=>exact .trans ih1 ih2
theorem Ac3 (l:List Int):split true (split false l)=split true l:=by
 unfold split
 rw [List.flatMap_assoc];congr 1
 funext r
 exact Z8 r
def step (R:List Int) (c:Int):List Int :=
 match R.dropWhile (λy=>decide (0<Ab y)) with
 | []=>c::R
 | s
   :: A=>if (R.takeWhile (λy=>decide (0<Ab y))).all (λy=>decide (Ab y<Ab c)) then
   (match Ct s c with | some x=>R.takeWhile (λy=>decide (0<Ab y)) ++ x::A | none=>c::R)
  else c::R
def X5 (l:List Int):List Int:=l.foldl step []
def join (l:List Int):List Int:=(X5 l).reverse
theorem Y6 {p:Int->Bool}:∀ {l:List Int} {y:Int},y ∈ l.takeWhile p->p y=true
 | [],_,h=>by cases h
 | x::l,y,h=>by
  rw [List.takeWhile_cons] at h;split at h
  ·rcases jal.1 h with rfl | h
   · assumption
   · exact Y6 h
  ·cases h
theorem Wb {c:Int}:∀ {M:List Int},(∀ y ∈ M,0<Ab y/\Ab y<Ab c)->Sim (c::M) (M ++ [c])
 | [],_=>.refl _
 | y::M,h=>by
  have hy:=h y jS;exact .trans (Sim.swap [] c y M jO hy.1 jO) ((Wb λz hz=>h z (by simp [hz])).ahead [y])
theorem Amx (soft:Bool) (R p:List Int) (c:Int) (hc:whole soft c=true) (h:Sim (split soft R.reverse) p):Sim (split soft (step R c).reverse) (p ++ [c]):=by
 have plain:Sim (split soft (c::R).reverse) (p ++ [c]):=by
  rw [List.reverse_cons,Gi];have e:split soft [c]=[c]:=Jj soft (by simpa using hc)
  rw [e];exact h.behind [c]
 unfold step;split
 ·exact plain
 ·rename_i s A hA
  split
  ·rename_i hfree
   split
   ·rename_i x hx
    have hR:R=R.takeWhile (λy=>decide (0<Ab y)) ++ s::A:=by rw [<- hA];exact (List.takeWhile_append_dropWhile).symm
    have hM:∀ y ∈ (R.takeWhile (λy=>decide (0<Ab y))).reverse,0<Ab y/\Ab y<Ab c:=by
     intro y hy;rw [List.mem_reverse] at hy;exact ⟨of_decide_eq_true (Y6 hy),of_decide_eq_true (jar.1 hfree y hy)⟩
    generalize R.takeWhile (λy=>decide (0<Ab y))=M at hR hM;subst hR;refine .trans ?_ (h.behind [c]);simp only [List.reverse_append,List.reverse_cons,jaq,List.singleton_append,Gi];have eM:split soft M.reverse=M.reverse:=Jj soft λy hy=>Kt soft (hM y hy).1
    have ex:split soft (x::M.reverse)=pieces soft s ++ (c::M.reverse):=by
     show pieces soft x ++ split soft M.reverse=_
     rw [Aim soft hx,Dw.1 hc,eM,jaq];rfl
    have es:split soft (s::M.reverse)=pieces soft s ++ M.reverse:=by
     show pieces soft s ++ split soft M.reverse=_
     rw [eM]
    rw [ex,es,jaq];exact ((Wb hM).ahead _).ahead _
   ·exact plain
  ·exact plain
theorem X6 (soft:Bool):∀ (l R p:List Int),(∀ c ∈ l,whole soft c=true)->Sim (split soft R.reverse) p->Sim (split soft (l.foldl step R).reverse) (p ++ l)
 | [],R,p,_,h=>by simpa using h
 | c::l,R,p,hl,h=>by
  have:=X6 soft l (step R c) (p ++ [c]) (λy hy=>hl y (by simp [hy])) (Amx soft R p c (hl c jS) h);simpa using this
theorem Va (soft:Bool) {l:List Int} (h:∀ c ∈ l,whole soft c=true):Sim (split soft (join l)) l:=by
 have:=X6 soft l [] [] h (.refl _);exact this
def down (soft:Bool) (l:List Int):List Int:=order (split soft l)
theorem Ag4 {x y:List Int} (h:Sim x y):∀ c,c ∈ x ↔ c ∈ y:=by
 induction h with
 | refl l=>intro c;exact Iff.rfl
 | swap p a b q _ _ _=>intro c;simp only [jap,jal];constructor<;>(rintro (h | h | h | h)<;>simp [h])
 | trans _ _ ih1 ih2=>exact λc=>(ih1 c).trans (ih2 c)
theorem Ma (soft:Bool) (l:List Int):∀ c ∈ down soft l,∃ r ∈ l,c ∈ pieces soft r:=by
 intro c hc;have:=(Ag4 (Fi (split soft l)) c).2 hc;exact List.mem_flatMap.1 this
theorem N6 (soft:Bool) (l:List Int):∀ c ∈ down soft l,whole soft c=true:=λc hc=>by
 obtain ⟨r,-,h⟩:=Ma soft l c hc;exact Z9 soft r c h
theorem Tg (l:List Int):∀ c ∈ down true l,whole false c=true:=λc hc=>by
 obtain ⟨r,-,h⟩:=Ma true l c hc;exact Qa r c h
theorem Akv (soft:Bool) {x y:List Int} (h:Sim x y):down soft x=down soft y:=Ip (Yz soft h)
theorem N5 (soft:Bool) (l:List Int):order (down soft l)=down soft l:=Acf _
theorem Ahy (soft:Bool) (l:List Int):down soft (down soft l)=down soft l:=by
 show order (split soft (down soft l))=_;rw [Jj soft (N6 soft l),N5]
theorem M7 (soft:Bool) (l:List Int):down soft (join (down soft l))=down soft l:=by
 show order (split soft (join (down soft l)))=_;rw [Ip (Va soft (N6 soft l)),N5]
theorem Aku (l:List Int):down false (join (down true l))=down true l:=by
 show order (split false (join (down true l)))=_;rw [Ip (Va false (Tg l)),N5]
theorem Yw (l:List Int):down true (down false l)=down true l:=by
 show order (split true (order (split false l)))=_;rw [<- Ip (Yz true (Fi (split false l))),Ac3];rfl
theorem Aq0 (l:List Int):down true (join (down false l))=down true l:=by
 rw [<- Yw (join (down false l)),M7,Yw]
end Norm
end
section
namespace Norm
theorem Iv (x:Int):0<=Ab x:=by
 rcases Vl x with h | h
 · simp only [Vk,decide_eq_true_eq] at h;omega
 · omega
def bub (x:Int):List Int->List Int
 | []=>[x]
 | y::t=>if 0<Ab y/\Ab y<Ab x then y::bub x t else x::bub y t
def pass:List Int->List Int
 | []=>[]
 | x::t=>bub x t
def Hs:Nat->List Int->List Int
 | 0,l=>l
 | n+1,l=>Hs n (pass l)
theorem Zk:∀ (t:List Int) (x:Int),Sim (x::t) (bub x t)
 | [],_=>.refl _
 | y::t,x=>by
  unfold bub;split
  ·rename_i h
   exact .trans (Sim.swap [] x y t jO h.1 jO) ((Zk t x).ahead [y])
  ·exact (Zk t y).ahead [x]
theorem Ame (l:List Int):Sim l (pass l):=by
 cases l with
 | nil=>exact .refl _
 | cons x t=>exact Zk t x
theorem Vv:∀ (n:Nat) (l:List Int),Sim l (Hs n l)
 | 0,_=>.refl _
 | n+1,l=>.trans (Ame l) (Vv n (pass l))
theorem Zj:∀ (t:List Int) (x:Int),(bub x t).length=t.length+1
 | [],_=>rfl
 | y::t,x=>by
  unfold bub;split
  · simp [Zj t x]
  · simp [Zj t y]
theorem Amd (l:List Int):(pass l).length=l.length:=by
 cases l with
 | nil=>rfl
 | cons x t=>simp [pass,Zj]
theorem Vu:∀ (n:Nat) (l:List Int),(Hs n l).length=l.length
 | 0,_=>rfl
 | n+1,l=>by rw [Hs,Vu n,Amd]
def cnt (ctx:List Int) (c:Int):Nat:=ctx.countP λe=>decide (c<Ab e)
def Fit (k:Nat):List Int->List Int->Prop
 | _,[]=>True
 | ctx,y::t=>if Ab y=0 then Fit k [] t else cnt ctx (Ab y)<=k/\Fit k (y::ctx) t
theorem Xy {k:Nat}:∀ {t a b:List Int},(∀ c,0<c->cnt a c=cnt b c)->Fit k a t->Fit k b t
 | [],_,_,_,_=>trivial
 | y::t,a,b,h,hf=>by
  unfold Fit at hf ⊢;have hy:=Iv y;split at hf
  ·rename_i h0
   rw [if_pos h0];exact hf
  ·rename_i h0
   rw [if_neg h0];refine ⟨by rw [<- h _ jO];exact hf.1,Xy (λc hc=>?_) hf.2⟩;have:=h c hc;simp only [cnt,List.countP_cons] at this ⊢;omega
theorem Aa0 {ctx:List Int} {c:Int} (h:∀ e ∈ ctx,Ab e<=c):cnt ctx c=0:=by
 unfold cnt;rw [List.countP_eq_zero];intro e he;have:=h e he;simp only [decide_eq_true_eq];omega
theorem Ox {k:Nat}:∀ (t:List Int) (x:Int) (E:List Int),(Ab x=0\/∀ e ∈ E,Ab e<=Ab x)->Fit (k+1) (if Ab x=0 then [] else x::E) t->Fit k E (bub x t)
 | [],x,E,hE,_=>by
  unfold bub Fit;split
  ·trivial
  ·rename_i h0
   rcases hE with h | h
   ·exact absurd h h0
   ·exact ⟨by rw [Aa0 h];omega,trivial⟩
 | y::t,x,E,hE,hf=>by
  have hx:=Iv x;have hy:=Iv y;unfold bub;by_cases hs:0<Ab y/\Ab y<Ab x
  ·have hx0:¬ Ab x=0:=jO
   have hy0:¬ Ab y=0:=jO
   have hE':∀ e ∈ E,Ab e<=Ab x:=hE.resolve_left hx0;rw [if_pos hs];rw [if_neg hx0] at hf;unfold Fit at hf ⊢;rw [if_neg hy0] at hf ⊢;have hc:cnt (x::E) (Ab y)=cnt E (Ab y)+1:=by
    simp only [cnt,List.countP_cons];rw [if_pos (by simpa using hs.2)]
   refine ⟨by have:=hf.1;omega,Ox t x (y::E) (.inr λe he=>?_) ?_⟩
   ·rcases jal.1 he with rfl | he
    ·omega
    ·exact hE' e he
   ·rw [if_neg hx0];refine Xy (λc _=>?_) hf.2;simp only [cnt,List.countP_cons];omega
  ·rw [if_neg hs];by_cases hx0:Ab x=0
   ·rw [if_pos hx0] at hf;unfold Fit at hf ⊢;rw [if_pos hx0];refine Ox t y [] (.inr λe he=>by cases he) ?_;split at hf
    ·rename_i h0
     rw [if_pos h0];exact hf
    ·rename_i h0
     rw [if_neg h0];exact hf.2
   ·have hE':∀ e ∈ E,Ab e<=Ab x:=hE.resolve_left hx0;rw [if_neg hx0] at hf;unfold Fit at hf ⊢;rw [if_neg hx0];refine ⟨by rw [Aa0 hE'];omega,?_⟩;by_cases hy0:Ab y=0
    ·rw [if_pos hy0] at hf;exact Ox t y (x::E) (.inl hy0) (by rw [if_pos hy0];exact hf)
    ·rw [if_neg hy0] at hf;refine Ox t y (x::E) (.inr λe he=>?_) (by rw [if_neg hy0];exact hf.2);rcases jal.1 he with rfl | he
     · omega
     · have:=hE' e he;omega
theorem Amc {k:Nat} {l:List Int} (h:Fit (k+1) [] l):Fit k [] (pass l):=by
 cases l with
 | nil=>trivial
 | cons x t =>
  refine Ox t x [] (.inr λe he=>by cases he) ?_;unfold Fit at h;split at h
  ·rename_i h0
   rw [if_pos h0];exact h
  ·rename_i h0
   rw [if_neg h0];exact h.2
theorem Uz {k:Nat}:∀ (l ctx:List Int),ctx.length+l.length<=k->Fit k ctx l
 | [],_,_=>trivial
 | y::t,ctx,h=>by
  unfold Fit;simp only [jac] at h;split
  · exact Uz t [] (by simp;omega)
  · refine ⟨Nat.le_trans (List.countP_le_length) jO,Uz t (y::ctx) (by simp only [jac];omega)⟩
theorem Abk:∀ (k:Nat) (l:List Int),Fit k [] l->Fit 0 [] (Hs k l)
 | 0,_,h=>h
 | k+1,l,h=>Abk k (pass l) (Amc h)
theorem N7:∀ (l ctx:List Int),Fit 0 ctx l->sorted l=true
 | [],_,_=>rfl
 | x::l,ctx,h=>by
  have hx:=Iv x;unfold sorted;rw [jag];unfold Fit at h;cases l with
  | nil=>exact ⟨rfl,rfl⟩
  | cons y t =>
   have hy:=Iv y;by_cases h0:Ab x=0
   ·rw [if_pos h0] at h;refine ⟨?_,N7 _ _ h⟩;simp only [Bool.not_eq_true',Bool.and_eq_false_iff,decide_eq_false_iff_not];omega
   ·rw [if_neg h0] at h;refine ⟨?_,N7 _ _ h.2⟩;have h2:=h.2;unfold Fit at h2;simp only [Bool.not_eq_true',Bool.and_eq_false_iff,decide_eq_false_iff_not];by_cases hy0:Ab y=0
    ·omega
    ·rw [if_neg hy0] at h2;right;intro hlt;have h3:=h2.1;simp only [cnt,List.countP_cons] at h3;rw [if_pos (by simpa using hlt)] at h3;omega
theorem Z6 (l:List Int):Hs l.length l=order l :=
 Ace (Vv _ _) (N7 _ _ (Abk _ _ (Uz l [] jS)))
end Norm
end
section
namespace Fold
open Norm
def narrow (r:Int):Int:=if Bf r then r - 65248 else r
def fo (r:Int):Int:=Cm (narrow r)
def Ww (r:Int):Bool:=decide (pieces false (fo r)=((pieces false r).map fo).flatMap (pieces false)) && (pieces false (fo r)).all (λc=>fo c == c) && decide (0<Ab r->fo r=r)
theorem Alz:∀ y ∈ lowers,∀ i ∈ List.range (y.hi - y.lo+1).toNat,Ww (y.lo+i)=true:=by decide +kernel
theorem Afs:∀ y ∈ splits,Ww y.rune=true:=by decide +kernel
theorem Aj4:∀ i ∈ List.range 94,Ww (65281+i)=true:=by decide +kernel
theorem Ah8:∀ i ∈ List.range 195,Ww (4352+i)=true/\fo (4352+i)=4352+i:=by decide +kernel
theorem Aii:∀ y ∈ lowers,y.hi<44032\/55203<y.lo:=by decide +kernel
theorem Zx {r:Int} (h:syl r=true):fo r=r:=by
 have h':=(Br r).1 h;have hn:narrow r=r:=by unfold narrow Bf;rw [if_neg];simp;omega
 unfold fo;rw [hn];unfold Cm;cases hl:Jc r with
 | none=>rfl
 | some y =>
  obtain ⟨h1,h2,h3⟩:=Co hl;have:=Aii y h1;omega
theorem An8 {c:Int} (h:Wz c=true):fo c=c:=by
 have h':=(Fl c).1 h;have:=(Ah8 (c - 4352).toNat (by rw [List.mem_range];omega)).2;rwa [show (4352:Int)+((c - 4352).toNat:Int)=c by omega] at this
theorem P1 {l:List Int} (h:∀ c ∈ l,fo c=c):l.map fo=l:=by
 induction l with
 | nil=>rfl
 | cons a l ih=>rw [List.map_cons,h a jS,ih λc hc=>h c (by simp [hc])]
theorem Alb (r:Int):Ww r=true:=by
 cases hs:syl r with
 | true =>
  have e:pieces false r=Cn r:=by rw [Ax,hs];rfl
  have hj:=λc hc=>An8 (I8 hs c hc);unfold Ww;rw [Zx hs,e,P1 hj,Jl false λc hc=>Ft (I8 hs c hc) false];simp only [jag,decide_eq_true_eq,jar,beq_iff_eq];exact ⟨⟨trivial,hj⟩,λ_=>trivial⟩
 | false =>
  cases hw:Bf r with
  | true =>
   simp only [Bf,jag,decide_eq_true_eq] at hw;have:=Aj4 (r - 65281).toNat (by rw [List.mem_range];omega);rwa [show (65281:Int)+((r - 65281).toNat:Int)=r by omega] at this
  | false =>
   cases hp:Aj r with
   | some y =>
    rcases Bv hp with ⟨hy,rfl⟩ | ⟨hw',-⟩
    ·exact Afs y hy
    ·rw [hw] at hw';cases hw'
   | none =>
    have hn:narrow r=r:=by unfold narrow;rw [hw];rfl
    cases hl:Jc r with
    | some y =>
     obtain ⟨h1,h2,h3⟩:=Co hl;have:=Alz y h1 (r - y.lo).toNat (by rw [List.mem_range];omega);rwa [show y.lo+((r - y.lo).toNat:Int)=r by omega] at this
    | none =>
     have e:pieces false r=[r]:=by rw [Ax,hs,hp];rfl
     have hf:fo r=r:=by unfold fo Cm;rw [hn,hl]
     unfold Ww;rw [hf,e];simp [hf,e]
theorem Ah1 (r:Int):pieces false (fo r)=((pieces false r).map fo).flatMap (pieces false):=by
 have:=Alb r;simp only [Ww,jag,decide_eq_true_eq] at this;exact this.1.1
theorem Ap4 (r:Int):∀ c ∈ pieces false (fo r),fo c=c:=by
 have:=Alb r;simp only [Ww,jag,jar,beq_iff_eq] at this;exact this.1.2
theorem Ago {r:Int} (h:0<Ab r):fo r=r:=by
 have:=Alb r;simp only [Ww,jag,decide_eq_true_eq] at this;exact this.2 h
theorem Qj (l:List Int):split false (l.map fo)=split false ((split false l).map fo):=by
 induction l with
 | nil=>rfl
 | cons r l ih =>
  show pieces false (fo r) ++ split false (l.map fo)=split false ((pieces false r ++ split false l).map fo)
  rw [List.map_append,Gi,ih,Ah1];rfl
theorem Aqk {x y:List Int} (h:Sim x y):Sim (x.map fo) (y.map fo):=by
 induction h with
 | refl l=>exact .refl _
 | swap p a b q h1 h2 h3 =>
  simp only [List.map_append,List.map_cons,Ago h1,Ago h2];exact .swap _ a b _ h1 h2 h3
 | trans _ _ ih1 ih2=>exact .trans ih1 ih2
theorem Kj (l:List Int):down false (l.map fo)=down false ((down false l).map fo):=by
 have h1:down false (l.map fo)=down false ((split false l).map fo):=by
  show order (split false (l.map fo))=order (split false ((split false l).map fo));rw [Qj]
 rw [h1];exact Akv false (Aqk (Fi (split false l)))
def fold (l:List Int):List Int:=join (down false (l.map fo))
theorem M6 (l:List Int):down false (fold l)=down false (l.map fo):=M7 false _
theorem Abm (l:List Int):∀ c ∈ down false (l.map fo),fo c=c:=by
 intro c hc;obtain ⟨r,hr,hcr⟩:=Ma false _ c hc;obtain ⟨q,-,rfl⟩:=List.mem_map.1 hr;exact Ap4 q c hcr
theorem X0 (l:List Int):fold (down false l)=fold l:=by unfold fold;rw [<- Kj]
theorem Ah2 (l:List Int):fold (join (down false l))=fold l:=by
 unfold fold;rw [Kj,M7,<- Kj]
theorem F2 (l:List Int):fold (fold l)=fold l:=by
 show join (down false ((fold l).map fo))=join (down false (l.map fo));rw [Kj,M6,P1 (Abm l),Ahy]
theorem Ab7 (l:List Int):join (down false (fold l))=fold l:=by rw [M6];rfl
theorem Aiv:∀ y ∈ splits,fo y.one=y.one->fo y.two=y.two->fo y.rune=y.rune:=by decide +kernel
theorem Ail {a b x:Int} (h:Ct a b=some x) (ha:fo a=a) (hb:fo b=b):fo x=x:=by
 unfold Ct at h;split at h
 ·obtain rfl:=Option.some.inj h;exact Zx ((Br _).2 jO)
 ·split at h
  ·rename_i h2
   obtain rfl:=Option.some.inj h;have:=(Br a).1 h2.1;exact Zx ((Br _).2 jO)
  ·obtain ⟨y,hy,rfl,rfl,ho⟩:=Fu h;rcases Bv hy with ⟨h1,rfl⟩ | ⟨-,rfl⟩
   · exact Aiv y h1 ha hb
   · cases ho
theorem Amw {R:List Int} {c:Int} (hR:∀ y ∈ R,fo y=y) (hc:fo c=c):∀ y ∈ step R c,fo y=y:=by
 have plain:∀ y ∈ c::R,fo y=y:=λy hy=>by
  rcases jal.1 hy with rfl | hy
  ·exact hc
  ·exact hR y hy
 unfold step;split
 ·exact plain
 ·rename_i s A hA
  have hin:∀ y ∈ s::A,fo y=y:=λy hy=>hR y ((List.dropWhile_sublist (λy=>decide (0<Ab y))).subset (by rw [hA];exact hy));split
  ·split
   ·rename_i x hx
    intro y hy;rw [jap,jal] at hy;rcases hy with hy | rfl | hy
    · exact hR y ((List.takeWhile_sublist _).subset hy)
    · exact Ail hx (hin s jS) hc
    · exact hin y (by simp [hy])
   ·exact plain
  ·exact plain
theorem Abu:∀ (l R:List Int),(∀ y ∈ l,fo y=y)->(∀ y ∈ R,fo y=y)->∀ y ∈ l.foldl step R,fo y=y
 | [],_,_,hR=>hR
 | c::l,R,hl,hR=>Abu l (step R c) (λy hy=>hl y (by simp [hy])) (Amw hR (hl c jS))
theorem Km (l:List Int):∀ c ∈ fold l,fo c=c:=by
 intro c hc;unfold fold join at hc;rw [List.mem_reverse] at hc;exact Abu _ [] (Abm l) (λy hy=>by cases hy) c hc
def Agr (r:Int):Bool:=decide (fo r ≠ r)
theorem Aee:∀ y ∈ ranges,y.cat=1->∀ i ∈ List.range (y.hi - y.lo+1).toNat,Agr (y.lo+i)=true:=by decide +kernel
theorem Aqs {c:Int} (h:fo c=c):Bm c ≠ 1/\Bf c=false:=by
 constructor
 ·intro hc;cases hr:Ch c with
  | none=>unfold Bm at hc;rw [hr] at hc;exact absurd hc jD
  | some y =>
   obtain ⟨h1,h2,h3⟩:=Co hr;have hy:y.cat=1:=by unfold Bm at hc;rw [hr] at hc;exact hc
   have:=Aee y h1 hy (c - y.lo).toNat (by rw [List.mem_range];omega);rw [show y.lo+((c - y.lo).toNat:Int)=c by omega] at this;simp only [Agr,decide_eq_true_eq] at this;exact this h
 ·cases hw:Bf c with
  | false=>rfl
  | true =>
   exfalso;have hw':=hw;simp only [Bf,jag,decide_eq_true_eq] at hw';have key:∀ i ∈ List.range 94,fo (65281+i) ≠ 65281+i:=by decide +kernel
   have:=key (c - 65281).toNat (by rw [List.mem_range];omega);rw [show (65281:Int)+((c - 65281).toNat:Int)=c by omega] at this;exact this h
end Fold
end
section
namespace Norm
def Bp (l:List Int):Prop:=∀ c ∈ l,0<=c/\c<128
def On (c:Int):Bool:=whole false c && whole true c && decide (Ab c=0) && decide (Fold.fo c=if 65<=c/\c<=90 then c+32 else c)
theorem Afh:∀ i ∈ List.range 128,On (i:Nat)=true:=by decide +kernel
theorem Oq {c:Int} (h:0<=c/\c<128):On c=true:=by
 have:=Afh c.toNat (by rw [List.mem_range];omega);rwa [show ((c.toNat:Nat):Int)=c by omega] at this
theorem I9 {c:Int} (h:0<=c/\c<128) (soft:Bool):whole soft c=true:=by
 have:=Oq h;simp only [On,jag] at this;cases soft
 · exact this.1.1.1
 · exact this.1.1.2
theorem Xh {c:Int} (h:0<=c/\c<128):Ab c=0:=by
 have:=Oq h;simp only [On,jag,decide_eq_true_eq] at this;exact this.1.2
theorem Oo {c:Int} (h:0<=c/\c<128):Fold.fo c=if 65<=c/\c<=90 then c+32 else c:=by
 have:=Oq h;simp only [On,jag,decide_eq_true_eq] at this;exact this.2
theorem Sv:∀ {l:List Int},(∀ c ∈ l,Ab c=0)->sorted l=true
 | [],_=>rfl
 | [_],_=>rfl
 | x::y::l,h=>by
  have ih:sorted (y::l)=true:=Sv λc hc=>h c (by simp [hc]);unfold sorted;rw [jag];refine ⟨?_,ih⟩;simp [h y jS]
theorem Adn (soft:Bool) {l:List Int} (h:Bp l):down soft l=l:=by
 show order (split soft l)=l;rw [Jj soft λc hc=>I9 (h c hc) soft];exact Kw (Sv λc hc=>Xh (h c hc))
theorem Amm:∀ y ∈ splits,y.soft=false->y.out=false->768<=y.two:=by decide +kernel
theorem Adp {a b:Int} (ha:0<=a/\a<128) (hb:0<=b/\b<128):Ct a b=none:=by
 unfold Ct;rw [if_neg jO,if_neg (λh=>by have:=(Br a).1 h.1;omega)];cases hp:D3 a b with
 | none=>rfl
 | some z =>
  obtain ⟨y,hy,-,h2,ho⟩:=Fu hp;obtain ⟨-,-,h4⟩:=Og hy ho;rcases Bv hy with ⟨h1,-⟩ | ⟨-,rfl⟩
  ·have:=Amm y h1 h4 ho;omega
  ·cases ho
theorem Adq {R:List Int} {c:Int} (hR:Bp R) (hc:0<=c/\c<128):step R c=c::R:=by
 cases R with
 | nil=>rfl
 | cons s A =>
  have hs:¬ 0<Ab s:=by rw [Xh (hR s jS)];omega
  unfold step;simp only [List.dropWhile_cons,List.takeWhile_cons,hs,decide_false,Bool.false_eq_true,if_false,List.all_nil,if_true,Adp (hR s jS) hc]
theorem Ny:∀ (l R:List Int),Bp l->Bp R->l.foldl step R=l.reverse ++ R
 | [],_,_,_=>rfl
 | c::l,R,hl,hR=>by
  have hc:=hl c jS;rw [List.foldl_cons,Adq hR hc,Ny l (c::R) (λy hy=>hl y (by simp [hy])) (λy hy=>by
   rcases jal.1 hy with rfl | hy
   · exact hc
   · exact hR y hy)]
  simp
theorem Ado {l:List Int} (h:Bp l):join l=l:=by
 unfold join X5;rw [Ny l [] h (λy hy=>by cases hy)];simp
theorem Gy {l:List Int} (h:Bp l):Fold.fold l=l.map λc=>if 65<=c/\c<=90 then c+32 else c:=by
 have e:l.map Fold.fo=l.map λc=>if 65<=c/\c<=90 then c+32 else c:=List.map_congr_left λc hc=>Oo (h c hc);have ha:Bp (l.map λc=>if 65<=c/\c<=90 then c+32 else c):=by
  intro c hc;obtain ⟨d,hd,rfl⟩:=List.mem_map.1 hc;have:=h d hd;split<;>omega
 unfold Fold.fold;rw [e,Adn false ha,Ado ha]
end Norm
end
section
namespace Norm
theorem Ue {L M:List Int} (hl:L.length=M.length) (h:∀ i,i<L.length->L[i]! = M[i]!):L=M:=by
 refine List.ext_getElem hl λi h1 h2=>?_;have:=h i h1;rwa [getElem!_pos L i h1,getElem!_pos M i h2] at this
theorem Dr {p q:List Int} {i:Nat} (h:i<p.length):(p ++ q)[i]! = p[i]!:=by
 rw [getElem!_pos (p ++ q) i (by rw [jab];omega),getElem!_pos p i h,List.getElem_append_left h]
theorem Dh {p q:List Int} {i:Nat} (h:p.length<=i):(p ++ q)[i]! = q[i - p.length]!:=by
 simp only [List.getElem!_eq_getElem?_getD,List.getElem?_append_right h]
theorem Fy {L:List Int} {n i:Nat} (h:i<n):(L.take n)[i]! = L[i]!:=by
 simp only [List.getElem!_eq_getElem?_getD,List.getElem?_take_of_lt h]
theorem Fx (L:List Int) (n i:Nat):(L.drop n)[i]! = L[n+i]!:=by
 simp only [List.getElem!_eq_getElem?_getD,List.getElem?_drop]
theorem Ot (L:List Int) (k i:Nat) (x:Int) (h:k<L.length):(L.set k x)[i]! = if i=k then x else L[i]!:=by
 simp only [List.getElem!_eq_getElem?_getD,List.getElem?_set];by_cases e:i=k
 · subst e;simp [h]
 · rw [if_neg (λh=>e h.symm),if_neg e]
theorem Aat {L:List Int} {x:Int} (h:x ∈ L):∃ i,i<L.length/\L[i]! = x:=by
 obtain ⟨i,hi,rfl⟩:=List.mem_iff_getElem.1 h;exact ⟨i,hi,getElem!_pos L i hi⟩
def Up (L:List Int) (a b:Nat):Prop:=∀ i j,a<=i->i<j->j<b->Ab L[i]!<=Ab L[j]!
theorem Up.part {L:List Int} {a b a' b':Nat} (h:Up L a b) (h1:a<=a') (h2:b'<=b):Up L a' b':=λi j hi hij hj=>h i j jO hij jO
theorem Up.le {L:List Int} {a b:Nat} (h:Up L a b) {i j:Nat} (hi:a<=i) (hij:i<=j) (hj:j<b):Ab L[i]!<=Ab L[j]!:=by
 rcases Nat.lt_or_eq_of_le hij with h1 | rfl
 · exact h i j hi h1 hj
 · exact Int.le_refl _
theorem Up.small {L:List Int} {a b:Nat} (h:b<=a+1):Up L a b:=λi j _ _ _=>by omega
theorem Up.same {L M:List Int} {a b:Nat} (h:Up L a b) (e:∀ i,a<=i->i<b->M[i]! = L[i]!):Up M a b:=λi j hi hij hj=>by
 rw [e i hi jO,e j jO hj];exact h i j hi hij hj
structure Ay (a b:Nat) (L M:List Int):Prop where
 len:M.length=L.length
 out:∀ i,i<a\/b<=i->M[i]! = L[i]!
 inn:∀ i,a<=i->i<b->∃ j,a<=j/\j<b/\M[i]! = L[j]!
 sim:(∀ i,a<=i->i<b->0<Ab L[i]!)->Sim L M
theorem Ay.refl (a b:Nat) (L:List Int):Ay a b L L:=⟨rfl,λ_ _=>rfl,λi h1 h2=>⟨i,h1,h2,rfl⟩,λ_=>.refl _⟩
theorem Ay.trans {a b:Nat} {L M N:List Int} (h:Ay a b L M) (k:Ay a b M N):Ay a b L N:=by
 refine ⟨k.len.trans h.len,λi hi=>(k.out i hi).trans (h.out i hi),λi h1 h2=>?_,λhm=>?_⟩
 ·obtain ⟨j,h3,h4,e⟩:=k.inn i h1 h2;obtain ⟨j',h5,h6,e'⟩:=h.inn j h3 h4;exact ⟨j',h5,h6,e.trans e'⟩
 ·refine .trans (h.sim hm) (k.sim λi h1 h2=>?_);obtain ⟨j,h3,h4,e⟩:=h.inn i h1 h2;rw [e];exact hm j h3 h4
theorem Ay.mono {a b a' b':Nat} {L M:List Int} (h:Ay a b L M) (h1:a'<=a) (h2:b<=b'):Ay a' b' L M:=by
 refine ⟨h.len,λi hi=>h.out i jO,λi h3 h4=>?_,λhm=>h.sim λi h3 h4=>hm i jO jO⟩;by_cases hi:a<=i/\i<b
 ·obtain ⟨j,h5,h6,e⟩:=h.inn i hi.1 hi.2;exact ⟨j,by omega,by omega,e⟩
 ·exact ⟨i,h3,h4,h.out i jO⟩
theorem Ay.all {a b:Nat} {L M:List Int} (h:Ay a b L M) {p:Int->Prop} (hp:∀ i,a<=i->i<b->p L[i]!):∀ i,a<=i->i<b->p M[i]!:=λi h1 h2=>by
 obtain ⟨j,h3,h4,e⟩:=h.inn i h1 h2;rw [e];exact hp j h3 h4
def Fv (L:List Int) (k:Nat):List Int:=(L.set k L[k+1]!).set (k+1) L[k]!
theorem Wm (L:List Int) (k:Nat):(Fv L k).length=L.length:=by unfold Fv;simp
theorem Is (L:List Int) (k i:Nat) (h:k+1<L.length):(Fv L k)[i]! = if i=k+1 then L[k]! else if i=k then L[k+1]! else L[i]!:=by
 unfold Fv;rw [Ot _ _ _ _ (by rw [List.length_set];exact h),Ot _ _ _ _ jO]
theorem Agk (L:List Int) (k:Nat) (h:k+1<L.length):L=L.take k ++ L[k]!::L[k+1]!::L.drop (k+2):=by
 rw [getElem!_pos L k jO,getElem!_pos L (k+1) h,<- List.drop_eq_getElem_cons h,<- List.drop_eq_getElem_cons jO,List.take_append_drop]
theorem Aos (L:List Int) (k:Nat) (h:k+1<L.length):Fv L k=L.take k ++ L[k+1]!::L[k]!::L.drop (k+2):=by
 have e:=Agk L k h;have hk:(L.take k).length=k:=by rw [jak];omega
 unfold Fv;generalize L[k]! = x at e ⊢;generalize L[k+1]! = y at e ⊢;generalize L.take k=p at e hk ⊢;generalize L.drop (k+2)=q at e ⊢;subst e hk;rw [List.set_append_right _ _ (jaa _),List.set_append_right _ _ jO,Nat.sub_self,show p.length+1 - p.length=1 by omega];rfl
theorem Ay.Fv {a b k:Nat} (L:List Int) (h1:a<=k) (h2:k+1<b) (h3:b<=L.length) (hc:Ab L[k+1]!<Ab L[k]!):Ay a b L (Fv L k):=by
 refine ⟨Wm _ _,λi hi=>?_,λi h4 h5=>?_,λhm=>?_⟩
 ·rw [Is _ _ _ jO,if_neg jO,if_neg jO]
 ·rw [Is _ _ _ jO];by_cases e1:i=k+1
  ·rw [if_pos e1];exact ⟨k,by omega,by omega,rfl⟩
  ·rw [if_neg e1];by_cases e2:i=k
   · rw [if_pos e2];exact ⟨k+1,by omega,by omega,rfl⟩
   · rw [if_neg e2];exact ⟨i,h4,h5,rfl⟩
 ·rw [Aos L k jO];have h:=Sim.swap (L.take k) L[k]! L[k+1]! (L.drop (k+2)) (hm k h1 jO) (hm (k+1) jO h2) jO;rwa [<- Agk L k jO] at h
structure Rot (a m b:Nat) (L M:List Int):Prop where
 len:M.length=L.length
 fst:∀ i,a<=i->i<a+(b - m)->M[i]! = L[i+(m - a)]!
 snd:∀ i,a+(b - m)<=i->i<b->M[i]! = L[i - (b - m)]!
 out:∀ i,i<a\/b<=i->M[i]! = L[i]!
theorem Rot.none {a m b:Nat} (L:List Int) (h1:a<=m) (h2:m<=b) (h:a=m\/m=b):Rot a m b L L:=by
 refine ⟨rfl,λi h3 h4=>?_,λi h3 h4=>?_,λ_ _=>rfl⟩
 ·rcases h with rfl | rfl
  · rw [show i+(a - a)=i by omega]
  · omega
 ·rcases h with rfl | rfl
  · omega
  · rw [show i - (m - m)=i by omega]
theorem Yu:∀ {X Y:List Int},(∀ x ∈ X,∀ y ∈ Y,0<Ab y/\Ab y<Ab x)->Sim (X ++ Y) (Y ++ X)
 | [],Y,_=>by rw [List.append_nil];exact .refl _
 | x::X,Y,h=>by
  have h1:Sim (X ++ Y) (Y ++ X):=Yu λz hz y hy=>h z (by simp [hz]) y hy;have h2:Sim (x::Y) (Y ++ [x]):=Wb λy hy=>h x jS y hy;have h3:=h2.behind X;rw [jaq] at h3;exact .trans (h1.ahead [x]) h3
theorem Rot.Arp {a m b:Nat} {L M:List Int} (h:Rot a m b L M) (h1:a<=m) (h2:m<=b) (h3:b<=L.length) (hc:∀ i j,a<=i->i<m->m<=j->j<b->Ab L[j]!<Ab L[i]!):Ay a b L M:=by
 refine ⟨h.len,h.out,λi h4 h5=>?_,λhm=>?_⟩
 ·by_cases hi:i<a+(b - m)
  ·exact ⟨i+(m - a),by omega,by omega,h.fst i h4 hi⟩
  ·exact ⟨i - (b - m),by omega,by omega,h.snd i jO h5⟩
 ·have l1:(L.take a).length=a:=by rw [jak];omega
  have l2:((L.take m).drop a).length=m - a:=by rw [jaj,jak];omega
  have l3:((L.take b).drop m).length=b - m:=by rw [jaj,jak];omega
  have b2:∀ i,i<m - a->((L.take m).drop a)[i]! = L[a+i]!:=λi hi=>by rw [Fx,Fy jO]
  have b3:∀ i,i<b - m->((L.take b).drop m)[i]! = L[m+i]!:=λi hi=>by rw [Fx,Fy jO]
  have eL:L=L.take a ++ (((L.take m).drop a ++ (L.take b).drop m) ++ L.drop b):=by
   refine Ue (by simp only [jab,jaj,l1,l2,l3];omega) λi hi=>?_;by_cases i1:i<a
   ·rw [Dr jO,Fy i1]
   rw [Dh jO,l1];by_cases i2:i<m
   ·rw [Dr (by simp only [jab,l2,l3];omega),Dr jO,b2 _ jO,show a+(i - a)=i by omega]
   by_cases i3:i<b
   ·rw [Dr (by simp only [jab,l2,l3];omega),Dh jO,l2,b3 _ jO,show m+(i - a - (m - a))=i by omega]
   rw [Dh (by simp only [jab,l2,l3];omega),Fx,jab,l2,l3,show b+(i - a - (m - a+(b - m)))=i by omega]
  have eM:M=L.take a ++ (((L.take b).drop m ++ (L.take m).drop a) ++ L.drop b):=by
   refine Ue (by rw [h.len];simp only [jab,jaj,l1,l2,l3];omega) λi hi=>?_;by_cases i1:i<a
   ·rw [Dr jO,Fy i1];exact h.out i (.inl i1)
   rw [Dh jO,l1];by_cases i2:i<a+(b - m)
   ·rw [Dr (by simp only [jab,l2,l3];omega),Dr jO,b3 _ jO,h.fst i jO i2];congr 1;omega
   by_cases i3:i<b
   ·rw [Dr (by simp only [jab,l2,l3];omega),Dh jO,l3,b2 _ jO,h.snd i jO i3];congr 1;omega
   rw [Dh (by simp only [jab,l2,l3];omega),Fx,jab,l2,l3,h.out i (.inr jO)];congr 1;omega
  have hS:Sim ((L.take m).drop a ++ (L.take b).drop m) ((L.take b).drop m ++ (L.take m).drop a):=by
   refine Yu λx hx y hy=>?_;obtain ⟨i,hi,rfl⟩:=Aat hx;obtain ⟨j,hj,rfl⟩:=Aat hy;rw [b2 i jO,b3 j jO];exact ⟨hm _ jO jO,hc _ _ jO jO jO jO⟩
  have:=(hS.behind (L.drop b)).ahead (L.take a);rw [<- eL,<- eM] at this;exact this
theorem Rot.Gq {a m b mid s e:Nat} {L M:List Int} (h:Rot s m e L M) (h1:a<=s) (h2:s<=m) (h3:m<=e) (h4:e<=b) (hse:s+e=mid+m) (u1:Up L a m) (u2:Up L m b) :
  Up M a s/\Up M s mid/\Up M mid e/\Up M e b:=by
 refine ⟨λi j hi hij hj=>?_,λi j hi hij hj=>?_,λi j hi hij hj=>?_,λi j hi hij hj=>?_⟩
 ·rw [h.out i jO,h.out j jO];exact u1 i j hi hij jO
 ·rw [h.fst i hi jO,h.fst j jO jO];exact u2 _ _ jO jO jO
 ·rw [h.snd i jO jO,h.snd j jO hj];exact u1 _ _ jO jO jO
 ·rw [h.out i jO,h.out j jO];exact u2 i j jO hij hj
theorem merged {a m b mid s e:Nat} {L L1 L2 L3:List Int} (h1:a<=s) (h2:s<=m) (h3:m<=e) (h4:e<=b) (hse:s+e=mid+m) (hm1:s<=mid) (hb:b<=L.length) (u1:Up L a m) (u2:Up L m b)
  (hlo:∀ c d,a<=c->c<s->e<=d->d<b->Ab L[c]!<=Ab L[d]!)
  (hhi:∀ i j,s<=i->i<m->m<=j->j<e->Ab L[j]!<Ab L[i]!)
  (hR:Rot s m e L L1) (k2:Ay a mid L1 L2) (v2:Up L2 a mid) (k3:Ay mid b L2 L3) (v3:Up L3 mid b):Ay a b L L3/\Up L3 a b:=by
 refine ⟨(((hR.Arp h2 h3 jO hhi).mono h1 h4).trans (k2.mono (jaa _) jO)).trans (k3.mono jO (jaa _)),λi j hi hij hj=>?_⟩;by_cases c1:j<mid
 ·rw [k3.out i jO,k3.out j jO];exact v2 i j hi hij c1
 by_cases c2:mid<=i
 ·exact v3 i j c2 hij hj
 rw [k3.out i jO];obtain ⟨i',a1,a2,ei⟩:=k2.inn i hi jO;obtain ⟨j',b1,b2,ej⟩:=k3.inn j jO hj;rw [ei,ej,k2.out j' jO];by_cases d1:i'<s
 ·rw [hR.out i' jO];by_cases d2:j'<e
  · rw [hR.snd j' jO d2];exact u1 _ _ jO jO jO
  · rw [hR.out j' jO];exact hlo _ _ jO d1 jO b2
 ·rw [hR.fst i' jO jO];by_cases d2:j'<e
  · rw [hR.snd j' jO d2];exact Int.le_of_lt (hhi _ _ jO jO jO jO)
  · rw [hR.out j' jO];exact u2 _ _ jO jO b2
end Norm
end
