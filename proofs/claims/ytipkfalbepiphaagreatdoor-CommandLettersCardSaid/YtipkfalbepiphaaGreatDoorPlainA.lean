import Derived.Test.YtipkfalbepiphaaGreatDoorTabPl
namespace Go.Proofs.YtipkfalbepiphaaGreatDoor
section
def Alx (y:Sp):Bool:=match Ak y.rune with | some s=>s.one == y.one && s.two == y.two && s.out == y.out | none=>false
theorem Av4:∀ y ∈ splits,Alx y=true:=by decide +kernel
theorem Av1:∀ y ∈ splits,y.out=false->Gv y.one y.two=some y.rune/\y.two ≠ 0/\y.soft=false:=by decide +kernel
theorem Bn {x:Int} {y:Sp} (h:Ak x=some y):(y ∈ splits/\y.rune=x)\/(Bp x=true/\y=⟨x,x - 65248,0,true,true⟩):=by
 unfold Ak at h;cases hr:rowOf x with
 | some z =>
  rw [hr] at h;obtain rfl:=Option.some.inj h;obtain ⟨h1,h2,h3⟩:=Dm hr;exact .inl ⟨h1,Int.le_antisymm h2 h3⟩
 | none =>
  rw [hr] at h;cases hw:Bp x with
  | true=>simp only [hw,if_true,Option.some.injEq] at h;exact .inr ⟨rfl,h.symm⟩
  | false=>simp [hw] at h
theorem Q5 {x:Int} {y:Sp} (h:Ak x=some y) (ho:y.out=false):Gv y.one y.two=some x/\y.two ≠ 0/\y.soft=false:=by
 rcases Bn h with ⟨hy,rfl⟩ | ⟨_,rfl⟩
 · exact Av1 y hy ho
 · cases ho
theorem F8 {a b z:Int} (h:Gv a b=some z):∃ y,Ak z=some y/\y.one=a/\y.two=b/\y.out=false:=by
 unfold Gv at h;by_cases hb:b=0
 ·rw [if_pos hb] at h;cases h
 ·rw [if_neg hb] at h;cases hf:splits.find? (makes a b) with
  | none=>rw [hf] at h;cases h
  | some s =>
   rw [hf] at h;have hz:s.rune=z:=by simpa using h
   have hm:=List.find?_some hf;have hs:=List.mem_of_find?_eq_some hf;simp only [makes,jag,Bool.not_eq_true',beq_iff_eq] at hm;have ht:=Av4 s hs;unfold Alx at ht;rw [hz] at ht;cases hq:Ak z with
   | none=>rw [hq] at ht;cases ht
   | some y =>
    rw [hq] at ht;simp only [jag,beq_iff_eq] at ht;exact ⟨y,rfl,by rw [ht.1.1,hm.1.2],by rw [ht.1.2,hm.2],by rw [ht.2,hm.1.1.2]⟩
def Azy (x:Int):Bool:=decide (Fx (Fx x)=Fx x/\Ec x=1/\Ec (Fx x)=2/\Cd (Fx x)=Cd x/\Ad (Fx x)=0/\Ax (Fx x)=Ax x)
theorem A1e:∀ y ∈ lowers,∀ i ∈ List.range (y.hi - y.lo+1).toNat,Azy (y.lo+i)=true:=by decide +kernel
theorem Aub (x:Int):Fx x=x\/Azy x=true:=by
 cases h:Mn x with
 | none=>left;unfold Fx;rw [h]
 | some y =>
  right;obtain ⟨h1,h2,h3⟩:=Dm h;have:=A1e y h1 (x - y.lo).toNat (by rw [List.mem_range];omega);rwa [show y.lo+((x - y.lo).toNat:Int)=x by omega] at this
def Ss (x one two:Int) (soft:Bool):Bool:=decide (Ad one=0/\Ad x=0/\(two=0\/soft=true\/0<Ad two)/\Ec one ≠ 0)
theorem Apo:∀ y ∈ splits,Ss y.rune y.one y.two y.soft=true:=by decide +kernel
theorem Aqc:∀ i ∈ List.range 94,Ss (65281+i) (65281+i - 65248) 0 true=true:=by decide +kernel
theorem Wh {x:Int} {y:Sp} (h:Ak x=some y):Ss x y.one y.two y.soft=true:=by
 rcases Bn h with ⟨hy,rfl⟩ | ⟨hw,rfl⟩
 ·exact Apo y hy
 ·simp only [Bp,jag,decide_eq_true_eq] at hw;have:=Aqc (x - 65281).toNat (by rw [List.mem_range];omega);rwa [show (65281:Int)+((x - 65281).toNat:Int)=x by omega] at this
end
section
namespace Norm
def syl (r:Int):Bool:=decide (44032<=r) && decide (r<=55203)
def C9 (r:Int):List Int:=[4352+(r - 44032) / 588,4449+(r - 44032) % 588 / 28] ++ (if (r - 44032) % 28=0 then [] else [4519+(r - 44032) % 28])
def one:Nat->Bool->Int->List Int
 | 0,_,r=>[r]
 | n+1,soft,r=>if syl r then C9 r else match Ak r with
  | none=>[r]
  | some x=>if x.soft && !soft then [r] else one n soft x.one ++ (if x.two=0 then [] else one n soft x.two)
def pieces (soft:Bool) (r:Int):List Int:=one 4 soft r
def whole (soft:Bool) (c:Int):Bool:=pieces soft c == [c]
theorem Dy {soft:Bool} {c:Int}:whole soft c=true ↔ pieces soft c=[c]:=by unfold whole;rw [beq_iff_eq]
def Wa (soft:Bool) (x a b:Int):Bool:=decide (one 3 soft a=one 4 soft a) && decide (one 3 soft b=one 4 soft b) && (pieces soft x).all (whole soft) && (pieces true x).all (whole false) && decide ((pieces false x).flatMap (pieces true)=pieces true x) && !syl x
theorem Alg:∀ y ∈ splits,Wa false y.rune y.one y.two=true/\Wa true y.rune y.one y.two=true:=by decide +kernel
theorem A2h:∀ i ∈ List.range 94,Wa false (65281+i) (65281+i - 65248) 0=true/\Wa true (65281+i) (65281+i - 65248) 0=true:=by decide +kernel
theorem Ve (soft:Bool) {x:Int} {y:Sp} (h:Ak x=some y):Wa soft x y.one y.two=true:=by
 rcases Bn h with ⟨hy,rfl⟩ | ⟨hw,rfl⟩
 ·cases soft
  · exact (Alg y hy).1
  · exact (Alg y hy).2
 ·simp only [Bp,jag,decide_eq_true_eq] at hw;have:=A2h (x - 65281).toNat (by rw [List.mem_range];omega);rw [show (65281:Int)+((x - 65281).toNat:Int)=x by omega] at this;cases soft
  · exact this.1
  · exact this.2
theorem Cp (r:Int):syl r=true ↔ 44032<=r/\r<=55203:=by unfold syl;simp
theorem Ba (soft:Bool) (r:Int):pieces soft r=if syl r then C9 r else match Ak r with
  | none=>[r]
  | some x=>if x.soft && !soft then [r] else pieces soft x.one ++ (if x.two=0 then [] else pieces soft x.two):=by
 show one 4 soft r=_;rw [one];cases hs:syl r with
 | true=>rfl
 | false =>
  simp only [Bool.false_eq_true,if_false];cases h:Ak r with
  | none=>rfl
  | some x =>
   have:=Ve soft h;simp only [Wa,jag,decide_eq_true_eq] at this;simp only [this.1.1.1.1.1,this.1.1.1.1.2];rfl
def Abo (c:Int):Bool:=(decide (4352<=c) && decide (c<=4370)) || (decide (4449<=c) && decide (c<=4469)) || (decide (4520<=c) && decide (c<=4546))
theorem Ii (c:Int):Abo c=true ↔ (4352<=c/\c<=4370)\/(4449<=c/\c<=4469)\/(4520<=c/\c<=4546):=by
 unfold Abo;simp [or_assoc]
def Azj (c:Int):Bool:=whole false c && whole true c && decide (Ad c=0)
theorem Avz:∀ i ∈ List.range 195,Abo (4352+i)=true->Azj (4352+i)=true:=by decide +kernel
theorem Ark {c:Int} (h:Abo c=true):whole false c=true/\whole true c=true/\Ad c=0:=by
 have h':=(Ii c).1 h;have:=Avz (c - 4352).toNat (by rw [List.mem_range];omega);rw [show (4352:Int)+((c - 4352).toNat:Int)=c by omega] at this;have:=this h;simp only [Azj,jag,decide_eq_true_eq] at this;exact ⟨this.1.1,this.1.2,this.2⟩
theorem Jt {c:Int} (h:Abo c=true) (soft:Bool):whole soft c=true:=by
 cases soft
 · exact (Ark h).1
 · exact (Ark h).2.1
theorem Ok {r:Int} (h:syl r=true):∀ c ∈ C9 r,Abo c=true:=by
 have h':=(Cp r).1 h;intro c hc;unfold C9 at hc;rw [Ii];split at hc
 ·simp only [List.append_nil,jal,List.not_mem_nil,or_false] at hc;omega
 ·simp only [jah,List.nil_append,jal,List.not_mem_nil,or_false] at hc;omega
theorem Ago (soft:Bool) (r:Int):∀ c ∈ pieces soft r,whole soft c=true:=by
 cases hs:syl r with
 | true =>
  rw [Ba,hs];exact λc hc=>Jt (Ok hs c hc) soft
 | false =>
  cases h:Ak r with
  | none =>
   have e:pieces soft r=[r]:=by rw [Ba,hs,h];rfl
   intro c hc;rw [e,List.mem_singleton] at hc;rw [hc];exact Dy.2 e
  | some x =>
   have:=Ve soft h;simp only [Wa,jag] at this;exact jar.1 this.1.1.1.2
theorem Pu (soft:Bool) {l:List Int} (h:∀ c ∈ l,whole soft c=true):l.flatMap (pieces soft)=l:=by
 induction l with
 | nil=>rfl
 | cons a l ih =>
  rw [jao,Dy.1 (h a jS),ih λc hc=>h c (by simp [hc])];rfl
theorem A4k:∀ y ∈ Hv,y.hi<=12441:=by decide +kernel
theorem Ar7 {r:Int} (h:syl r=true):Ad r=0:=by
 have h':=(Cp r).1 h;unfold Ad;cases hc:Afg r with
 | none=>rfl
 | some y =>
  obtain ⟨h1,h2,h3⟩:=Dm hc;have:=A4k y h1;omega
theorem Mp (soft:Bool) {c:Int} (h:0<Ad c):whole soft c=true:=by
 rw [Dy,Ba];cases hs:syl c with
 | true=>rw [Ar7 hs] at h;omega
 | false =>
  cases hp:Ak c with
  | none=>rfl
  | some x =>
   have:=Wh hp;simp only [Ss,decide_eq_true_eq] at this;omega
def D8 (a b:Int):Option Int :=
 if 4352<=a/\a<=4370/\4449<=b/\b<=4469 then some (44032+(a - 4352)*588+(b - 4449)*28)
 else if syl a=true/\(a - 44032) % 28=0/\4520<=b/\b<=4546 then some (a+b - 4519)
 else Gv a b
theorem Auj (soft:Bool) {a b x:Int} (h:D8 a b=some x):pieces soft x=pieces soft a ++ pieces soft b:=by
 unfold D8 at h;by_cases h1:4352<=a/\a<=4370/\4449<=b/\b<=4469
 ·rw [if_pos h1] at h;have hx:=(Option.some.inj h).symm;have ha:Abo a=true:=(Ii a).2 jO;have hb:Abo b=true:=(Ii b).2 jO;rw [Dy.1 (Jt ha soft),Dy.1 (Jt hb soft),Ba,if_pos ((Cp x).2 jO)];unfold C9;rw [if_pos jO,show 4352+(x - 44032) / 588=a by omega,show 4449+(x - 44032) % 588 / 28=b by omega];rfl
 ·rw [if_neg h1] at h;by_cases h2:syl a=true/\(a - 44032) % 28=0/\4520<=b/\b<=4546
  ·rw [if_pos h2] at h;have hx:=(Option.some.inj h).symm;have ha:=(Cp a).1 h2.1;have hb:Abo b=true:=(Ii b).2 jO;rw [Dy.1 (Jt hb soft),Ba,if_pos ((Cp x).2 jO),Ba,if_pos h2.1];unfold C9;rw [if_pos h2.2.1,if_neg jO,show 4352+(x - 44032) / 588=4352+(a - 44032) / 588 by omega,show 4449+(x - 44032) % 588 / 28=4449+(a - 44032) % 588 / 28 by omega,show 4519+(x - 44032) % 28=b by omega];rfl
  ·rw [if_neg h2] at h;obtain ⟨y,hy,rfl,rfl,ho⟩:=F8 h;obtain ⟨-,h3,h4⟩:=Q5 hy ho;have h5:=Ve soft hy;simp only [Wa,jag,Bool.not_eq_true'] at h5;rw [Ba soft x,h5.2,hy];simp only [h4,Bool.false_and,Bool.false_eq_true,if_false,if_neg h3]
inductive Sim:List Int->List Int->Prop
 | refl (l:List Int):Sim l l
 | swap (p:List Int) (a b:Int) (q:List Int):0<Ad a->0<Ad b->Ad a ≠ Ad b->Sim (p ++ a::b::q) (p ++ b::a::q)
 | trans {x y z:List Int}:Sim x y->Sim y z->Sim x z
theorem Sim.symm {x y:List Int} (h:Sim x y):Sim y x:=by
 induction h with
 | refl l=>exact .refl l
 | swap p a b q h1 h2 h3=>exact .swap p b a q h2 h1 λe=>h3 e.symm
 | trans _ _ ih1 ih2=>exact .trans ih2 ih1
theorem Sim.ahead {x y:List Int} (h:Sim x y) (p:List Int):Sim (p ++ x) (p ++ y):=by
 induction h with
 | refl l=>exact .refl _
 | swap p' a b q h1 h2 h3 =>
  rw [<- jaq,<- jaq];exact .swap _ a b q h1 h2 h3
 | trans _ _ ih1 ih2=>exact .trans ih1 ih2
theorem Sim.behind {x y:List Int} (h:Sim x y) (q:List Int):Sim (x ++ q) (y ++ q):=by
 induction h with
 | refl l=>exact .refl _
 | swap p a b q' h1 h2 h3 =>
  simp only [jaq,jah];exact .swap p a b _ h1 h2 h3
 | trans _ _ ih1 ih2=>exact .trans ih1 ih2
def ins (x:Int):List Int->List Int
 | []=>[x]
 | y::l=>if 0<Ad y/\Ad y<Ad x then y::ins x l else x::y::l
def order:List Int->List Int
 | []=>[]
 | x::l=>ins x (order l)
theorem Yx {a b:Int} (ha:0<Ad a) (hab:Ad a<Ad b):∀ L:List Int,ins a (ins b L)=ins b (ins a L)
 | []=>by simp only [ins];rw [if_neg jO,if_pos ⟨ha,hab⟩]
 | y::l=>by
  by_cases h1:0<Ad y/\Ad y<Ad b
  ·by_cases h2:Ad y<Ad a
   ·simp only [ins,if_pos h1,if_pos (show 0<Ad y/\Ad y<Ad a from ⟨h1.1,h2⟩)];rw [Yx ha hab l]
   ·simp only [ins,if_pos h1,if_neg (show ¬ (0<Ad y/\Ad y<Ad a) from λh=>h2 h.2),if_pos (show 0<Ad a/\Ad a<Ad b from ⟨ha,hab⟩)]
  ·simp only [ins,if_neg h1,if_neg (show ¬ (0<Ad y/\Ad y<Ad a) from λh=>h1 ⟨h.1,by omega⟩),if_pos (show 0<Ad a/\Ad a<Ad b from ⟨ha,hab⟩),if_neg (show ¬ (0<Ad b/\Ad b<Ad a) from λh=>by omega)]
theorem Azg {a b:Int} (ha:0<Ad a) (hb:0<Ad b) (h:Ad a ≠ Ad b) (L:List Int):ins a (ins b L)=ins b (ins a L):=by
 rcases (show Ad a<Ad b\/Ad b<Ad a by omega) with h1 | h1
 · exact Yx ha h1 L
 · exact (Yx hb h1 L).symm
theorem So (p q:List Int):order (p ++ q)=p.foldr ins (order q):=by
 induction p with
 | nil=>rfl
 | cons x p ih=>simp only [jah,order,List.foldr_cons,ih]
theorem Ph {x y:List Int} (h:Sim x y):order x=order y:=by
 induction h with
 | refl l=>rfl
 | swap p a b q h1 h2 h3=>rw [So,So];simp only [order];rw [Azg h1 h2 h3]
 | trans _ _ ih1 ih2=>exact ih1.trans ih2
theorem Ari (x:Int):∀ L:List Int,Sim (x::L) (ins x L)
 | []=>.refl _
 | y::l=>by
  unfold ins;split
  ·rename_i h
   exact .trans (Sim.swap [] x y l jO h.1 jO) ((Ari x l).ahead [y])
  ·exact .refl _
theorem Ho:∀ l:List Int,Sim l (order l)
 | []=>.refl _
 | x::l=>.trans ((Ho l).ahead [x]) (Ari x _)
theorem Akl (l:List Int):order (order l)=order l:=(Ph (Ho l)).symm
def sorted:List Int->Bool
 | []=>true
 | x::l=>(match l with | []=>true | y::_=>!(decide (0<Ad y) && decide (Ad y<Ad x))) && sorted l
theorem Mv:∀ {l:List Int},sorted l=true->order l=l
 | [],_=>rfl
 | [x],_=>rfl
 | x::y::l,h=>by
  simp only [sorted,jag,Bool.not_eq_true',Bool.and_eq_false_iff,decide_eq_false_iff_not] at h;have ih:order (y::l)=y::l:=Mv (by simp only [sorted,jag];exact h.2);show ins x (order (y::l))=_;rw [ih];unfold ins;rw [if_neg (λhh=>by rcases h.1 with h1 | h1<;>omega)]
theorem A0n {l m:List Int} (h:Sim l m) (hs:sorted m=true):m=order l:=(Mv hs).symm.trans (Ph h).symm
def split (soft:Bool) (l:List Int):List Int:=l.flatMap (pieces soft)
theorem G6 (soft:Bool) (p q:List Int):split soft (p ++ q)=split soft p ++ split soft q:=List.flatMap_append
theorem Km (soft:Bool) {l:List Int} (h:∀ c ∈ l,whole soft c=true):split soft l=l:=Pu soft h
theorem Awi (soft:Bool) {x y:List Int} (h:Sim x y):Sim (split soft x) (split soft y):=by
 induction h with
 | refl l=>exact .refl _
 | swap p a b q h1 h2 h3 =>
  simp only [split,List.flatMap_append,jao,Dy.1 (Mp soft h1),Dy.1 (Mp soft h2),jah,List.nil_append];exact .swap _ a b _ h1 h2 h3
 | trans _ _ ih1 ih2=>exact .trans ih1 ih2
def step (R:List Int) (c:Int):List Int :=
 match R.dropWhile (λy=>decide (0<Ad y)) with
 | []=>c::R
 | s
   :: A=>if (R.takeWhile (λy=>decide (0<Ad y))).all (λy=>decide (Ad y<Ad c)) then
   (match D8 s c with | some x=>R.takeWhile (λy=>decide (0<Ad y)) ++ x::A | none=>c::R)
  else c::R
def Aje (l:List Int):List Int:=l.foldl step []
def join (l:List Int):List Int:=(Aje l).reverse
theorem Aew {p:Int->Bool}:∀ {l:List Int} {y:Int},y ∈ l.takeWhile p->p y=true
 | [],_,h=>by cases h
 | x::l,y,h=>by
  rw [List.takeWhile_cons] at h;split at h
  ·rcases jal.1 h with rfl | h
   · assumption
   · exact Aew h
  ·cases h
theorem Aag {c:Int}:∀ {M:List Int},(∀ y ∈ M,0<Ad y/\Ad y<Ad c)->Sim (c::M) (M ++ [c])
 | [],_=>.refl _
 | y::M,h=>by
  have hy:=h y jS;exact .trans (Sim.swap [] c y M jO hy.1 jO) ((Aag λz hz=>h z (by simp [hz])).ahead [y])
theorem A10 (soft:Bool) (R p:List Int) (c:Int) (hc:whole soft c=true) (h:Sim (split soft R.reverse) p):Sim (split soft (step R c).reverse) (p ++ [c]):=by
 have plain:Sim (split soft (c::R).reverse) (p ++ [c]):=by
  rw [List.reverse_cons,G6];have e:split soft [c]=[c]:=Km soft (by simpa using hc)
  rw [e];exact h.behind [c]
 unfold step;split
 ·exact plain
 ·rename_i s A hA
  split
  ·rename_i hfree
   split
   ·rename_i x hx
    have hR:R=R.takeWhile (λy=>decide (0<Ad y)) ++ s::A:=by rw [<- hA];exact (List.takeWhile_append_dropWhile).symm
    have hM:∀ y ∈ (R.takeWhile (λy=>decide (0<Ad y))).reverse,0<Ad y/\Ad y<Ad c:=by
     intro y hy;rw [List.mem_reverse] at hy;exact ⟨of_decide_eq_true (Aew hy),of_decide_eq_true (jar.1 hfree y hy)⟩
    generalize R.takeWhile (λy=>decide (0<Ad y))=M at hR hM;subst hR;refine .trans ?_ (h.behind [c]);simp only [List.reverse_append,List.reverse_cons,jaq,List.singleton_append,G6];have eM:split soft M.reverse=M.reverse:=Km soft λy hy=>Mp soft (hM y hy).1
    have ex:split soft (x::M.reverse)=pieces soft s ++ (c::M.reverse):=by
     show pieces soft x ++ split soft M.reverse=_
     rw [Auj soft hx,Dy.1 hc,eM,jaq];rfl
    have es:split soft (s::M.reverse)=pieces soft s ++ M.reverse:=by
     show pieces soft s ++ split soft M.reverse=_
     rw [eM]
    rw [ex,es,jaq];exact ((Aag hM).ahead _).ahead _
   ·exact plain
  ·exact plain
theorem Adg (soft:Bool):∀ (l R p:List Int),(∀ c ∈ l,whole soft c=true)->Sim (split soft R.reverse) p->Sim (split soft (l.foldl step R).reverse) (p ++ l)
 | [],R,p,_,h=>by simpa using h
 | c::l,R,p,hl,h=>by
  have:=Adg soft l (step R c) (p ++ [c]) (λy hy=>hl y (by simp [hy])) (A10 soft R p c (hl c jS) h);simpa using this
theorem Aji (soft:Bool) {l:List Int} (h:∀ c ∈ l,whole soft c=true):Sim (split soft (join l)) l:=by
 have:=Adg soft l [] [] h (.refl _);exact this
def down (soft:Bool) (l:List Int):List Int:=order (split soft l)
theorem Ar5 {x y:List Int} (h:Sim x y):∀ c,c ∈ x ↔ c ∈ y:=by
 induction h with
 | refl l=>intro c;exact Iff.rfl
 | swap p a b q _ _ _=>intro c;simp only [jap,jal];constructor<;>(rintro (h | h | h | h)<;>simp [h])
 | trans _ _ ih1 ih2=>exact λc=>(ih1 c).trans (ih2 c)
theorem Ry (soft:Bool) (l:List Int):∀ c ∈ down soft l,∃ r ∈ l,c ∈ pieces soft r:=by
 intro c hc;have:=(Ar5 (Ho (split soft l)) c).2 hc;exact List.mem_flatMap.1 this
theorem Qp (soft:Bool) (l:List Int):∀ c ∈ down soft l,whole soft c=true:=λc hc=>by
 obtain ⟨r,-,h⟩:=Ry soft l c hc;exact Ago soft r c h
theorem Ayk (soft:Bool) {x y:List Int} (h:Sim x y):down soft x=down soft y:=Ph (Awi soft h)
theorem Yi (soft:Bool) (l:List Int):order (down soft l)=down soft l:=Akl _
theorem Ate (soft:Bool) (l:List Int):down soft (down soft l)=down soft l:=by
 show order (split soft (down soft l))=_;rw [Km soft (Qp soft l),Yi]
theorem Atf (soft:Bool) (l:List Int):down soft (join (down soft l))=down soft l:=by
 show order (split soft (join (down soft l)))=_;rw [Ph (Aji soft (Qp soft l)),Yi]
end Norm
end
section
namespace Norm
def bub (x:Int):List Int->List Int
 | []=>[x]
 | y::t=>if 0<Ad y/\Ad y<Ad x then y::bub x t else x::bub y t
def pass:List Int->List Int
 | []=>[]
 | x::t=>bub x t
end Norm
end
section
namespace Fold
open Norm
def narrow (r:Int):Int:=if Bp r then r - 65248 else r
def fo (r:Int):Int:=Fx (narrow r)
def Abk (r:Int):Bool:=decide (pieces false (fo r)=((pieces false r).map fo).flatMap (pieces false)) && (pieces false (fo r)).all (λc=>fo c == c) && decide (0<Ad r->fo r=r)
theorem Azz:∀ y ∈ lowers,∀ i ∈ List.range (y.hi - y.lo+1).toNat,Abk (y.lo+i)=true:=by decide +kernel
theorem Apx:∀ y ∈ splits,Abk y.rune=true:=by decide +kernel
theorem Aw8:∀ i ∈ List.range 94,Abk (65281+i)=true:=by decide +kernel
theorem Atv:∀ i ∈ List.range 195,Abk (4352+i)=true/\fo (4352+i)=4352+i:=by decide +kernel
theorem Auf:∀ y ∈ lowers,y.hi<44032\/55203<y.lo:=by decide +kernel
theorem Xc {r:Int} (h:syl r=true):fo r=r:=by
 have h':=(Cp r).1 h;have hn:narrow r=r:=by unfold narrow Bp;rw [if_neg];simp;omega
 unfold fo;rw [hn];unfold Fx;cases hl:Mn r with
 | none=>rfl
 | some y =>
  obtain ⟨h1,h2,h3⟩:=Dm hl;have:=Auf y h1;omega
theorem A3u {c:Int} (h:Abo c=true):fo c=c:=by
 have h':=(Ii c).1 h;have:=(Atv (c - 4352).toNat (by rw [List.mem_range];omega)).2;rwa [show (4352:Int)+((c - 4352).toNat:Int)=c by omega] at this
theorem Xd {l:List Int} (h:∀ c ∈ l,fo c=c):l.map fo=l:=by
 induction l with
 | nil=>rfl
 | cons a l ih=>rw [List.map_cons,h a jS,ih λc hc=>h c (by simp [hc])]
theorem Ay5 (r:Int):Abk r=true:=by
 cases hs:syl r with
 | true =>
  have e:pieces false r=C9 r:=by rw [Ba,hs];rfl
  have hj:=λc hc=>A3u (Ok hs c hc);unfold Abk;rw [Xc hs,e,Xd hj,Pu false λc hc=>Jt (Ok hs c hc) false];simp only [jag,decide_eq_true_eq,jar,beq_iff_eq];exact ⟨⟨trivial,hj⟩,λ_=>trivial⟩
 | false =>
  cases hw:Bp r with
  | true =>
   simp only [Bp,jag,decide_eq_true_eq] at hw;have:=Aw8 (r - 65281).toNat (by rw [List.mem_range];omega);rwa [show (65281:Int)+((r - 65281).toNat:Int)=r by omega] at this
  | false =>
   cases hp:Ak r with
   | some y =>
    rcases Bn hp with ⟨hy,rfl⟩ | ⟨hw',-⟩
    ·exact Apx y hy
    ·rw [hw] at hw';cases hw'
   | none =>
    have hn:narrow r=r:=by unfold narrow;rw [hw];rfl
    cases hl:Mn r with
    | some y =>
     obtain ⟨h1,h2,h3⟩:=Dm hl;have:=Azz y h1 (r - y.lo).toNat (by rw [List.mem_range];omega);rwa [show y.lo+((r - y.lo).toNat:Int)=r by omega] at this
    | none =>
     have e:pieces false r=[r]:=by rw [Ba,hs,hp];rfl
     have hf:fo r=r:=by unfold fo Fx;rw [hn,hl]
     unfold Abk;rw [hf,e];simp [hf,e]
theorem Atl (r:Int):pieces false (fo r)=((pieces false r).map fo).flatMap (pieces false):=by
 have:=Ay5 r;simp only [Abk,jag,decide_eq_true_eq] at this;exact this.1.1
theorem A54 (r:Int):∀ c ∈ pieces false (fo r),fo c=c:=by
 have:=Ay5 r;simp only [Abk,jag,jar,beq_iff_eq] at this;exact this.1.2
theorem Are {r:Int} (h:0<Ad r):fo r=r:=by
 have:=Ay5 r;simp only [Abk,jag,decide_eq_true_eq] at this;exact this.2 h
theorem Aao (l:List Int):split false (l.map fo)=split false ((split false l).map fo):=by
 induction l with
 | nil=>rfl
 | cons r l ih =>
  show pieces false (fo r) ++ split false (l.map fo)=split false ((pieces false r ++ split false l).map fo)
  rw [List.map_append,G6,ih,Atl];rfl
theorem A6j {x y:List Int} (h:Sim x y):Sim (x.map fo) (y.map fo):=by
 induction h with
 | refl l=>exact .refl _
 | swap p a b q h1 h2 h3 =>
  simp only [List.map_append,List.map_cons,Are h1,Are h2];exact .swap _ a b _ h1 h2 h3
 | trans _ _ ih1 ih2=>exact .trans ih1 ih2
theorem A3c (l:List Int):down false (l.map fo)=down false ((down false l).map fo):=by
 have h1:down false (l.map fo)=down false ((split false l).map fo):=by
  show order (split false (l.map fo))=order (split false ((split false l).map fo));rw [Aao]
 rw [h1];exact Ayk false (A6j (Ho (split false l)))
def fold (l:List Int):List Int:=join (down false (l.map fo))
theorem Ac0 (l:List Int):down false (fold l)=down false (l.map fo):=Atf false _
theorem Ai6 (l:List Int):∀ c ∈ down false (l.map fo),fo c=c:=by
 intro c hc;obtain ⟨r,hr,hcr⟩:=Ry false _ c hc;obtain ⟨q,-,rfl⟩:=List.mem_map.1 hr;exact A54 q c hcr
theorem Le (l:List Int):fold (fold l)=fold l:=by
 show join (down false ((fold l).map fo))=join (down false (l.map fo));rw [A3c,Ac0,Xd (Ai6 l),Ate]
theorem A0c (l:List Int):join (down false (fold l))=fold l:=by rw [Ac0];rfl
theorem Auv:∀ y ∈ splits,fo y.one=y.one->fo y.two=y.two->fo y.rune=y.rune:=by decide +kernel
theorem Aui {a b x:Int} (h:D8 a b=some x) (ha:fo a=a) (hb:fo b=b):fo x=x:=by
 unfold D8 at h;split at h
 ·obtain rfl:=Option.some.inj h;exact Xc ((Cp _).2 jO)
 ·split at h
  ·rename_i h2
   obtain rfl:=Option.some.inj h;have:=(Cp a).1 h2.1;exact Xc ((Cp _).2 jO)
  ·obtain ⟨y,hy,rfl,rfl,ho⟩:=F8 h;rcases Bn hy with ⟨h1,rfl⟩ | ⟨-,rfl⟩
   · exact Auv y h1 ha hb
   · cases ho
theorem A1z {R:List Int} {c:Int} (hR:∀ y ∈ R,fo y=y) (hc:fo c=c):∀ y ∈ step R c,fo y=y:=by
 have plain:∀ y ∈ c::R,fo y=y:=λy hy=>by
  rcases jal.1 hy with rfl | hy
  ·exact hc
  ·exact hR y hy
 unfold step;split
 ·exact plain
 ·rename_i s A hA
  have hin:∀ y ∈ s::A,fo y=y:=λy hy=>hR y ((List.dropWhile_sublist (λy=>decide (0<Ad y))).subset (by rw [hA];exact hy));split
  ·split
   ·rename_i x hx
    intro y hy;rw [jap,jal] at hy;rcases hy with hy | rfl | hy
    · exact hR y ((List.takeWhile_sublist _).subset hy)
    · exact Aui hx (hin s jS) hc
    · exact hin y (by simp [hy])
   ·exact plain
  ·exact plain
theorem Ajh:∀ (l R:List Int),(∀ y ∈ l,fo y=y)->(∀ y ∈ R,fo y=y)->∀ y ∈ l.foldl step R,fo y=y
 | [],_,_,hR=>hR
 | c::l,R,hl,hR=>Ajh l (step R c) (λy hy=>hl y (by simp [hy])) (A1z hR (hl c jS))
theorem Sd (l:List Int):∀ c ∈ fold l,fo c=c:=by
 intro c hc;unfold fold join at hc;rw [List.mem_reverse] at hc;exact Ajh _ [] (Ai6 l) (λy hy=>by cases hy) c hc
end Fold
end
section
namespace Norm
def Eb (l:List Int):Prop:=∀ c ∈ l,0<=c/\c<128
def Ou (c:Int):Bool:=whole false c && whole true c && decide (Ad c=0) && decide (Fold.fo c=if 65<=c/\c<=90 then c+32 else c)
theorem Apm:∀ i ∈ List.range 128,Ou (i:Nat)=true:=by decide +kernel
theorem Rk {c:Int} (h:0<=c/\c<128):Ou c=true:=by
 have:=Apm c.toNat (by rw [List.mem_range];omega);rwa [show ((c.toNat:Nat):Int)=c by omega] at this
theorem Kd {c:Int} (h:0<=c/\c<128) (soft:Bool):whole soft c=true:=by
 have:=Rk h;simp only [Ou,jag] at this;cases soft
 · exact this.1.1.1
 · exact this.1.1.2
theorem Ace {c:Int} (h:0<=c/\c<128):Ad c=0:=by
 have:=Rk h;simp only [Ou,jag,decide_eq_true_eq] at this;exact this.1.2
theorem Rj {c:Int} (h:0<=c/\c<128):Fold.fo c=if 65<=c/\c<=90 then c+32 else c:=by
 have:=Rk h;simp only [Ou,jag,decide_eq_true_eq] at this;exact this.2
theorem We:∀ {l:List Int},(∀ c ∈ l,Ad c=0)->sorted l=true
 | [],_=>rfl
 | [_],_=>rfl
 | x::y::l,h=>by
  have ih:sorted (y::l)=true:=We λc hc=>h c (by simp [hc]);unfold sorted;rw [jag];refine ⟨?_,ih⟩;simp [h y jS]
theorem Amr (soft:Bool) {l:List Int} (h:Eb l):down soft l=l:=by
 show order (split soft l)=l;rw [Km soft λc hc=>Kd (h c hc) soft];exact Mv (We λc hc=>Ace (h c hc))
theorem A1f:∀ y ∈ splits,y.soft=false->y.out=false->768<=y.two:=by decide +kernel
theorem Amt {a b:Int} (ha:0<=a/\a<128) (hb:0<=b/\b<128):D8 a b=none:=by
 unfold D8;rw [if_neg jO,if_neg (λh=>by have:=(Cp a).1 h.1;omega)];cases hp:Gv a b with
 | none=>rfl
 | some z =>
  obtain ⟨y,hy,-,h2,ho⟩:=F8 hp;obtain ⟨-,-,h4⟩:=Q5 hy ho;rcases Bn hy with ⟨h1,-⟩ | ⟨-,rfl⟩
  ·have:=A1f y h1 h4 ho;omega
  ·cases ho
theorem Amu {R:List Int} {c:Int} (hR:Eb R) (hc:0<=c/\c<128):step R c=c::R:=by
 cases R with
 | nil=>rfl
 | cons s A =>
  have hs:¬ 0<Ad s:=by rw [Ace (hR s jS)];omega
  unfold step;simp only [List.dropWhile_cons,List.takeWhile_cons,hs,decide_false,Bool.false_eq_true,if_false,List.all_nil,if_true,Amt (hR s jS) hc]
theorem Qf:∀ (l R:List Int),Eb l->Eb R->l.foldl step R=l.reverse ++ R
 | [],_,_,_=>rfl
 | c::l,R,hl,hR=>by
  have hc:=hl c jS;rw [List.foldl_cons,Amu hR hc,Qf l (c::R) (λy hy=>hl y (by simp [hy])) (λy hy=>by
   rcases jal.1 hy with rfl | hy
   · exact hc
   · exact hR y hy)]
  simp
theorem Ams {l:List Int} (h:Eb l):join l=l:=by
 unfold join Aje;rw [Qf l [] h (λy hy=>by cases hy)];simp
theorem Fu {l:List Int} (h:Eb l):Fold.fold l=l.map λc=>if 65<=c/\c<=90 then c+32 else c:=by
 have e:l.map Fold.fo=l.map λc=>if 65<=c/\c<=90 then c+32 else c:=List.map_congr_left λc hc=>Rj (h c hc);have ha:Eb (l.map λc=>if 65<=c/\c<=90 then c+32 else c):=by
  intro c hc;obtain ⟨d,hd,rfl⟩:=List.mem_map.1 hc;have:=h d hd;split<;>omega
 unfold Fold.fold;rw [e,Amr false ha,Ams ha]
end Norm
end
section
namespace Norm
theorem Xw {L M:List Int} (hl:L.length=M.length) (h:∀ i,i<L.length->L[i]! = M[i]!):L=M:=by
 refine List.ext_getElem hl λi h1 h2=>?_;have:=h i h1;rwa [getElem!_pos L i h1,getElem!_pos M i h2] at this
theorem Dk {p q:List Int} {i:Nat} (h:i<p.length):(p ++ q)[i]! = p[i]!:=by
 rw [getElem!_pos (p ++ q) i (by rw [jab];omega),getElem!_pos p i h,List.getElem_append_left h]
theorem C5 {p q:List Int} {i:Nat} (h:p.length<=i):(p ++ q)[i]! = q[i - p.length]!:=by
 simp only [List.getElem!_eq_getElem?_getD,List.getElem?_append_right h]
theorem Gd {L:List Int} {n i:Nat} (h:i<n):(L.take n)[i]! = L[i]!:=by
 simp only [List.getElem!_eq_getElem?_getD,List.getElem?_take_of_lt h]
theorem Gc (L:List Int) (n i:Nat):(L.drop n)[i]! = L[n+i]!:=by
 simp only [List.getElem!_eq_getElem?_getD,List.getElem?_drop]
theorem Ro (L:List Int) (k i:Nat) (x:Int) (h:k<L.length):(L.set k x)[i]! = if i=k then x else L[i]!:=by
 simp only [List.getElem!_eq_getElem?_getD,List.getElem?_set];by_cases e:i=k
 · subst e;simp [h]
 · rw [if_neg (λh=>e h.symm),if_neg e]
theorem Ahy {L:List Int} {x:Int} (h:x ∈ L):∃ i,i<L.length/\L[i]! = x:=by
 obtain ⟨i,hi,rfl⟩:=List.mem_iff_getElem.1 h;exact ⟨i,hi,getElem!_pos L i hi⟩
def Up (L:List Int) (a b:Nat):Prop:=∀ i j,a<=i->i<j->j<b->Ad L[i]!<=Ad L[j]!
theorem Up.part {L:List Int} {a b a' b':Nat} (h:Up L a b) (h1:a<=a') (h2:b'<=b):Up L a' b':=λi j hi hij hj=>h i j jO hij jO
theorem Up.le {L:List Int} {a b:Nat} (h:Up L a b) {i j:Nat} (hi:a<=i) (hij:i<=j) (hj:j<b):Ad L[i]!<=Ad L[j]!:=by
 rcases Nat.lt_or_eq_of_le hij with h1 | rfl
 · exact h i j hi h1 hj
 · exact Int.le_refl _
theorem Up.small {L:List Int} {a b:Nat} (h:b<=a+1):Up L a b:=λi j _ _ _=>by omega
theorem Up.same {L M:List Int} {a b:Nat} (h:Up L a b) (e:∀ i,a<=i->i<b->M[i]! = L[i]!):Up M a b:=λi j hi hij hj=>by
 rw [e i hi jO,e j jO hj];exact h i j hi hij hj
structure Ar (a b:Nat) (L M:List Int):Prop where
 len:M.length=L.length
 out:∀ i,i<a\/b<=i->M[i]! = L[i]!
 inn:∀ i,a<=i->i<b->∃ j,a<=j/\j<b/\M[i]! = L[j]!
 sim:(∀ i,a<=i->i<b->0<Ad L[i]!)->Sim L M
theorem Ar.refl (a b:Nat) (L:List Int):Ar a b L L:=⟨rfl,λ_ _=>rfl,λi h1 h2=>⟨i,h1,h2,rfl⟩,λ_=>.refl _⟩
theorem Ar.trans {a b:Nat} {L M N:List Int} (h:Ar a b L M) (k:Ar a b M N):Ar a b L N:=by
 refine ⟨k.len.trans h.len,λi hi=>(k.out i hi).trans (h.out i hi),λi h1 h2=>?_,λhm=>?_⟩
 ·obtain ⟨j,h3,h4,e⟩:=k.inn i h1 h2;obtain ⟨j',h5,h6,e'⟩:=h.inn j h3 h4;exact ⟨j',h5,h6,e.trans e'⟩
 ·refine .trans (h.sim hm) (k.sim λi h1 h2=>?_);obtain ⟨j,h3,h4,e⟩:=h.inn i h1 h2;rw [e];exact hm j h3 h4
theorem Ar.mono {a b a' b':Nat} {L M:List Int} (h:Ar a b L M) (h1:a'<=a) (h2:b<=b'):Ar a' b' L M:=by
 refine ⟨h.len,λi hi=>h.out i jO,λi h3 h4=>?_,λhm=>h.sim λi h3 h4=>hm i jO jO⟩;by_cases hi:a<=i/\i<b
 ·obtain ⟨j,h5,h6,e⟩:=h.inn i hi.1 hi.2;exact ⟨j,by omega,by omega,e⟩
 ·exact ⟨i,h3,h4,h.out i jO⟩
theorem Ar.all {a b:Nat} {L M:List Int} (h:Ar a b L M) {p:Int->Prop} (hp:∀ i,a<=i->i<b->p L[i]!):∀ i,a<=i->i<b->p M[i]!:=λi h1 h2=>by
 obtain ⟨j,h3,h4,e⟩:=h.inn i h1 h2;rw [e];exact hp j h3 h4
def Gb (L:List Int) (k:Nat):List Int:=(L.set k L[k+1]!).set (k+1) L[k]!
theorem Aax (L:List Int) (k:Nat):(Gb L k).length=L.length:=by unfold Gb;simp
theorem Jk (L:List Int) (k i:Nat) (h:k+1<L.length):(Gb L k)[i]! = if i=k+1 then L[k]! else if i=k then L[k+1]! else L[i]!:=by
 unfold Gb;rw [Ro _ _ _ _ (by rw [List.length_set];exact h),Ro _ _ _ _ jO]
theorem Aq5 (L:List Int) (k:Nat) (h:k+1<L.length):L=L.take k ++ L[k]!::L[k+1]!::L.drop (k+2):=by
 rw [getElem!_pos L k jO,getElem!_pos L (k+1) h,<- List.drop_eq_getElem_cons h,<- List.drop_eq_getElem_cons jO,List.take_append_drop]
theorem A4v (L:List Int) (k:Nat) (h:k+1<L.length):Gb L k=L.take k ++ L[k+1]!::L[k]!::L.drop (k+2):=by
 have e:=Aq5 L k h;have hk:(L.take k).length=k:=by rw [jak];omega
 unfold Gb;generalize L[k]! = x at e ⊢;generalize L[k+1]! = y at e ⊢;generalize L.take k=p at e hk ⊢;generalize L.drop (k+2)=q at e ⊢;subst e hk;rw [List.set_append_right _ _ (jaa _),List.set_append_right _ _ jO,Nat.sub_self,show p.length+1 - p.length=1 by omega];rfl
theorem Ar.Gb {a b k:Nat} (L:List Int) (h1:a<=k) (h2:k+1<b) (h3:b<=L.length) (hc:Ad L[k+1]!<Ad L[k]!):Ar a b L (Gb L k):=by
 refine ⟨Aax _ _,λi hi=>?_,λi h4 h5=>?_,λhm=>?_⟩
 ·rw [Jk _ _ _ jO,if_neg jO,if_neg jO]
 ·rw [Jk _ _ _ jO];by_cases e1:i=k+1
  ·rw [if_pos e1];exact ⟨k,by omega,by omega,rfl⟩
  ·rw [if_neg e1];by_cases e2:i=k
   · rw [if_pos e2];exact ⟨k+1,by omega,by omega,rfl⟩
   · rw [if_neg e2];exact ⟨i,h4,h5,rfl⟩
 ·rw [A4v L k jO];have h:=Sim.swap (L.take k) L[k]! L[k+1]! (L.drop (k+2)) (hm k h1 jO) (hm (k+1) jO h2) jO;rwa [<- Aq5 L k jO] at h
structure Rot (a m b:Nat) (L M:List Int):Prop where
 len:M.length=L.length
 fst:∀ i,a<=i->i<a+(b - m)->M[i]! = L[i+(m - a)]!
 snd:∀ i,a+(b - m)<=i->i<b->M[i]! = L[i - (b - m)]!
 out:∀ i,i<a\/b<=i->M[i]! = L[i]!
theorem Rot.none {a m b:Nat} (L:List Int) (h1:a<=m) (h2:m<=b) (h:a=m\/m=b):Rot a m b L L:=by
 refine ⟨rfl,λi h3 h4=>?_,λi h3 h4=>?_,λ_ _=>rfl⟩
 ·rcases h with rfl | rfl
  · rw [show i+(a - a)=i by omega]
  · omega
 ·rcases h with rfl | rfl
  · omega
  · rw [show i - (m - m)=i by omega]
theorem Aeh:∀ {X Y:List Int},(∀ x ∈ X,∀ y ∈ Y,0<Ad y/\Ad y<Ad x)->Sim (X ++ Y) (Y ++ X)
 | [],Y,_=>by rw [List.append_nil];exact .refl _
 | x::X,Y,h=>by
  have h1:Sim (X ++ Y) (Y ++ X):=Aeh λz hz y hy=>h z (by simp [hz]) y hy;have h2:Sim (x::Y) (Y ++ [x]):=Aag λy hy=>h x jS y hy;have h3:=h2.behind X;rw [jaq] at h3;exact .trans (h1.ahead [x]) h3
theorem Rot.A6z {a m b:Nat} {L M:List Int} (h:Rot a m b L M) (h1:a<=m) (h2:m<=b) (h3:b<=L.length) (hc:∀ i j,a<=i->i<m->m<=j->j<b->Ad L[j]!<Ad L[i]!):Ar a b L M:=by
 refine ⟨h.len,h.out,λi h4 h5=>?_,λhm=>?_⟩
 ·by_cases hi:i<a+(b - m)
  ·exact ⟨i+(m - a),by omega,by omega,h.fst i h4 hi⟩
  ·exact ⟨i - (b - m),by omega,by omega,h.snd i jO h5⟩
 ·have l1:(L.take a).length=a:=by rw [jak];omega
  have l2:((L.take m).drop a).length=m - a:=by rw [jaj,jak];omega
  have l3:((L.take b).drop m).length=b - m:=by rw [jaj,jak];omega
  have b2:∀ i,i<m - a->((L.take m).drop a)[i]! = L[a+i]!:=λi hi=>by rw [Gc,Gd jO]
  have b3:∀ i,i<b - m->((L.take b).drop m)[i]! = L[m+i]!:=λi hi=>by rw [Gc,Gd jO]
  have eL:L=L.take a ++ (((L.take m).drop a ++ (L.take b).drop m) ++ L.drop b):=by
   refine Xw (by simp only [jab,jaj,l1,l2,l3];omega) λi hi=>?_;by_cases i1:i<a
   ·rw [Dk jO,Gd i1]
   rw [C5 jO,l1];by_cases i2:i<m
   ·rw [Dk (by simp only [jab,l2,l3];omega),Dk jO,b2 _ jO,show a+(i - a)=i by omega]
   by_cases i3:i<b
   ·rw [Dk (by simp only [jab,l2,l3];omega),C5 jO,l2,b3 _ jO,show m+(i - a - (m - a))=i by omega]
   rw [C5 (by simp only [jab,l2,l3];omega),Gc,jab,l2,l3,show b+(i - a - (m - a+(b - m)))=i by omega]
  have eM:M=L.take a ++ (((L.take b).drop m ++ (L.take m).drop a) ++ L.drop b):=by
   refine Xw (by rw [h.len];simp only [jab,jaj,l1,l2,l3];omega) λi hi=>?_;by_cases i1:i<a
   ·rw [Dk jO,Gd i1];exact h.out i (.inl i1)
   rw [C5 jO,l1];by_cases i2:i<a+(b - m)
   ·rw [Dk (by simp only [jab,l2,l3];omega),Dk jO,b3 _ jO,h.fst i jO i2];congr 1;omega
   by_cases i3:i<b
   ·rw [Dk (by simp only [jab,l2,l3];omega),C5 jO,l3,b2 _ jO,h.snd i jO i3];congr 1;omega
   rw [C5 (by simp only [jab,l2,l3];omega),Gc,jab,l2,l3,h.out i (.inr jO)];congr 1;omega
  have hS:Sim ((L.take m).drop a ++ (L.take b).drop m) ((L.take b).drop m ++ (L.take m).drop a):=by
   refine Aeh λx hx y hy=>?_;obtain ⟨i,hi,rfl⟩:=Ahy hx;obtain ⟨j,hj,rfl⟩:=Ahy hy;rw [b2 i jO,b3 j jO];exact ⟨hm _ jO jO,hc _ _ jO jO jO jO⟩
  have:=(hS.behind (L.drop b)).ahead (L.take a);rw [<- eL,<- eM] at this;exact this
theorem Rot.Hj {a m b mid s e:Nat} {L M:List Int} (h:Rot s m e L M) (h1:a<=s) (h2:s<=m) (h3:m<=e) (h4:e<=b) (hse:s+e=mid+m) (u1:Up L a m) (u2:Up L m b) :
  Up M a s/\Up M s mid/\Up M mid e/\Up M e b:=by
 refine ⟨λi j hi hij hj=>?_,λi j hi hij hj=>?_,λi j hi hij hj=>?_,λi j hi hij hj=>?_⟩
 ·rw [h.out i jO,h.out j jO];exact u1 i j hi hij jO
 ·rw [h.fst i hi jO,h.fst j jO jO];exact u2 _ _ jO jO jO
 ·rw [h.snd i jO jO,h.snd j jO hj];exact u1 _ _ jO jO jO
 ·rw [h.out i jO,h.out j jO];exact u2 i j jO hij hj
theorem merged {a m b mid s e:Nat} {L L1 L2 L3:List Int} (h1:a<=s) (h2:s<=m) (h3:m<=e) (h4:e<=b) (hse:s+e=mid+m) (hm1:s<=mid) (hb:b<=L.length) (u1:Up L a m) (u2:Up L m b)
  (hlo:∀ c d,a<=c->c<s->e<=d->d<b->Ad L[c]!<=Ad L[d]!)
  (hhi:∀ i j,s<=i->i<m->m<=j->j<e->Ad L[j]!<Ad L[i]!)
  (hR:Rot s m e L L1) (k2:Ar a mid L1 L2) (v2:Up L2 a mid) (k3:Ar mid b L2 L3) (v3:Up L3 mid b):Ar a b L L3/\Up L3 a b:=by
 refine ⟨(((hR.A6z h2 h3 jO hhi).mono h1 h4).trans (k2.mono (jaa _) jO)).trans (k3.mono jO (jaa _)),λi j hi hij hj=>?_⟩;by_cases c1:j<mid
 ·rw [k3.out i jO,k3.out j jO];exact v2 i j hi hij c1
 by_cases c2:mid<=i
 ·exact v3 i j c2 hij hj
 rw [k3.out i jO];obtain ⟨i',a1,a2,ei⟩:=k2.inn i hi jO;obtain ⟨j',b1,b2,ej⟩:=k3.inn j jO hj;rw [ei,ej,k2.out j' jO];by_cases d1:i'<s
 ·rw [hR.out i' jO];by_cases d2:j'<e
  · rw [hR.snd j' jO d2];exact u1 _ _ jO jO jO
  · rw [hR.out j' jO];exact hlo _ _ jO d1 jO b2
 ·rw [hR.fst i' jO jO];by_cases d2:j'<e
  · rw [hR.snd j' jO d2];exact Int.le_of_lt (hhi _ _ jO jO jO jO)
  · rw [hR.out j' jO];exact u2 _ _ jO jO b2
end Norm
end
