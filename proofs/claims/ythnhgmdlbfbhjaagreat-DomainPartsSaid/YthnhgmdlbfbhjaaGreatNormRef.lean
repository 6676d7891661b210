import Derived.Test.YthnhgmdlbfbhjaaGreatUcdAll
import Derived.Test.YthnhgmdlbfbhjaaGreatPlainA
import Derived.Test.YthnhgmdlbfbhjaaGreatUtfB
set_option maxRecDepth 100000
set_option maxHeartbeats 4000000
namespace Go.Proofs.YthnhgmdlbfbhjaaGreat
open Tryz
section
open Go.RowKit Utf
def Bh (l:List Int) (w:World) (e:Ending) (w':World):Prop:=∃ v,e=.returned v/\Ai w.heap.size v l w'/\Below w.heap.size w w'
theorem Ig (r:Int) (w:World):Calls prog 153 #[.int .i32 r] w λe w'=>e=.returned (.bool (Norm.syl r))/\w=w':=by
 rcases (show r<44032\/(44032<=r/\r<=55203)\/55203<r by omega) with h | ⟨h1,h2⟩ | h
 ·rw [show Norm.syl r=false by unfold Norm.syl;rw [decide_eq_false jO];rfl];go_enter func153,ntmps153;go_wp2;go_ret;exact ⟨rfl,rfl⟩
 ·rw [(Norm.Br r).2 ⟨h1,h2⟩];go_enter func153,ntmps153;go_wp2;go_ret;exact ⟨rfl,rfl⟩
 ·have h1:44032<=r:=jO
  rw [show Norm.syl r=false by unfold Norm.syl;rw [decide_eq_true h1,decide_eq_false jO];rfl];have e1:decide (r<=55203)=false:=by simp;omega
  go_enter func153,ntmps153;go_wp2;go_ret;exact ⟨rfl,rfl⟩
theorem Aoc (soft:Bool) (r:Int) (w:World) (h:Norm.syl r=true):Calls prog 105 #[.int .i32 r,.bool soft] w (Bh (Norm.pieces soft r) w):=by
 have hS:=λW=>Ig r W;rw [h] at hS;have HS:=jH hS;have e:Norm.pieces soft r=Norm.Cn r:=by rw [Norm.Ax,h];rfl
 obtain ⟨h1,h2⟩:=(Norm.Br r).1 h;rw [e];clear hS e h;have H:=jH (show Norm.Cn r=[4352+(r - 44032) / 588,4449+(r - 44032) % 588 / 28] ++ (if (r - 44032) % 28=0 then [] else [4519+(r - 44032) % 28]) from rfl);by_cases h0:(r - 44032) % 28=0
 ·have h0':((r - 44032) % 28 != 0)=false:=by simpa using h0
  have H0:=jH h0;clear h0;go_enter func105,ntmps105;go_wp2_with fail;refine (HS.out _).mono ?_;rintro e w1 ⟨rfl,rfl⟩;go_wp2;go_ret;refine ⟨_,rfl,?_,Ac _ _⟩;rw [H.out,if_pos H0.out];exact Vr w _ (jaa _) [4352+(r - 44032) / 588,4449+(r - 44032) % 588 / 28] jS
 ·have h0':((r - 44032) % 28 != 0)=true:=by simpa using h0
  have H0:=jH h0;have OW:=jH (Vr w w.heap.size (jaa _) [4352+(r - 44032) / 588,4449+(r - 44032) % 588 / 28] jS);clear h0;go_enter func105,ntmps105;go_wp2_with fail;refine (HS.out _).mono ?_;rintro e w1 ⟨rfl,rfl⟩;go_wp2_with (at_builtin;refine Tf (w.alloc _) 56 21 (.int .i32 0) 4 underlying56 Am rfl jO w.heap.size _ _ _ OW.out jS jS 1 jO _ rfl rfl _ jS rfl _ _ rfl rfl rfl ?_;intro v2 w2 ho2 hb2;have HO:=jH ho2;have HB:=jH hb2;clear ho2 hb2);go_ret;refine ⟨_,rfl,?_,(Ac w _).trans HB.out⟩;rw [H.out,if_neg H0.out];exact Ai.more HO.out rfl rfl
theorem Sq {soft:Bool} {r:Int} (h:Norm.syl r=false) (hs:∀ y,Aj r=some y->y.soft=true/\soft=false):Norm.pieces soft r=[r]:=by
 rw [Norm.Ax,h];cases e:Aj r with
 | none=>rfl
 | some y =>
  obtain ⟨h1,h2⟩:=hs y e;simp only [h1,h2];rfl
theorem Yj {soft:Bool} {r:Int} {y:Sp} (h:Norm.syl r=false) (hs:Aj r=some y) (hn:(y.soft && !soft)=false):Norm.pieces soft r=Norm.pieces soft y.one ++ (if y.two=0 then [] else Norm.pieces soft y.two):=by
 rw [Norm.Ax,h,hs];simp only [hn];rfl
theorem Acd (soft:Bool) (r:Int) (w:World) (h:Norm.syl r=false) (hs:∀ y,Aj r=some y->y.soft=true/\soft=false):Calls prog 105 #[.int .i32 r,.bool soft] w (Bh (Norm.pieces soft r) w):=by
 have hS:=λW=>Ig r W;rw [h] at hS;have HS:=jH hS;rw [Sq h hs];have hR:=λW=>La r W;cases ho:Aj r with
 | none =>
  rw [ho] at hR;have HR:=jH hR;clear hS h hs hR ho;go_enter func105,ntmps105;go_wp2_with fail;refine (HS.out _).mono ?_;rintro e w1 ⟨rfl,rfl⟩;go_wp2_with fail;refine (HR.out _).mono ?_;rintro e w2 ⟨rfl,hb2⟩;have B2:=jH hb2;clear hb2;simp only [Option.getD_none,Option.isSome_none,Ew];go_wp2;go_ret;exact ⟨_,rfl,Sn _ _ _ jS (by simp;have:=B2.out.size;omega) [r] jS,Al (Al B2.out (jaa _) _) (jaa _) _⟩
 | some y =>
  obtain ⟨h1,rfl⟩:=hs y ho;rw [ho] at hR;obtain ⟨v0,v1,v2,v3,v4⟩:=y;simp only at h1;subst h1;have HR:=jH hR;clear hS h hs hR ho;go_enter func105,ntmps105;go_wp2_with fail;refine (HS.out _).mono ?_;rintro e w1 ⟨rfl,rfl⟩;go_wp2_with fail;refine (HR.out _).mono ?_;rintro e w2 ⟨rfl,hb2⟩;have B2:=jH hb2;clear hb2;simp only [Option.getD_some,Option.isSome_some,Ew];go_wp2;go_ret;exact ⟨_,rfl,Sn _ _ _ jS (by simp;have:=B2.out.size;omega) [r] jS,Al (Al B2.out (jaa _) _) (jaa _) _⟩
theorem Yy (w:World) (v0 v1 v2:Int) (v3 v4:Bool) {w1:World} (hb:Below (w.alloc (.cells #[.int .i32 v0,.int .i32 v1,.int .i32 v2,.bool v3,.bool v4] 69)).heap.size (w.alloc (.cells #[.int .i32 v0,.int .i32 v1,.int .i32 v2,.bool v3,.bool v4] 69)) w1) :
 w1.cell? ⟨w.heap.size,2,none⟩=some (.int .i32 v2):=(hb.cell (p:=⟨w.heap.size,2,none⟩) (show w.heap.size<_ by simp)).trans jS
theorem Aqe (soft:Bool) (r:Int) (y:Sp) (w:World) (h:Norm.syl r=false) (hs:Aj r=some y) (hn:(y.soft && !soft)=false) (hp:(Norm.pieces soft y.one).length<=100/\(Norm.pieces soft y.two).length<=100)
  (H1:∀ W,Calls prog 105 #[.int .i32 y.one,.bool soft] W (Bh (Norm.pieces soft y.one) W))
  (H2:∀ W,Calls prog 105 #[.int .i32 y.two,.bool soft] W (Bh (Norm.pieces soft y.two) W)) :
  Calls prog 105 #[.int .i32 r,.bool soft] w (Bh (Norm.pieces soft r) w):=by
 have hS:=λW=>Ig r W;rw [h] at hS;have HS:=jH hS;rw [Yj h hs hn];have hR:=λW=>La r W;rw [hs] at hR;obtain ⟨v0,v1,v2,v3,v4⟩:=y;simp only at H1 H2 hn hp ⊢;generalize Norm.pieces soft v1=a at H1 hp ⊢;generalize Norm.pieces soft v2=b at H2 hp ⊢;have HR:=jH hR;have K1:=jH H1;have K2:=jH H2;have HP:=jH hp;clear hS h hs hR H1 H2 hp;by_cases h0:v2=0
 ·rw [if_pos h0];subst h0;cases v3<;>cases soft<;>simp only [Bool.not_true,Bool.not_false,Bool.and_true,Bool.and_false,reduceCtorEq] at hn
  all_goals
   clear hn K2;go_enter func105,ntmps105;go_wp2_with fail;refine (HS.out _).mono ?_;rintro e w1 ⟨rfl,rfl⟩;go_wp2_with fail;refine (HR.out _).mono ?_;rintro e w2 ⟨rfl,hb2⟩;have B2:=jH hb2;clear hb2;simp only [Option.getD_some,Option.isSome_some,Ew];go_wp2_with fail;refine (K1.out _).mono ?_;rintro e w3 ⟨v5,rfl,ho3,hb3⟩;have c2:=Yy _ _ _ _ _ _ hb3;have O3:=jH (ho3.lower (base':=w.heap.size) (by simp;have:=B2.out.size;omega));have B3:=jH (Aa (Al B2.out (jaa _) _) hb3);clear ho3 hb3;go_wp2;go_ret;exact ⟨_,rfl,by rw [List.append_nil];exact O3.out,B3.out⟩
 ·rw [if_neg h0];have hne:(v2 != 0)=true:=by simpa using h0
  clear h0;cases v3<;>cases soft<;>simp only [Bool.not_true,Bool.not_false,Bool.and_true,Bool.and_false,reduceCtorEq] at hn
  all_goals
   clear hn;go_enter func105,ntmps105;go_wp2_with fail;refine (HS.out _).mono ?_;rintro e w1 ⟨rfl,rfl⟩;go_wp2_with fail;refine (HR.out _).mono ?_;rintro e w2 ⟨rfl,hb2⟩;have B2:=jH hb2;clear hb2;simp only [Option.getD_some,Option.isSome_some,Ew];go_wp2_with fail;refine (K1.out _).mono ?_;rintro e w3 ⟨v5,rfl,ho3,hb3⟩;have c2:=Yy _ _ _ _ _ _ hb3;have O3:=jH (ho3.lower (base':=w.heap.size) (by simp;have:=B2.out.size;omega));have B3:=jH (Aa (Al B2.out (jaa _) _) hb3);clear ho3 hb3;go_wp2_with fail;refine (K2.out _).mono ?_;rintro e w4 ⟨v6,rfl,ho4,hb4⟩;have O4:=jH (O3.out.Af hb4);have R4:=jH ho4.Fb;have B4:=jH (Aa B3.out hb4);clear ho4 hb4 c2;go_wp2_with (at_builtin;refine Bu w4 56 21 (.int .i32 0) 4 underlying56 Am rfl jO w.heap.size v5 _ _ O4.out B4.out.size (by have:=HP.out;omega) v6 _ R4.out (Cf _) (by rw [jai];have:=HP.out;omega) rfl _ _ rfl rfl rfl ?_;intro v7 w7 ho7 hb7;have O7:=jH ho7;have B7:=jH hb7;clear ho7 hb7);go_ret;exact ⟨_,rfl,Ai.more O7.out rfl (by rw [jai]),B4.out.trans B7.out⟩
theorem Ro:∀ (n:Nat) (soft:Bool) (r:Int),(Norm.one n soft r).length<=3*2 ^ n
 | 0,_,_=>by simp [Norm.one]
 | n+1,soft,r=>by
  unfold Norm.one;have h1:1<=2 ^ n:=Nat.one_le_two_pow;have h2:2 ^ (n+1)=2 ^ n*2:=Nat.pow_succ ..;split
  ·unfold Norm.Cn;split<;>simp<;>omega
  ·split
   ·simp;omega
   ·rename_i x _
    split
    ·simp;omega
    ·have h3:=Ro n soft x.one;have h4:=Ro n soft x.two;rw [jab];split
     · simp;omega
     · omega
theorem Kx (soft:Bool) (r:Int):(Norm.pieces soft r).length<=48:=Ro 4 soft r
def flat (x:Int):Bool:=(Aj x).isNone
def Nr (x:Int):Bool:=match Aj x with | none=>true | some y=>flat y.one && flat y.two
theorem Aja:∀ y ∈ splits,(Nr y.one && Nr y.two)=true:=by decide +kernel
theorem Aj3:∀ i ∈ List.range 94,(Nr (65281+i - 65248) && Nr 0)=true:=by decide +kernel
theorem Lg {x:Int} {y:Sp} (h:Aj x=some y):Nr y.one=true/\Nr y.two=true:=by
 rw [<- jag];rcases Bv h with ⟨hy,rfl⟩ | ⟨hw,rfl⟩
 ·exact Aja y hy
 ·simp only [Bf,jag,decide_eq_true_eq] at hw;have:=Aj3 (x - 65281).toNat (by rw [List.mem_range];omega);rwa [show (65281:Int)+((x - 65281).toNat:Int)=x by omega] at this
theorem Ae3 (soft:Bool) (r:Int) (w:World) (H:∀ y,Aj r=some y->(∀ W,Calls prog 105 #[.int .i32 y.one,.bool soft] W (Bh (Norm.pieces soft y.one) W)) /\
   (∀ W,Calls prog 105 #[.int .i32 y.two,.bool soft] W (Bh (Norm.pieces soft y.two) W))) :
  Calls prog 105 #[.int .i32 r,.bool soft] w (Bh (Norm.pieces soft r) w):=by
 cases hS:Norm.syl r with
 | true=>exact Aoc soft r w hS
 | false =>
  cases hs:Aj r with
  | none=>exact Acd soft r w hS λy hy=>by rw [hs] at hy;cases hy
  | some y =>
   cases hn:(y.soft && !soft) with
   | true =>
    refine Acd soft r w hS λz hz=>?_;rw [hs] at hz;obtain rfl:=Option.some.inj hz;simpa using hn
   | false =>
    obtain ⟨h1,h2⟩:=H y hs;exact Aqe soft r y w hS hs hn ⟨Nat.le_trans (Kx _ _) jO,Nat.le_trans (Kx _ _) jO⟩ h1 h2
theorem Acb (soft:Bool) (r:Int) (h:flat r=true) (w:World):Calls prog 105 #[.int .i32 r,.bool soft] w (Bh (Norm.pieces soft r) w) :=
 Ae3 soft r w λy hy=>by unfold flat at h;rw [hy] at h;cases h
theorem Yi (soft:Bool) (r:Int) (h:Nr r=true) (w:World):Calls prog 105 #[.int .i32 r,.bool soft] w (Bh (Norm.pieces soft r) w) :=
 Ae3 soft r w λy hy=>by
  unfold Nr at h;rw [hy] at h;simp only [jag] at h;exact ⟨Acb soft _ h.1,Acb soft _ h.2⟩
theorem Al8 (soft:Bool) (r:Int) (w:World):Calls prog 105 #[.int .i32 r,.bool soft] w (Bh (Norm.pieces soft r) w) :=
 Ae3 soft r w λ_ hy=>⟨Yi soft _ (Lg hy).1,Yi soft _ (Lg hy).2⟩
theorem Wf (soft:Bool) (l:List Int) (r:Int):Norm.split soft (l ++ [r])=Norm.split soft l ++ Norm.pieces soft r:=by simp [Norm.split]
theorem Acw:∀ y ∈ splits,(Norm.pieces true y.rune).length<=20/\(Norm.pieces false y.rune).length<=20:=by decide +kernel
theorem Am6:∀ i ∈ List.range 94,(Norm.pieces true (65281+i)).length<=20/\(Norm.pieces false (65281+i)).length<=20:=by decide +kernel
theorem Ae8 (soft:Bool) (x:Int):(Norm.pieces soft x).length<=20:=by
 cases ho:Aj x with
 | some y =>
  rcases Bv ho with ⟨h1,rfl⟩ | ⟨h1,-⟩
  ·cases soft
   · exact (Acw y h1).2
   · exact (Acw y h1).1
  ·unfold Bf at h1;rw [jag,decide_eq_true_eq,decide_eq_true_eq] at h1;have h:=Am6 (x - 65281).toNat (List.mem_range.2 jO);rw [show (65281:Int)+((x - 65281).toNat:Nat)=x by omega] at h;cases soft
   · exact h.2
   · exact h.1
 | none =>
  rw [Norm.Ax,ho];split
  ·unfold Norm.Cn;split<;>simp
  ·simp
theorem Nk (soft:Bool) (l:List Int):(Norm.split soft l).length<=20*l.length:=by
 induction l with
 | nil=>simp [Norm.split]
 | cons r l ih =>
  have:=Ae8 soft r;simp only [Norm.split,jao,jab,jac] at ih ⊢;omega
theorem Afq (v:Value) (l:List Int) (soft:Bool) (w:World) (hl:Runes v l w) (hn:l.length<=10000):Calls prog 70 #[v,.bool soft] w (Bh (Norm.split soft l) w):=by
 obtain ⟨A,c,rfl,hc,hcell⟩:=hl.form;have HC:=jH hcell;clear hl hcell;go_enter func70,ntmps70;go_wp2;go_loopg [5,6] (l.length+1) (λgk v i wr=>∃ k:Nat,k<=l.length/\i=.int .i64 k/\l.length - k<gk/\Hid (Ai w.heap.size v (Norm.split soft (l.take k)) wr/\Below w.heap.size w wr))
 case atStart=>exact ⟨0,Nat.zero_le _,rfl,by omega,⟨Ai.nil _ _,jan _ _⟩⟩
 case round =>
  obtain ⟨k,hk,rfl,hg,I⟩:=hrel;by_cases hlt:k<l.length
  ·obtain ⟨ad,rfl,hb,hx⟩:=HC.out k hlt;have hx':=(I.out.2.cell (by rw [Ah];exact hb)).trans hx;obtain ⟨x,hxe⟩:∃ x,x=l[k]!:=⟨_,rfl⟩
   rw [<- hxe] at hx';have HX:=jH hxe;have hB:=Al8 soft x wr;have hle:(Norm.split soft (l.take k)).length<=1000000:=by have:=Nk soft (l.take k);rw [jak] at this;omega
   have hpl:=Kx soft x;clear hx hb hxe;go_wp2_with (first
    | (go_at_call 105;((with_reducible refine hB.mono ?_);rintro e w2 ⟨v2,rfl,hs2,hb2⟩;have HS:=jH hs2.Fb;have HB:=jH hb2;clear hs2 hb2))
    | (at_builtin;refine Bu w2 56 21 (.int .i32 0) 4 underlying56 Am rfl jO w.heap.size u5 _ _ (I.out.1.Af HB.out) (Nat.le_trans I.out.2.size HB.out.size) hle v2 _ HS.out (Cf _) (by rw [jai];omega) rfl _ _ rfl rfl rfl ?_;intro v3 w3 ho3 hb3;have HO:=jH ho3;have HB3:=jH hb3;clear ho3 hb3))
   have I2:Hid (Ai w.heap.size v3 (Norm.split soft (l.take (k+1))) w3/\Below w.heap.size w w3):=by
    refine ⟨?_,(I.out.2.trans (HB.out.mono I.out.2.size)).trans HB3.out⟩;rw [Cy l k hlt,Wf,<- HX.out];exact Ai.more HO.out rfl (by rw [jai])
   go_roundg (l.length - k)
   case measure=>omega
   case rel=>exact ⟨k+1,by omega,by go_num,by omega,I2⟩
  ·obtain rfl:k=l.length:=jO
   go_wp2;go_ret;have h:=I.out.1;rw [List.take_length] at h;exact ⟨_,rfl,h,I.out.2⟩
end
section
open Go.RowKit Utf
namespace Norm
theorem So:∀ (n:Nat) (l:List Int),Hs (n+1) l=pass (Hs n l)
 | 0,_=>rfl
 | n+1,l=>by
  show Hs (n+1) (pass l)=_;rw [So n (pass l)];rfl
theorem Akn {x y:Int} {t:List Int} (h:0<Ab y/\Ab y<Ab x):bub x (y::t)=y::bub x t:=by
 rw [bub,if_pos h]
theorem Apk {x y:Int} {t:List Int} (h:¬ (0<Ab y/\Ab y<Ab x)):bub x (y::t)=x::bub y t:=by
 rw [bub,if_neg h]
theorem Ze (d:List Int) (x:Int) (t:List Int):(d ++ x::t)[d.length]! = x:=by simp
theorem Zf (d:List Int) (x y:Int) (t:List Int):(d ++ x::y::t)[d.length+1]! = y:=by
 have:(d ++ x::y::t)=(d ++ [x]) ++ y::t:=by simp
 rw [this,show d.length+1=(d ++ [x]).length by simp];exact Ze _ _ _
theorem Aol (d:List Int) (x y:Int) (t:List Int):((d ++ x::y::t).set d.length y).set (d.length+1) x=d ++ y::x::t:=by
 rw [List.set_append_right _ _ (jaa _),List.set_append_right _ _ jO,Nat.sub_self,show d.length+1 - d.length=1 by omega];rfl
end Norm
def Aao (L d:List Int) (x:Int) (t:List Int):Prop:=Norm.pass L=d ++ Norm.bub x t/\L.length=d.length+1+t.length
theorem Ae4 (v:Value) (l:List Int) (w:World) (hl:Runes v l w) (hn:l.length<=10000):Calls prog 69 #[v] w (Bh (Norm.order l) w):=by
 have HL:=jH hl;clear hl;go_enter func69,ntmps69;go_wp2_with (at_builtin;refine Bu (w.alloc (.cells #[] 21)) 56 21 (.int .i32 0) 4 underlying56 Am rfl jO w.heap.size _ _ _ (Gu w _ (jaa _)) jS jO _ _ (HL.out.Af (Ac _ _)) (Cf _) (by rw [jai];omega) rfl _ _ rfl rfl rfl ?_;intro v2 w2 ho2 hb2;have hO2:Ai w.heap.size v2 l w2:=(Ai.more (l:=[]) ho2 rfl (by rw [jai]));obtain ⟨A,c,rfl,hA⟩:=hO2.shape;have O2:=jH hO2;have HA:=jH hA;have B2:=jH ((Ac w _).trans hb2);clear ho2 hb2 hO2 hA);go_loopg [4] (l.length+1) (λgk i wr=>∃ n:Nat,n<=l.length/\i=.int .i64 n/\l.length - n<gk/\Hid (Ai w.heap.size (.slice A l.length c) (Norm.Hs n l) wr/\Below w.heap.size w wr))
 case atStart=>exact ⟨0,Nat.zero_le _,rfl,by omega,⟨O2.out,B2.out⟩⟩
 case round =>
  obtain ⟨n,hnl,rfl,hg,I⟩:=hrel;by_cases hlt:n<l.length
  ·obtain ⟨g,rfl,hgb,-⟩:=HA.out jO;have HG:=jH hgb;clear hgb;obtain ⟨L,hL⟩:∃ L,L=Norm.Hs n l:=⟨_,rfl⟩
   have hLl:L.length=l.length:=by rw [hL,Norm.Vu]
   rw [<- hL] at I;have H:=jH hL;have HLl:=jH hLl;have hstart:∃ x t,L=x::t:=by
    cases L with
    | nil=>simp at hLl;omega
    | cons x t=>exact ⟨x,t,rfl⟩
   have HST:=jH hstart;clear hL hLl hstart;go_wp2;go_loopg [5] (l.length+1) (λgk i wr=>∃ (d:List Int) (x:Int) (t:List Int),i=.int .i64 ((d.length:Int)+1)/\t.length<gk/\d.length+1+t.length=l.length/\Hid (Aao L d x t/\Ai w.heap.size (.slice (some ⟨g,0,none⟩) l.length c) (d ++ x::t) wr/\Below w.heap.size w wr))
   case atStart =>
    obtain ⟨x,t,e⟩:=HST.out;have hh:=HLl.out;rw [e] at hh;simp only [jac] at hh;refine ⟨[],x,t,rfl,by omega,by simp;omega,⟨⟨by rw [e];rfl,by rw [e];simp;omega⟩,?_,I.out.2⟩⟩;have:=I.out.1;rw [e] at this;exact this
   case round =>
    obtain ⟨d,x,t,rfl,hgt,hlen,J⟩:=hrel;cases t with
    | nil =>
     have hz:¬ ((d.length:Int)+1<(l.length:Int)):=by simp at hlen;omega
     have hd1:(d ++ [x]).length=l.length:=by simp at hlen ⊢;omega
     have I2:Hid (Ai w.heap.size (.slice (some ⟨g,0,none⟩) l.length c) (Norm.Hs (n+1) l) wr/\Below w.heap.size w wr):=by
      refine ⟨?_,J.out.2.2⟩;rw [Norm.So,<- H.out,J.out.1.1];exact J.out.2.1
     clear J hd1;go_wp2;go_roundg (l.length - n)
     case measure=>omega
     case rel=>exact ⟨n+1,by omega,by go_num,by omega,I2⟩
    | cons y t =>
     have hz:(d.length:Int)+1<(l.length:Int):=by simp at hlen;omega
     have c1:=J.out.2.1.cell d.length jS;have c2:=J.out.2.1.cell (d.length+1) jS;rw [Norm.Ze] at c1;rw [Norm.Zf] at c2;have hbl:=J.out.2.2.size;have k1:=Gg x wr;obtain ⟨a,ha⟩:∃ a,a=Ab x:=⟨_,rfl⟩
     obtain ⟨b,hb⟩:∃ b,b=Ab y:=⟨_,rfl⟩
     rw [<- ha] at k1;have k2:=λW=>Gg y W;rw [<- hb] at k2;have K2:=jH k2;have HAa:=jH ha;have HBb:=jH hb;clear ha hb k2;have hlen':d.length+1+(t.length+1)=l.length:=by simpa using hlen
     go_wp2_with fail;refine k1.mono ?_;rintro e w3 ⟨rfl,hb3⟩;have O3:=jH (J.out.2.1.Af hb3);have B3:=jH (J.out.2.2.trans (hb3.mono J.out.2.2.size));have c3:=O3.out.cell (d.length+1) jS;rw [Norm.Zf] at c3;clear hb3 c1 c2 k1;go_wp2_with fail;refine (K2.out _).mono ?_;rintro e w4 ⟨rfl,hb4⟩;have O4:=jH (O3.out.Af hb4);have B4:=jH (B3.out.trans (hb4.mono B3.out.size));clear hb4 c3 O3 B3;by_cases hsw:0<b/\b<a
     ·obtain ⟨hb0,hba⟩:=hsw;have d1:=O4.out.cell d.length jS;have d2:=O4.out.cell (d.length+1) jS;rw [Norm.Ze] at d1;rw [Norm.Zf] at d2;have f1:=O4.out.free d.length;have f2:=O4.out.free (d.length+1);have hG:Aao L (d ++ [y]) x t:=⟨by rw [J.out.1.1,Norm.Akn (by rw [<- HAa.out,<- HBb.out];exact ⟨hb0,hba⟩),jaq];rfl,by have:=J.out.1.2;simp at this ⊢;omega⟩
      have J2:Hid (Aao L (d ++ [y]) x t/\Ai w.heap.size (.slice (some ⟨g,0,none⟩) l.length c) ((d ++ [y]) ++ x::t) (((w4.setCell ⟨g,d.length,none⟩ (.int .i32 y)).setCell ⟨g,d.length+1,none⟩ (.int .i32 x)).drew)/\Below w.heap.size w (((w4.setCell ⟨g,d.length,none⟩ (.int .i32 y)).setCell ⟨g,d.length+1,none⟩ (.int .i32 x)).drew)):=by
       refine ⟨hG,?_,((B4.out.setCell (p:=⟨g,d.length,none⟩) HG.out _).setCell (p:=⟨g,d.length+1,none⟩) HG.out _).drew⟩;have h:=(O4.out.put d.length y).put (d.length+1) x;rw [Norm.Aol] at h;rw [jaq];exact h
      clear hG J;go_wp2;go_region;go_wp2;go_roundg (t.length+1)
      case measure=>simp at hgt;omega
      case rel=>exact ⟨d ++ [y],x,t,by simp,by omega,by simp;omega,J2⟩
     ·have hG:Aao L (d ++ [x]) y t:=⟨by rw [J.out.1.1,Norm.Apk (by rw [<- HAa.out,<- HBb.out];exact hsw),jaq];rfl,by have:=J.out.1.2;simp at this ⊢;omega⟩
      have J2:Hid (Aao L (d ++ [x]) y t/\Ai w.heap.size (.slice (some ⟨g,0,none⟩) l.length c) ((d ++ [x]) ++ y::t) w4/\Below w.heap.size w w4):=⟨hG,by simpa using O4.out,B4.out⟩
      have hsw':¬ (0<b)\/a<=b:=jO
      clear hG hsw J;by_cases hb0:0<b
      ·have hba:a<=b:=jO
       clear hsw';go_wp2;go_roundg (t.length+1)
       case measure=>simp at hgt;omega
       case rel=>exact ⟨d ++ [x],y,t,by simp,by omega,by simp;omega,J2⟩
      ·have hb1:b<=0:=jO
       clear hsw' hb0;go_wp2;go_roundg (t.length+1)
       case measure=>simp at hgt;omega
       case rel=>exact ⟨d ++ [x],y,t,by simp,by omega,by simp;omega,J2⟩
  ·obtain rfl:n=l.length:=jO
   go_wp2;go_ret;have h:=I.out.1;rw [Norm.Z6] at h;exact ⟨_,rfl,h,I.out.2⟩
end
section
open Go.RowKit Utf
theorem Agx {a b:Int} (h:4352<=a/\a<=4370/\4449<=b/\b<=4469):Norm.Ct a b=some (44032+(a - 4352)*588+(b - 4449)*28):=by
 unfold Norm.Ct;rw [if_pos h]
theorem Aex {a b:Int} (h:44032<=a/\a<=55203/\(a - 44032) % 28=0/\4520<=b/\b<=4546):Norm.Ct a b=some (a+b - 4519):=by
 unfold Norm.Ct;rw [if_neg jO,if_pos ⟨(Norm.Br a).2 ⟨h.1,h.2.1⟩,h.2.2⟩]
theorem Tp {a b:Int} (h1:¬ (4352<=a/\a<=4370/\4449<=b/\b<=4469)) (h2:¬ (44032<=a/\a<=55203/\(a - 44032) % 28=0/\4520<=b/\b<=4546)):Norm.Ct a b=D3 a b:=by
 unfold Norm.Ct;rw [if_neg h1,if_neg λh=>h2 ⟨((Norm.Br a).1 h.1).1,((Norm.Br a).1 h.1).2,h.2⟩]
theorem Aij (a b:Int) (w:World):Calls prog 106 #[.int .i32 a,.int .i32 b] w (Ms (Norm.Ct a b) w):=by
 have hS:=λW=>Ig a W;have hP:=λW=>Acr a b W;have HP:=jH hP;clear hP;cases hsy:Norm.syl a with
 | true =>
  obtain ⟨h1,h2⟩:=(Norm.Br a).1 hsy;rw [hsy] at hS;have HS:=jH hS;clear hS hsy;go_enter func106,ntmps106;go_wp2_with (first
   | (go_at_call 153;refine (HS.out _).mono ?_;rintro e w1 ⟨rfl,rfl⟩)
   | (go_at_call 154;refine (HP.out _).mono ?_;rintro e w1 ⟨rfl,hb1⟩))
  all_goals go_ret2
  all_goals first
   | exact ⟨by rw [Aex jO];rfl,jan _ _⟩
   | exact ⟨by rw [Tp jO jO];rfl,by assumption⟩
 | false =>
  have hno:¬ (44032<=a/\a<=55203):=λh=>by rw [(Norm.Br a).2 h] at hsy;cases hsy
  have HNO:=jH hno;rw [hsy] at hS;have HS:=jH hS;clear hS hsy hno;go_enter func106,ntmps106;go_wp2_with (first
   | (go_at_call 153;refine (HS.out _).mono ?_;rintro e w1 ⟨rfl,rfl⟩)
   | (go_at_call 154;refine (HP.out _).mono ?_;rintro e w1 ⟨rfl,hb1⟩))
  all_goals go_ret2
  all_goals first
   | exact ⟨by rw [Agx jO];rfl,jan _ _⟩
   | exact ⟨by rw [Tp jO (by have:=HNO.out;omega)];rfl,by assumption⟩
namespace Norm
theorem R5 {p:Int->Bool}:∀ {M:List Int} (B:List Int),(∀ y ∈ M,p y=true)->(∀ s t,B=s::t->p s=false)->(M ++ B).takeWhile p=M/\(M ++ B).dropWhile p=B
 | [],B,_,hB=>by
  cases B with
  | nil=>exact ⟨rfl,rfl⟩
  | cons s t =>
   have:=hB s t rfl;simp [this]
 | y::M,B,hM,hB=>by
  obtain ⟨h1,h2⟩:=R5 B (M:=M) (λz hz=>hM z (by simp [hz])) hB;have hy:=hM y jS;simp only [jah,List.takeWhile_cons,List.dropWhile_cons,hy,if_true,h1,h2];exact ⟨trivial,trivial⟩
def next (o:List Int) (x:Int):List Int:=(step o.reverse x).reverse
theorem Rj (l:List Int) (k:Nat) (h:k<l.length):join (l.take (k+1))=next (join (l.take k)) l[k]!:=by
 unfold join X5 next;rw [List.take_succ_eq_append_getElem h,List.foldl_append,getElem!_pos l k h,List.reverse_reverse];rfl
theorem Ni {M:List Int} (x:Int) (hM:∀ y ∈ M,0<Ab y):next M x=M ++ [x]:=by
 obtain ⟨h1,h2⟩:=R5 (p:=λy=>decide (0<Ab y)) (M:=M.reverse) [] (λy hy=>by simpa using hM y (by simpa using hy)) (λs t h=>by cases h);rw [List.append_nil] at h1 h2;unfold next step;rw [h2];simp
theorem Z3 {Q M:List Int} (s x:Int) (hM:∀ y ∈ M,0<Ab y) (hs:¬ 0<Ab s) :
  next (Q ++ s::M) x=if M.all (λy=>decide (Ab y<Ab x))=true then (match Ct s x with | some z=>Q ++ z::M | none=>Q ++ s::M ++ [x]) else Q ++ s::M ++ [x]:=by
 have e:(Q ++ s::M).reverse=M.reverse ++ s::Q.reverse:=by simp
 obtain ⟨h1,h2⟩:=R5 (p:=λy=>decide (0<Ab y)) (M:=M.reverse) (s::Q.reverse) (λy hy=>by simpa using hM y (by simpa using hy)) (λs' t h=>by cases h;simpa using hs);unfold next step;rw [e,h1,h2,List.all_reverse];simp only;split
 ·cases Ct s x with
  | some z=>simp
  | none=>simp
 ·simp
theorem Hr (Q:List Int) (s:Int) (M:List Int):(Q ++ s::M)[Q.length]! = s:=by simp
theorem Tq (Q:List Int) (s z:Int) (M:List Int):(Q ++ s::M).set Q.length z=Q ++ z::M:=by
 rw [List.set_append_right _ _ (jaa _),Nat.sub_self];rfl
theorem Al4 (o:List Int) (x:Int):(next o x).length<=o.length+1:=by
 unfold next step;split
 ·simp
 ·rename_i s A hA
  split
  ·split
   ·have:=congrArg List.length (List.takeWhile_append_dropWhile (p:=λy=>decide (0<Ab y)) (l:=o.reverse));rw [hA] at this;simp only [jab,jac,List.length_reverse] at this ⊢;omega
   ·simp
  ·simp
theorem Pw:∀ (l:List Int) (k:Nat),k<=l.length->(join (l.take k)).length<=k
 | _,0,_=>by simp [join,X5]
 | l,k+1,h=>by
  rw [Rj l k jO];have:=Pw l k jO;have:=Al4 (join (l.take k)) l[k]!;omega
end Norm
theorem Ah9 (v:Value) (l:List Int) (w:World) (hl:Runes v l w) (hn:l.length<=10000):Calls prog 71 #[v] w (Bh (Norm.join l) w):=by
 obtain ⟨A,c,rfl,-,hcell⟩:=hl.form;have HC:=jH hcell;clear hl hcell;go_enter func71,ntmps71;go_wp2;go_loopg [3,4] (l.length+1) (λgk v i wr=>∃ k:Nat,k<=l.length/\i=.int .i64 k/\l.length - k<gk/\Hid (Ai w.heap.size v (Norm.join (l.take k)) wr/\Below w.heap.size w wr))
 case atStart=>exact ⟨0,Nat.zero_le _,rfl,by omega,⟨Ai.nil _ _,jan _ _⟩⟩
 case round =>
  obtain ⟨k,hk,rfl,hg,I⟩:=hrel;by_cases hlt:k<l.length
  ·obtain ⟨ad,rfl,hb,hx⟩:=HC.out k hlt;have hx':=(I.out.2.cell (by rw [Ah];exact hb)).trans hx;obtain ⟨x,hxe⟩:∃ x,x=l[k]!:=⟨_,rfl⟩
   rw [<- hxe] at hx';have hol:=Norm.Pw l k hk;have hjt:=Norm.Rj l k hlt;rw [<- hxe] at hjt;generalize Norm.join (l.take k)=o at I hol hjt;obtain ⟨A2,c2,rfl,hA2⟩:=I.out.1.shape;have HA2:=jH hA2;have HJ:=jH hjt;have hK:=Gg x wr;obtain ⟨cx,hcx⟩:∃ cx,cx=Ab x:=⟨_,rfl⟩
   rw [<- hcx] at hK;have HCX:=jH hcx;have HXA:=jH hb;have HXC:=jH (show w.cell? (ad.add k)=some (.int .i32 x) by rw [hxe];exact hx);clear hx hxe hA2 hjt hcx hb;go_wp2_with fail;refine hK.mono ?_;rintro e w3 ⟨rfl,hb3⟩;have O3:=jH (I.out.1.Af hb3);have B3:=jH (I.out.2.trans (hb3.mono I.out.2.size));clear hb3 hK I hx';go_wp2;go_loopg [6,7] (o.length+1) (λgk s6 s7 wr=>∃ (Q M:List Int) (fr:Bool),s6=.int .i64 ((Q.length:Int) - 1)/\s7=.bool fr/\Q.length<gk/\Q.length<=o.length/\Hid (o=Q ++ M/\fr=M.all (λy=>decide (Ab y<cx))/\(∀ y ∈ M,0<Ab y)/\Ai w.heap.size (.slice A2 o.length c2) o wr/\Below w.heap.size w wr))
   case atStart=>exact ⟨o,[],true,rfl,rfl,by omega,jaa _,⟨by simp,rfl,λy hy=>(by cases hy),O3.out,B3.out⟩⟩
   case round =>
    obtain ⟨Q,M,fr,rfl,rfl,hgq,hqo,J⟩:=hrel;rcases List.eq_nil_or_concat Q with rfl | ⟨Q',s,rfl⟩
    ·have NX:=jH (show Norm.next o x=o ++ [x] by rw [J.out.1];exact Norm.Ni x J.out.2.2.1);have O9:=jH J.out.2.2.2.1;have B9:=jH J.out.2.2.2.2;clear J;have hx9:=(B9.out.cell (by rw [Ah];exact HXA.out)).trans HXC.out;have hol9:o.length<=1000000:=jO
     go_wp2_with (at_builtin;refine Ap wr 56 21 (.int .i32 0) 4 underlying56 Am rfl jO w.heap.size _ _ _ O9.out B9.out.size hol9 1 jO _ rfl rfl rfl _ _ rfl rfl rfl ?_;intro v8 w8 ho8 hb8;have O8:=jH ho8;have B8:=jH hb8;clear ho8 hb8);have I2:Hid (Ai w.heap.size v8 (Norm.join (l.take (k+1))) w8/\Below w.heap.size w w8):=by
      refine ⟨?_,B9.out.trans B8.out⟩;rw [HJ.out,NX.out];exact Ai.more O8.out rfl rfl
     go_roundg (l.length - k)
     case measure=>omega
     case rel=>exact ⟨k+1,by omega,by go_num,by omega,I2⟩
    ·rw [List.concat_eq_append] at J hgq hqo ⊢;have hol1:0<o.length:=by have:=congrArg List.length J.out.1;simp at this;omega
     obtain ⟨g,rfl,hgb,-⟩:=HA2.out hol1;have HG:=jH hgb;clear hgb;have hql:Q'.length<o.length:=by have:=congrArg List.length J.out.1;simp at this;omega
     have hoe:o=Q' ++ s::M:=by rw [J.out.1];simp
     have hle:((Q' ++ [s]).length:Int) - 1=(Q'.length:Int):=by simp
     rw [hle];have cs:=J.out.2.2.2.1.cell Q'.length hql;rw [show o[Q'.length]! = s by rw [hoe,Norm.Hr]] at cs;have HOE:=jH hoe;have hqz:(Q'.length:Int)<(o.length:Int):=jO
     obtain ⟨cl,hcl⟩:∃ cl,cl=Ab s:=⟨_,rfl⟩
     have kS:=λW=>Gg s W;rw [<- hcl] at kS;have KS:=jH kS;have HCL:=jH hcl;clear hoe hle kS hcl;by_cases hpos:0<cl
     ·cases fr with
      | true =>
       go_wp2_with fail;refine (KS.out _).mono ?_;rintro e w5 ⟨rfl,hb5⟩;have O5:=jH (J.out.2.2.2.1.Af hb5);have B5:=jH (J.out.2.2.2.2.trans (hb5.mono J.out.2.2.2.2.size));have cs5:=O5.out.cell Q'.length hql;rw [show o[Q'.length]! = s by rw [HOE.out,Norm.Hr]] at cs5;clear hb5 cs;go_wp2_with fail;refine (KS.out _).mono ?_;rintro e w6 ⟨rfl,hb6⟩;have O6:=jH (O5.out.Af hb6);have B6:=jH (B5.out.trans (hb6.mono B5.out.size));clear hb6 cs5;have J2:Hid (o=Q' ++ (s::M)/\decide (cl<cx)=(s::M).all (λy=>decide (Ab y<cx))/\(∀ y ∈ s::M,0<Ab y)/\Ai w.heap.size (.slice (some ⟨g,0,none⟩) o.length c2) o w6/\Below w.heap.size w w6):=by
        refine ⟨HOE.out,?_,λy hy=>?_,O6.out,B6.out⟩
        ·rw [List.all_cons,<- J.out.2.1,Bool.and_true,HCL.out]
        ·rcases jal.1 hy with rfl | hy
         ·rw [<- HCL.out];exact hpos
         ·exact J.out.2.2.1 y hy
       clear J;go_wp2
       all_goals
        go_roundg (Q'.length+1)
        case measure=>simp at hgq;omega
        case rel=>exact ⟨Q',s::M,decide (cl<cx),by simp,by simp [*],by omega,by omega,J2⟩
      | false =>
       go_wp2_with fail;refine (KS.out _).mono ?_;rintro e w5 ⟨rfl,hb5⟩;have J2:Hid (o=Q' ++ (s::M)/\false=(s::M).all (λy=>decide (Ab y<cx))/\(∀ y ∈ s::M,0<Ab y)/\Ai w.heap.size (.slice (some ⟨g,0,none⟩) o.length c2) o w5/\Below w.heap.size w w5):=by
        refine ⟨HOE.out,?_,λy hy=>?_,J.out.2.2.2.1.Af hb5,J.out.2.2.2.2.trans (hb5.mono J.out.2.2.2.2.size)⟩
        ·rw [List.all_cons,<- J.out.2.1,Bool.and_false]
        ·rcases jal.1 hy with rfl | hy
         ·rw [<- HCL.out];exact hpos
         ·exact J.out.2.2.1 y hy
       clear J hb5 cs;go_wp2;go_roundg (Q'.length+1)
       case measure=>simp at hgq;omega
       case rel=>exact ⟨Q',s::M,false,by simp,rfl,by omega,by omega,J2⟩
     ·have hneg:cl<=0:=jO
      have NA:=jH (Norm.Z3 (Q:=Q') s x J.out.2.2.1 (by rw [<- HCL.out];exact hpos));clear hpos;cases fr with
      | false =>
       go_wp2_with fail;refine (KS.out _).mono ?_;rintro e w5 ⟨rfl,hb5⟩;have O9:=jH (J.out.2.2.2.1.Af hb5);have B9:=jH (J.out.2.2.2.2.trans (hb5.mono J.out.2.2.2.2.size));have NX:=jH (show Norm.next o x=o ++ [x] by rw [HOE.out,NA.out,if_neg (by rw [<- HCX.out,<- J.out.2.1];decide)]);clear hb5 cs J;have hx9:=(B9.out.cell (by rw [Ah];exact HXA.out)).trans HXC.out;have hol9:o.length<=1000000:=jO
       go_wp2_with (at_builtin;refine Ap w5 56 21 (.int .i32 0) 4 underlying56 Am rfl jO w.heap.size _ _ _ O9.out B9.out.size hol9 1 jO _ rfl rfl rfl _ _ rfl rfl rfl ?_;intro v8 w8 ho8 hb8;have O8:=jH ho8;have B8:=jH hb8;clear ho8 hb8);have I2:Hid (Ai w.heap.size v8 (Norm.join (l.take (k+1))) w8/\Below w.heap.size w w8):=by
        refine ⟨?_,B9.out.trans B8.out⟩;rw [HJ.out,NX.out];exact Ai.more O8.out rfl rfl
       go_roundg (l.length - k)
       case measure=>omega
       case rel=>exact ⟨k+1,by omega,by go_num,by omega,I2⟩
      | true =>
       have NF:=jH (show M.all (λy=>decide (Ab y<Ab x))=true by rw [<- HCX.out];exact J.out.2.1.symm);go_wp2_with fail;refine (KS.out _).mono ?_;rintro e w5 ⟨rfl,hb5⟩;have O5:=jH (J.out.2.2.2.1.Af hb5);have B5:=jH (J.out.2.2.2.2.trans (hb5.mono J.out.2.2.2.2.size));have cs5:=O5.out.cell Q'.length hql;rw [show o[Q'.length]! = s by rw [HOE.out,Norm.Hr]] at cs5;have hx5:=(B5.out.cell (by rw [Ah];exact HXA.out)).trans HXC.out;have hkz:(k:Int)<(l.length:Int):=jO
       have MK:=jH (λW=>Aij s x W);clear hb5 cs J;go_wp2_with fail;cases hmk:Norm.Ct s x with
       | none =>
        have NX:=jH (show Norm.next o x=o ++ [x] by rw [HOE.out,NA.out,if_pos NF.out,hmk]);have hM:=MK.out;simp only [hmk] at hM;have HM:=jH hM;clear hM hmk MK;go_region_with ((go_at_call 106;refine (HM.out _).mono ?_;rintro e w6 ⟨rfl,hb6⟩;have HB6:=jH (Ag hb6);have O9:=jH (O5.out.Af HB6.out);have B9:=jH (B5.out.trans (HB6.out.mono B5.out.size));have hx9:=(B9.out.cell (by rw [Ah];exact HXA.out)).trans HXC.out;have cs9:=O9.out.cell Q'.length hql;have fr9:=O9.out.free Q'.length;clear hb6 cs5 hx5))
        all_goals
         have hol9:o.length<=1000000:=jO
         go_wp2_with (at_builtin;refine Ap w6 56 21 (.int .i32 0) 4 underlying56 Am rfl jO w.heap.size _ _ _ O9.out B9.out.size hol9 1 jO _ rfl rfl rfl _ _ rfl rfl rfl ?_;intro v8 w8 ho8 hb8;have O8:=jH ho8;have B8:=jH hb8;clear ho8 hb8);have I2:Hid (Ai w.heap.size v8 (Norm.join (l.take (k+1))) w8/\Below w.heap.size w w8):=by
          refine ⟨?_,B9.out.trans B8.out⟩;rw [HJ.out,NX.out];exact Ai.more O8.out rfl rfl
         go_roundg (l.length - k)
         case measure=>omega
         case rel=>exact ⟨k+1,by omega,by go_num,by omega,I2⟩
       | some z =>
        have NX:=jH (show Norm.next o x=Q' ++ z::M by rw [HOE.out,NA.out,if_pos NF.out,hmk]);have hM:=MK.out;simp only [hmk] at hM;have HM:=jH hM;clear hM hmk MK;go_region_with ((go_at_call 106;refine (HM.out _).mono ?_;rintro e w6 ⟨rfl,hb6⟩;have HB6:=jH (Ag hb6);have O9:=jH (O5.out.Af HB6.out);have B9:=jH (B5.out.trans (HB6.out.mono B5.out.size));have hx9:=(B9.out.cell (by rw [Ah];exact HXA.out)).trans HXC.out;have cs9:=O9.out.cell Q'.length hql;have fr9:=O9.out.free Q'.length;clear hb6 cs5 hx5))
        all_goals
         have I2:Hid (Ai w.heap.size (.slice (some ⟨g,0,none⟩) o.length c2) (Norm.join (l.take (k+1))) (w6.setCell ⟨g,Q'.length,none⟩ (.int .i32 z))/\Below w.heap.size w (w6.setCell ⟨g,Q'.length,none⟩ (.int .i32 z))):=by
          refine ⟨?_,B9.out.setCell (p:=⟨g,Q'.length,none⟩) HG.out _⟩;rw [HJ.out,NX.out];have h:=O9.out.put Q'.length z;rw [show o.set Q'.length z=Q' ++ z::M by rw [HOE.out,Norm.Tq]] at h;exact h
         go_wp2;go_roundg (l.length - k)
         case measure=>omega
         case rel=>exact ⟨k+1,by omega,by go_num,by omega,I2⟩
  ·obtain rfl:k=l.length:=jO
   go_wp2;go_ret;have h:=I.out.1;rw [List.take_length] at h;exact ⟨_,rfl,h,I.out.2⟩
end
section
open Go.RowKit Utf
theorem Afm:∀ y ∈ splits,(Ak y.rune && (Norm.pieces false y.rune).all Ak && (Norm.pieces true y.rune).all Ak)=true:=by decide +kernel
theorem Af6:∀ i ∈ List.range 94,(Ak (65281+i) && (Norm.pieces false (65281+i)).all Ak && (Norm.pieces true (65281+i)).all Ak)=true:=by decide +kernel
theorem Sz (soft:Bool) {x:Int} {y:Sp} (h:Aj x=some y):Ak x=true/\∀ c ∈ Norm.pieces soft x,Ak c=true:=by
 have key:(Ak x && (Norm.pieces false x).all Ak && (Norm.pieces true x).all Ak)=true:=by
  rcases Bv h with ⟨hy,rfl⟩ | ⟨hw,rfl⟩
  ·exact Afm y hy
  ·simp only [Bf,jag,decide_eq_true_eq] at hw;have:=Af6 (x - 65281).toNat (by rw [List.mem_range];omega);rwa [show (65281:Int)+((x - 65281).toNat:Int)=x by omega] at this
 simp only [jag] at key;refine ⟨key.1.1,?_⟩;cases soft
 ·exact jar.1 key.1.2
 ·exact jar.1 key.2
theorem Z7 (soft:Bool) {r:Int} (h:Ak r=true):∀ c ∈ Norm.pieces soft r,Ak c=true:=by
 cases hs:Norm.syl r with
 | true =>
  rw [Norm.Ax,hs];intro c hc;have:=(Norm.Fl c).1 (Norm.I8 hs c hc);exact (An c).2 jO
 | false =>
  cases hp:Aj r with
  | none =>
   intro c hc;rw [Norm.Ax,hs,hp] at hc;simp only [Bool.false_eq_true,if_false,List.mem_singleton] at hc;rw [hc];exact h
  | some y=>exact (Sz soft hp).2
theorem Gp (soft:Bool) {l:List Int} (h:Ad l=true):Ad (Norm.down soft l)=true:=by
 unfold Ad at h ⊢;rw [jar] at h ⊢;intro c hc;obtain ⟨r,hr,hcr⟩:=Norm.Ma soft l c hc;exact Z7 soft (h r hr) c hcr
theorem Ab1 {a b x:Int} (h:Norm.Ct a b=some x):Ak x=true:=by
 unfold Norm.Ct at h;split at h
 ·obtain rfl:=Option.some.inj h;exact (An _).2 jO
 ·split at h
  ·rename_i h2
   obtain rfl:=Option.some.inj h;have:=(Norm.Br a).1 h2.1;exact (An _).2 jO
  ·obtain ⟨y,hy,-⟩:=Fu h;exact (Sz false hy).1
theorem Afv {R:List Int} {c:Int} (hR:∀ y ∈ R,Ak y=true) (hc:Ak c=true):∀ y ∈ Norm.step R c,Ak y=true:=by
 have plain:∀ y ∈ c::R,Ak y=true:=λy hy=>by
  rcases jal.1 hy with rfl | hy
  ·exact hc
  ·exact hR y hy
 unfold Norm.step;split
 ·exact plain
 ·rename_i s A hA
  split
  ·split
   ·rename_i x hx
    intro y hy;rw [jap,jal] at hy;rcases hy with hy | rfl | hy
    · exact hR y ((List.takeWhile_sublist _).subset hy)
    · exact Ab1 hx
    · exact hR y ((List.dropWhile_sublist (λy=>decide (0<Ab y))).subset (by rw [hA];simp [hy]))
   ·exact plain
  ·exact plain
theorem Kq {l:List Int} (h:Ad l=true):Ad (Norm.join l)=true:=by
 have key:∀ (l R:List Int),(∀ y ∈ l,Ak y=true)->(∀ y ∈ R,Ak y=true)->∀ y ∈ l.foldl Norm.step R,Ak y=true:=by
  intro l;induction l with
  | nil=>exact λR _ hR=>hR
  | cons c l ih=>exact λR hl hR=>ih (Norm.step R c) (λy hy=>hl y (by simp [hy])) (Afv hR (hl c jS))
 unfold Ad at h ⊢;rw [jar] at h ⊢;intro c hc;unfold Norm.join at hc;rw [List.mem_reverse] at hc;exact key l [] h (λy hy=>by cases hy) c hc
def Bz (soft join:Bool) (l:List Int):List Int:=if join then Norm.join (Norm.down soft l) else Norm.down soft l
theorem Kn (soft join:Bool) {l:List Int} (h:Ad l=true):Ad (Bz soft join l)=true:=by
 unfold Bz;split
 · exact Kq (Gp soft h)
 · exact Gp soft h
theorem Tr {x y:List Int} (h:Norm.Sim x y):x.length=y.length:=by
 induction h with
 | refl l=>rfl
 | swap p a b q _ _ _=>simp
 | trans _ _ ih1 ih2=>exact ih1.trans ih2
theorem Ly (soft:Bool) (l:List Int):(Norm.down soft l).length<=20*l.length:=by
 have:=Tr (Norm.Fi (Norm.split soft l));have:=Nk soft l;show (Norm.order (Norm.split soft l)).length<=_;omega
theorem Jz (l:List Int):(Norm.join l).length<=l.length:=by
 have:=Norm.Pw l l.length (jaa _);rwa [List.take_length] at this
theorem Gw {l:List Int} (h:Ad l=true):Afw l=Ae l:=by unfold Afw;rw [h,if_pos rfl]
theorem X1 (s:ByteArray) (soft join:Bool) (w:World) (hs:s.size<=100000) {m:List Nat} (hm:m.length<=420) (hrd:A9 s.data.toList=(m,-1)) :
  Calls prog 45 #[.string s,.bool soft,.bool join] w (It (Ae (Bz soft join (ints m))) true w):=by
 obtain ⟨hm1,-,-⟩:=Cu hrd;obtain ⟨hm3,-⟩:=Iy m hm1;have hml:(ints m).length<=420:=by simp only [ints,jai];omega
 have h1:=λW=>E9 s W jO hrd;have h2:=λv W (h:Runes v (ints m) W)=>Afq v (ints m) soft W h jO;have hsl:=Nk soft (ints m);have h3:=λv W (h:Runes v (Norm.split soft (ints m)) W)=>Ae4 v _ W h jO;have hdl:=Ly soft (ints m);have h4:=λv W (h:Runes v (Norm.down soft (ints m)) W)=>Ah9 v _ W h jO;have hfr:=Kn soft join hm3;have hfl:(Bz soft join (ints m)).length<=9600:=by
  unfold Bz;split
  · have:=Jz (Norm.down soft (ints m));omega
  · omega
 have h5:=λv W (h:Runes v (Bz soft join (ints m)) W)=>Ic v _ W h jO hfr (Gw hfr);have H1:=jH h1;have H2:=jH h2;have H3:=jH h3;have H4:=jH h4;have H5:=jH h5;clear h1 h2 h3 h4 h5 hm1 hm3 hml hsl hdl hfr hfl hrd hm;cases join
 all_goals
  go_enter func45,ntmps45;go_wp2_with fail;refine (H1.out _).mono ?_;rintro e w1 ⟨A1,c1,rfl,hr1,hb1⟩;have R1:=jH hr1;have B1:=jH hb1;clear hr1 hb1;go_wp2_with fail;refine (H2.out _ _ R1.out).mono ?_;rintro e w2 ⟨v2,rfl,ho2,hb2⟩;have R2:=jH ho2.Fb;have B2:=jH (Aa B1.out hb2);clear ho2 hb2 R1 B1;go_wp2_with fail;refine (H3.out _ _ R2.out).mono ?_;rintro e w3 ⟨v3,rfl,ho3,hb3⟩;have R3:=jH ho3.Fb;have B3:=jH (Aa B2.out hb3);clear ho3 hb3 R2 B2;go_wp2_with fail
 ·refine (H5.out _ _ R3.out).mono ?_;rintro e w4 ⟨rfl,hb4⟩;have B4:=jH (Aa B3.out hb4);clear hb4 B3;go_wp2;go_ret2;exact ⟨rfl,B4.out⟩
 ·refine (H4.out _ _ R3.out).mono ?_;rintro e w4 ⟨v4,rfl,ho4,hb4⟩;have R4:=jH ho4.Fb;have B4:=jH (Aa B3.out hb4);clear ho4 hb4 R3 B3;go_wp2_with fail;refine (H5.out _ _ R4.out).mono ?_;rintro e w5 ⟨rfl,hb5⟩;have B5:=jH (Aa B4.out hb5);clear hb5 B4;go_wp2;go_ret2;exact ⟨rfl,B5.out⟩
theorem Ari (s:ByteArray) (soft join:Bool) (w:World) (hs:s.size<=100000) {m:List Nat} {k:Nat} (hrd:A9 s.data.toList=(m,(k:Int))) :
  Calls prog 45 #[.string s,.bool soft,.bool join] w (It [] false w):=by
 have h1:=λW=>E9 s W jO hrd;have H1:=jH h1;have hk0:(0:Int)<=(k:Int):=jO
 clear h1 hrd;go_enter func45,ntmps45;go_wp2_with fail;refine (H1.out _).mono ?_;rintro e w1 ⟨A1,c1,rfl,-,hb1⟩;have B1:=jH hb1;clear hb1;go_wp2;go_ret2;exact ⟨rfl,B1.out⟩
end
