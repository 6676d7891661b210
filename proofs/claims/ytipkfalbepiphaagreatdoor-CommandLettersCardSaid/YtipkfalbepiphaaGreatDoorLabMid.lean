import Derived.Test.YtipkfalbepiphaaGreatDoorLabFine
import Derived.Test.YtipkfalbepiphaaGreatDoorBidiAll
import Derived.Laws.RangeAny
import Derived.Lib.DecodeN
import Derived.Lib.RuneCount
import Derived.Test.YtipkfalbepiphaaGreatDoorCtxEnd
import Derived.Test.YtipkfalbepiphaaGreatDoorPunyD
set_option maxRecDepth 100000
set_option maxHeartbeats 4000000
namespace Go.Proofs.YtipkfalbepiphaaGreatDoor
open Tryz
section
open Go.RowKit
def Oo (n:Nat) (E:Nat->Int) (I:Nat->World->Prop) (e:Ending) (w':World):Prop :=
 ∃ k,k<=n/\(∀ j,j<k->E j=0)/\((k<n/\E k ≠ 0/\e=.returned (.int .i64 (E k))/\I (k+1) w')\/(k=n/\e=.returned (.int .i64 0)/\I n w'))
theorem Uh (ad:Addr) (n:Nat) (E:Nat->Int) (I:Nat->World->Prop) (w:World) (hn:n<=100) (h0:I 0 w)
  (hask:∀ k,k<n->(∀ j,j<k->E j=0)->∀ W,I k W->∃ g cb,W.cell? (ad.add k)=some (.func (.func g) #[] cb)/\(∀ args w,(callFunc g args).run prog w=.ok (.enter g args) w)/\Calls prog g cb W λe W'=>e=.returned (.int .i64 (E k))/\I (k+1) W') :
  Calls prog 222 #[.slice (some ad) n n] w (Oo n E I):=by
 have HA:=jH hask;have H0:=jH h0;clear hask h0;go_enter func222,ntmps222;go_wp2;go_loopg [4,5,8] n (λgg _ _ s8 wr=>∃ k:Nat,k<=n/\n - k<=gg/\s8=.int .i64 k/\Hid (I k wr)/\Hid (∀ j,j<k->E j=0))
 case atStart=>exact ⟨0,Nat.zero_le _,by omega,rfl,H0.out,λj hj=>absurd hj (Nat.not_lt_zero _)⟩
 case round =>
  obtain ⟨k,hk,hg,rfl,IW,A⟩:=hrel;by_cases hlt:k<n
  ·have hkz:(k:Int)<(n:Int):=jO
   obtain ⟨g,cb,hcell,eg,hcall⟩:=HA.out k hlt A.out wr IW.out;obtain ⟨x,hx⟩:∃ x,x=E k:=⟨_,rfl⟩
   rw [<- hx] at hcall;have HX:=jH hx;have HC:=jH hcall;clear hx hcall;by_cases h0:x=0
   ·have R:=jH (HX.out.symm.trans h0);subst h0;go_wp2_with fail;refine HC.out.mono ?_;rintro e w2 ⟨rfl,hi⟩;have I2:=jH hi;clear hi hcell;go_wp2;go_roundg (n - (k+1))
    case measure=>omega
    case rel =>
     refine ⟨k+1,by omega,by omega,by go_num,I2.out,(show Hid _ from λj hj=>?_)⟩;by_cases e:j=k
     · subst e;exact R.out
     · exact A.out j jO
   ·have hx0:(x == 0)=false:=by rw [beq_eq_false_iff_ne];exact h0
    have H0':=jH h0;go_wp2_with fail;refine HC.out.mono ?_;rintro e w2 ⟨rfl,hi⟩;have I2:=jH hi;clear hi hcell;go_wp2;go_ret;exact ⟨k,by omega,A.out,.inl ⟨hlt,by rw [<- HX.out];exact H0'.out,by rw [HX.out];rfl,I2.out⟩⟩
  ·have hkz:¬ (k:Int)<(n:Int):=jO
   obtain rfl:k=n:=jO
   go_wp2;go_ret;exact ⟨k,by omega,A.out,.inr ⟨rfl,rfl,IW.out⟩⟩
def Rh (n:Nat) (x:Int) (g:Nat) (cb:Array Value) (e:Ending) (w w':World):Prop :=
 e
  = .returned (.func (.func 267) #[] #[.pointer (some ⟨n+1,0,none⟩),.pointer (some ⟨n,0,none⟩)])/\w'.heap.size=n+2 /\
  w'.cell? ⟨n,0,none⟩=some (.int .i64 x)/\w'.cell? ⟨n+1,0,none⟩=some (.func (.func g) #[] cb)/\Below n w w'
theorem Dr (n:Nat) (x:Int) (g:Nat) (cb:Array Value) (w:World) (hn:w.heap.size=n) :
  Calls prog 223 #[.int .i64 x,.func (.func g) #[] cb] w λe w'=>Rh n x g cb e w w':=by
 subst hn;go_enter func223,ntmps223;go_wp2;go_ret;refine ⟨rfl,by simp,?_,?_,Bl _ _ _⟩
 ·go_simp
 ·go_simp
theorem Aev (n g:Nat) (cb:Array Value) (x:Int) (b:Bool) (Q:World->Prop) (w:World) (c1:w.cell? ⟨n+1,0,none⟩=some (.func (.func g) #[] cb))
  (eg:∀ args w,(callFunc g args).run prog w=.ok (.enter g args) w) (hf:Calls prog g cb w λe w'=>e=.returned (.bool b)/\Q w') (hq:∀ w',Q w'->w'.cell? ⟨n,0,none⟩=some (.int .i64 x)) :
  Calls prog 267 #[.pointer (some ⟨n+1,0,none⟩),.pointer (some ⟨n,0,none⟩)] w λe w'=>e=.returned (.int .i64 (if b then x else 0))/\Q w':=by
 have HF:=jH hf;have HQ:=jH hq;clear hf hq;cases b
 ·go_enter func267,ntmps267;go_wp2_with fail;refine HF.out.mono ?_;rintro e w2 ⟨rfl,hq⟩;have Q2:=jH hq;clear hq;go_wp2;go_ret;exact ⟨rfl,Q2.out⟩
 ·go_enter func267,ntmps267;go_wp2_with fail;refine HF.out.mono ?_;rintro e w2 ⟨rfl,hq⟩;have d0:=HQ.out _ hq;have Q2:=jH hq;clear hq;go_wp2;go_ret;exact ⟨rfl,Q2.out⟩
end
section
open Go.RowKit Utf
namespace Lab
theorem Q0 {s:ByteArray} {k:Nat} (h:k<s.size) (c:UInt8):((s.extract k (k+1)).toList == [c])=(D4 s.data.toList k == (c.toNat:Int)):=by
 rw [Fa h,ByteArray.toList_eq,ByteArray.data_extract,Array.toList_extract,List.extract_eq_take_drop,List.drop_eq_getElem_cons (by simpa using h),Nat.add_sub_cancel_left];simp only [List.take_succ_cons,List.take_zero];rw [Bool.eq_iff_iff];simp only [beq_iff_eq,List.cons.injEq,and_true];constructor
 ·intro e;have:s[k]=c:=e;rw [this]
 ·intro e;have:s[k]=c:=UInt8.toNat_inj.1 jO;exact this
theorem A6m {s:ByteArray} (h:3<s.size):((s.extract 2 4).toList == [45,45])=(D4 s.data.toList 2 == 45 && D4 s.data.toList 3 == 45):=by
 rw [Fa (show 2<s.size by omega),Fa h,ByteArray.toList_eq,ByteArray.data_extract,Array.toList_extract,List.extract_eq_take_drop,List.drop_eq_getElem_cons (by simp;omega),List.drop_eq_getElem_cons (by simp;omega)];simp only [Nat.reduceSub,List.take_succ_cons,List.take_zero];rw [Bool.eq_iff_iff];simp only [beq_iff_eq,List.cons.injEq,and_true,jag];constructor
 ·rintro ⟨e,e'⟩;have h1:s[2]=45:=e;have h2:s[3]=45:=e';rw [h1,h2];exact ⟨rfl,rfl⟩
 ·rintro ⟨e,e'⟩;have h1:s[2]=45:=UInt8.toNat_inj.1 (by rw [show (45:UInt8).toNat=45 from rfl];omega);have h2:s[3]=45:=UInt8.toNat_inj.1 (by rw [show (45:UInt8).toNat=45 from rfl];omega);exact ⟨h1,h2⟩
theorem Aim {s:ByteArray} {k:Nat} (h:k<s.size) (hb:¬ s[k].toNat<128):128<=(Utf8.decode s k).1:=by
 have e:s.get! k=s[k]:=by
  simp [ByteArray.get!,getElem!_pos,h];rfl
 rw [Lib.decode_at,e];unfold Lib.decodeN;rw [if_neg hb]
 repeat' split
 all_goals (first | omega | decide | (simp only [];omega))
end Lab
theorem Ns (s:ByteArray) (w:World) (hs:s.size<=100000):Calls prog 233 #[.string s] w λe w'=>e=.returned (.bool (Lab.F3 s.data.toList))/\w=w':=by
 have hsl:s.data.toList.length=s.size:=by simp
 by_cases h0:s.size=0
 ·obtain rfl:s=⟨#[]⟩:=ByteArray.ext (Array.eq_empty_of_size_eq_zero h0);clear hsl h0 hs;go_enter func233,ntmps233;go_wp2;go_ret;exact ⟨rfl,rfl⟩
 ·have hz:(1:Int)<=(s.size:Int):=jO
  have hz1:1<=s.size:=jO
  have a0:=Lab.Q0 (s:=s) (k:=0) jO 45;have a1:=Lab.Q0 (s:=s) (k:=s.size - 1) jO 45;rw [show s.size - 1+1=s.size by omega] at a1;unfold Lab.F3;rw [hsl,<- show ((45:UInt8).toNat:Int)=45 from rfl,<- a0,<- a1];clear a0 a1;cases e0:((s.extract 0 (0+1)).toList == [45])
  ·cases e1:((s.extract (s.size - 1) s.size).toList == [45])
   ·by_cases h3:3<s.size
    ·have h3z:(4:Int)<=(s.size:Int):=jO
     have a2:=Lab.A6m h3;rw [decide_eq_true h3,Bool.true_and,Bool.false_or,Bool.false_or,show ((45:UInt8).toNat:Int)=45 from rfl,<- a2];clear a2;cases e2:((s.extract 2 4).toList == [45,45])
     all_goals
      go_enter func233,ntmps233;go_wp2;go_ret;exact ⟨rfl,rfl⟩
    ·have h3z:¬ (4:Int)<=(s.size:Int):=jO
     rw [decide_eq_false h3];clear h3;go_enter func233,ntmps233;go_wp2;go_ret;exact ⟨rfl,rfl⟩
   ·go_enter func233,ntmps233;go_wp2;go_ret;exact ⟨rfl,rfl⟩
  ·go_enter func233,ntmps233;go_wp2;go_ret;exact ⟨rfl,rfl⟩
theorem Mi (x:Int) (w:World) (h0:0<=x):Calls prog 268 #[.int .i32 x] w λe w'=>e=.returned (.bool (!Bidi.Ce x))/\w=w':=by
 rcases Ak1 h0 with ⟨hp,hcs⟩ | ⟨hp,hcs⟩
 ·rw [hp];clear hp;have e45:(x == 45)=false:=by rw [beq_eq_false_iff_ne];omega
  rcases hcs with h | ⟨h,h'⟩ | ⟨h,h'⟩ | ⟨h,h'⟩ | h
  all_goals
   first | have d97:decide (97<=x)=true:=decide_eq_true jO | have d97:decide (97<=x)=false:=decide_eq_false jO
   first | have d122:decide (x<=122)=true:=decide_eq_true jO | have d122:decide (x<=122)=false:=decide_eq_false jO
   first | have d65:decide (65<=x)=true:=decide_eq_true jO | have d65:decide (65<=x)=false:=decide_eq_false jO
   first | have d90:decide (x<=90)=true:=decide_eq_true jO | have d90:decide (x<=90)=false:=decide_eq_false jO
   first | have d48:decide (48<=x)=true:=decide_eq_true jO | have d48:decide (48<=x)=false:=decide_eq_false jO
   first | have d57:decide (x<=57)=true:=decide_eq_true jO | have d57:decide (x<=57)=false:=decide_eq_false jO
   clear h0;go_enter func268,ntmps268;go_wp2;go_ret;exact ⟨rfl,rfl⟩
 ·rw [hp];clear hp;rcases hcs with h | ⟨h,h'⟩ | ⟨h,h'⟩ | ⟨h,h'⟩
  all_goals
   first | have d97:decide (97<=x)=true:=decide_eq_true jO | have d97:decide (97<=x)=false:=decide_eq_false jO
   first | have d122:decide (x<=122)=true:=decide_eq_true jO | have d122:decide (x<=122)=false:=decide_eq_false jO
   first | have d65:decide (65<=x)=true:=decide_eq_true jO | have d65:decide (65<=x)=false:=decide_eq_false jO
   first | have d90:decide (x<=90)=true:=decide_eq_true jO | have d90:decide (x<=90)=false:=decide_eq_false jO
   first | have d48:decide (48<=x)=true:=decide_eq_true jO | have d48:decide (48<=x)=false:=decide_eq_false jO
   first | have d57:decide (x<=57)=true:=decide_eq_true jO | have d57:decide (x<=57)=false:=decide_eq_false jO
   first | have e45:(x == 45)=true:=(by rw [beq_iff_eq];omega) | have e45:(x == 45)=false:=(by rw [beq_eq_false_iff_ne];omega)
   clear h0;go_enter func268,ntmps268;go_wp2;go_ret;exact ⟨rfl,rfl⟩
def Ahp (p:Bool) (w:World) (e:Ending) (w':World):Prop:=∃ z:Int,e=.returned (.int .i64 z)/\decide (0<=z)=!p/\Below w.heap.size w w'
theorem Alv (s:ByteArray) (w:World) (hs:s.size<=100000) :
  Calls prog 70 #[.string s,.func (.func 268) #[] #[],.bool true] w (Ahp (s.data.toList.all λc=>Bidi.Ce (c.toNat:Int)) w):=by
 have hsl:s.data.toList.length=s.size:=by simp
 obtain ⟨p,hpp⟩:∃ p,p=(s.data.toList.all λc=>Bidi.Ce (c.toNat:Int)):=⟨_,rfl⟩
 rw [<- hpp];have HP:=jH hpp;have HSL:=jH hsl;clear hpp hsl;have hit:∀ pos,decide (0<=((pos:Nat):Int))=true:=λpos=>decide_eq_true jO;have HIT:=jH hit;clear hit;go_enter func70,ntmps70;go_wp2;go_loopg [7,8] (s.size+1) (λgk _ _ wr=>∃ k:Nat,k<=s.size/\s.size - k<gk/\wr=w.iter s k/\Hid (∀ j,j<k->Bidi.Ce (Lab.D4 s.data.toList j)=true))
 case atStart=>exact ⟨0,Nat.zero_le _,by omega,rfl,λj hj=>absurd hj (Nat.not_lt_zero _)⟩
 case round =>
  obtain ⟨k,hk,hg,rfl,I⟩:=hrel;have hB:=jH (show ∀ k,Below w.heap.size w (w.iter s k) from λk=>(jan _ w).alloc (jaa _) _);by_cases hlt:k<s.size
  ·by_cases ha:s[k].toNat<128
   ·have hb:=Lab.Fa hlt;have hnx:=λty=>run_next_ascii (P:=prog) w s k ty hlt ha;cases hp:Bidi.Ce (s[k].toNat:Int)
    ·have KC:=Mi (s[k].toNat:Int) (w.iter s (k+1)) jO;rw [hp] at KC;have KC:=jH KC;have R:=jH (show p=false by rw [HP.out];exact Ad5 (k:=k) (by have:=HSL.out;omega) (by rw [hb];exact hp));clear hp hb;go_wp2_with fail;refine KC.out.mono ?_;rintro e w3 ⟨rfl,rfl⟩;go_wp2;go_ret;exact ⟨_,rfl,by rw [R.out];exact HIT.out _,hB.out _⟩
    ·have KC:=Mi (s[k].toNat:Int) (w.iter s (k+1)) jO;rw [hp] at KC;have KC:=jH KC;have I2:Hid (∀ j,j<k+1->Bidi.Ce (Lab.D4 s.data.toList j)=true):=jH (λj hj=>by
      by_cases e:j=k
      · subst e;rw [hb];exact hp
      · exact I.out j jO)
     clear hp hb;go_wp2_with fail;refine KC.out.mono ?_;rintro e w3 ⟨rfl,rfl⟩;go_wp2;go_roundg (s.size - k)
     case measure=>omega
     case rel=>exact ⟨k+1,by omega,by omega,rfl,I2.out⟩
   ·have hb:=Lab.Fa hlt;have hnx:=λty=>run_next_any (P:=prog) w s k ty hlt;have hd:=Lab.Aim hlt ha;obtain ⟨⟨x,n⟩,hxn⟩:∃ q,q=Utf8.decode s k:=⟨_,rfl⟩
    rw [<- hxn] at hnx hd;have hd:128<=x:=hd;have KC:=Mi (x:Int) (w.iter s (k+n)) jO;rw [show Bidi.Ce (x:Int)=false by unfold Bidi.Ce;rw [decide_eq_false (show ¬ (x:Int)<=122 by omega),decide_eq_false (show ¬ (x:Int)<=90 by omega),decide_eq_false (show ¬ (x:Int)<=57 by omega),beq_eq_false_iff_ne.2 (show (x:Int) ≠ 45 by omega)];simp] at KC;have KC:=jH KC;have R:=jH (show p=false by
     rw [HP.out];refine Ad5 (k:=k) (by have:=HSL.out;omega) ?_;rw [hb];unfold Bidi.Ce;rw [decide_eq_false (show ¬ (s[k].toNat:Int)<=122 by omega),decide_eq_false (show ¬ (s[k].toNat:Int)<=90 by omega),decide_eq_false (show ¬ (s[k].toNat:Int)<=57 by omega),beq_eq_false_iff_ne.2 (show (s[k].toNat:Int) ≠ 45 by omega)];simp)
    clear hb hd hxn ha;go_wp2_with fail;refine KC.out.mono ?_;rintro e w3 ⟨rfl,rfl⟩;go_wp2;go_ret;exact ⟨_,rfl,by rw [R.out];exact HIT.out _,hB.out _⟩
  ·obtain rfl:k=s.size:=jO
   have hnx:=λty=>run_next_end (P:=prog) w s s.size ty hlt;have R:=jH (show p=true by rw [HP.out];exact Au8 (λj hj=>I.out j (by have:=HSL.out;omega)));go_wp2;go_ret;exact ⟨_,rfl,by rw [R.out];rfl,hB.out _⟩
theorem Ajb (s:ByteArray) (w:World) (hs:s.size<=100000):Calls prog 231 #[.string s] w λe w'=>e=.returned (.bool (s.data.toList.all λc=>Bidi.Ce (c.toNat:Int)))/\Below w.heap.size w w':=by
 have K:=jH (Alv s w hs);generalize (s.data.toList.all λc=>Bidi.Ce (c.toNat:Int))=p at K ⊢;clear hs;cases p
 all_goals
  go_enter func231,ntmps231;go_wp2_with (first | (go_at_call 34;go_in) | (go_at_call 52;go_in));refine K.out.mono ?_;rintro e w3 ⟨z,rfl,hz,hb⟩;have HB:=jH hb;clear hb;go_wp2;go_ret;exact ⟨rfl,HB.out⟩
namespace Lab
theorem A4o (s:ByteArray):((⟨((s.extract 0 4).data.toList.map Af).toArray⟩:ByteArray).toList == [120,110,45,45])=(((s.data.toList.take 4).map Af) == sign):=by
 rw [ByteArray.toList_eq,R8];rfl
end Lab
theorem Ai9 (s:ByteArray) (w:World) (hs:s.size<=100000):Calls prog 187 #[.string s] w λe w'=>e=.returned (.bool ((s.data.toList.take 4).map Af == Lab.sign))/\Below w.heap.size w w':=by
 by_cases h4:4<=s.size
 ·have h4z:(4:Int)<=(s.size:Int):=jO
  have KP:=Hm (s.extract 0 4) w (by simp;omega);have hq:=Lab.A4o s;generalize hz:(⟨((s.extract 0 4).data.toList.map Af).toArray⟩:ByteArray)=z at KP hq;generalize ((s.data.toList.take 4).map Af == Lab.sign)=b at hq ⊢;have KP:=jH KP;clear hz hs;cases b
  all_goals
   go_enter func187,ntmps187;go_wp2_with fail;refine KP.out.mono ?_;rintro e w3 ⟨rfl,hb⟩;have HB:=jH hb;clear hb;go_wp2;go_ret;exact ⟨rfl,HB.out⟩
 ·have h4z:¬ (4:Int)<=(s.size:Int):=jO
  have:((s.data.toList.take 4).map Af == Lab.sign)=false:=by
   rw [beq_eq_false_iff_ne];intro e;have:=congrArg List.length e;rw [jai,jak] at this;simp [Lab.sign] at this;omega
  rw [this];clear this h4 hs;go_enter func187,ntmps187;go_wp2;go_ret;exact ⟨rfl,jan _ _⟩
theorem Asx (t:Value) (r:Int) (w:World) (hT:Table w t):Calls prog 282 #[t,.int .i32 r] w λe w'=>e=.returned (.bool (Lab.Cg r))/\Below w.heap.size w w':=by
 have KC:=jH (λW (h:Below w.heap.size w W)=>Aq3 t r W (hT.below h));have KS:=λW (h:Below w.heap.size w W)=>Pl t r W (hT.below h);have hch:Lab.Cg r=(r == 45 || (decide (2<=Ec r) && decide (Ec r<=5) && (!((Ak r).getD default).soft && !((Ak r).getD default).out))):=by
  unfold Lab.Cg;cases Ak r<;>rfl
 have h45c:r=45->Ec r ≠ 2/\Ec r ≠ 3/\Ec r ≠ 4/\Ec r ≠ 5:=by rintro rfl;decide +kernel
 rw [hch];clear hch;obtain ⟨b0,b1,b2,b3,rfl,-,-,-,-⟩:=hT;generalize Ec r=c at KC h45c ⊢;unfold Aqs at KS;generalize (Ak r).getD default=y at KS ⊢;generalize (Ak r).isSome=is at KS;obtain ⟨v0,v1,v2,v3,v4⟩:=y;simp only [Gi] at KS ⊢;have KS:=jH KS;by_cases hcs:2<=c/\c<=5
 ·rw [decide_eq_true hcs.1,decide_eq_true hcs.2,beq_eq_false_iff_ne.2 (show r ≠ 45 by intro e;have:=h45c e;omega),Bool.false_or,Bool.true_and,Bool.true_and];clear h45c;have hc4:c=2\/c=3\/c=4\/c=5:=jO
  clear hcs;rcases hc4 with rfl | rfl | rfl | rfl<;>cases v3<;>cases v4
  all_goals
   go_enter func282,ntmps282;go_wp2_with fail;refine (KC.out _ (Ab _ _)).mono ?_;rintro e w2 ⟨rfl,hb2⟩;have BX:=jH (Lu hb2);obtain ⟨hS5,d0,d1,d2,d3⟩:=BX.out.2;clear hb2;go_wp2_with fail;refine (KS.out w2 BX.out.1).mono ?_;rintro e w3 ⟨rfl,hb3⟩;have B3:=jH (Aa BX.out.1 hb3);clear hb3 d0 d1 d2 d3 hS5;go_wp2;go_ret;exact ⟨rfl,Ap B3.out (jaa _) _⟩
 ·have hcf:(decide (2<=c) && decide (c<=5))=false:=by
   rw [Bool.and_eq_false_iff,decide_eq_false_iff_not,decide_eq_false_iff_not];omega
  rw [hcf,Bool.false_and,Bool.or_false];clear h45c hcf;have e2:(c == 2)=false:=by rw [beq_eq_false_iff_ne];omega
  have e3:(c == 3)=false:=by rw [beq_eq_false_iff_ne];omega
  have e4:(c == 4)=false:=by rw [beq_eq_false_iff_ne];omega
  have e5:(c == 5)=false:=by rw [beq_eq_false_iff_ne];omega
  cases h45:(r == 45)
  all_goals
   go_enter func282,ntmps282;go_wp2_with fail;refine (KC.out _ (Ab _ _)).mono ?_;rintro e w2 ⟨rfl,hb2⟩;have BX:=jH (Lu hb2);clear hb2;go_wp2;go_ret;exact ⟨rfl,BX.out.1⟩
end
section
open Go.RowKit Utf
def D6 (n:Nat) (x:Int) (g:Nat) (cb:Array Value) (w:World):Prop :=
 w.cell? ⟨n,0,none⟩=some (.int .i64 x)/\w.cell? ⟨n+1,0,none⟩=some (.func (.func g) #[] cb)/\n+1<w.heap.size
theorem D6.same {n:Nat} {x:Int} {g:Nat} {cb:Array Value} {w w':World} (h:D6 n x g cb w) (hs:w.heap.size<=w'.heap.size) (h0:w'.heap[n]? = w.heap[n]?) (h1:w'.heap[n+1]? = w.heap[n+1]?):D6 n x g cb w' :=
 ⟨(World.cell?_of_block (a:=⟨n,0,none⟩) h0).trans h.1,(World.cell?_of_block (a:=⟨n+1,0,none⟩) h1).trans h.2.1,jas h.2.2 hs⟩
theorem D6.Ac {n:Nat} {x:Int} {g:Nat} {cb:Array Value} {w w':World} (h:D6 n x g cb w) (hb:Below w.heap.size w w'):D6 n x g cb w' :=
 h.same hb.size (hb.block n (by have:=h.2.2;omega)) (hb.block (n+1) h.2.2)
theorem Rh.ask {n:Nat} {x:Int} {g:Nat} {cb:Array Value} {e:Ending} {w w':World} (h:Rh n x g cb e w w'):D6 n x g cb w':=by
 obtain ⟨-,h1,h2,h3,-⟩:=h;exact ⟨h2,h3,by omega⟩
theorem D6.calls {n:Nat} {x:Int} {g:Nat} {cb:Array Value} {w:World} {b:Bool} (h:D6 n x g cb w) (eg:∀ args w,(callFunc g args).run prog w=.ok (.enter g args) w)
  (hf:Calls prog g cb w λe w'=>e=.returned (.bool b)/\Below w.heap.size w w') {y:Int} (hy:(if b then x else 0)=y) :
  Calls prog 267 #[.pointer (some ⟨n+1,0,none⟩),.pointer (some ⟨n,0,none⟩)] w λe w'=>e=.returned (.int .i64 y)/\Below w.heap.size w w':=by
 subst hy;exact Aev n g cb x b (λw'=>Below w.heap.size w w') w h.2.1 eg hf (λw' hb=>(hb.cell (p:=⟨n,0,none⟩) (show n<_ by have:=h.2.2;omega)).trans h.1)
theorem Ayl (g:Nat) (z:Int) (w:World) (hc:w.cell? ⟨g,0,none⟩=some (.int .i64 z)) :
  Calls prog 249 #[.pointer (some ⟨g,0,none⟩)] w λe w'=>e=.returned (.bool (decide (0<=z)))/\Below w.heap.size w w':=by
 cases hz:decide (0<=z)
 all_goals
  go_enter func249,ntmps249;go_wp2;go_ret;exact ⟨rfl,jan _ _⟩
theorem Aym (gs gt b0 b1 b2 b3:Nat) (s:ByteArray) (nf:Bool) (w:World) (hs:s.size<=100000) (hc:w.cell? ⟨gs,0,none⟩=some (.string s)) (hH:I6 gt b0 b1 b2 b3 w)
  (KI:Calls prog 251 #[.agg #[.slice (some ⟨b0,0,none⟩) 74 74,.slice (some ⟨b1,0,none⟩) 10 10,.slice (some ⟨b2,0,none⟩) 11 11,.slice (some ⟨b3,0,none⟩) 42 42],.string s] w λe w'=>e=.returned (.bool nf)/\Below w.heap.size w w') :
  Calls prog 250 #[.pointer (some ⟨gs,0,none⟩),.pointer (some ⟨gt,0,none⟩)] w λe w'=>e=.returned (.bool (decide (Ao s.data.toList<0) || !nf))/\Below w.heap.size w w':=by
 have KE:=jH (Hi s w hs);have KI:=jH KI;obtain ⟨-,c0,c1,c2,c3⟩:=hH;generalize Ao s.data.toList=z at KE ⊢;clear hs;cases hz:decide (z<0)<;>cases nf
 all_goals
  go_enter func250,ntmps250;go_wp2_with (first
   | (go_at_call 11;(with_reducible refine KE.out.mono ?_);rintro e w3 ⟨rfl,rfl⟩)
   | (go_at_call 251;(with_reducible refine KI.out.mono ?_);rintro e w4 ⟨rfl,hb⟩;have HB:=jH hb;clear hb))
  go_ret
  first | exact ⟨rfl,jan _ _⟩ | exact ⟨rfl,HB.out⟩
theorem Ayn (gs:Nat) (s:ByteArray) (w:World) (hs:s.size<=100000) (hc:w.cell? ⟨gs,0,none⟩=some (.string s)) :
  Calls prog 252 #[.pointer (some ⟨gs,0,none⟩)] w λe w'=>e=.returned (.bool (Lab.F3 s.data.toList))/\Below w.heap.size w w':=by
 have KE:=jH (Ns s w hs);clear hs;go_enter func252,ntmps252;go_wp2_with fail;refine KE.out.mono ?_;rintro e w3 ⟨rfl,rfl⟩;go_wp2;go_ret;exact ⟨rfl,jan _ _⟩
theorem Ayo (gt gl b0 b1 b2 b3:Nat) (A:Option Addr) (c:Nat) (l:List Int) (w:World) (hT:Table w (.agg #[.slice (some ⟨b0,0,none⟩) 74 74,.slice (some ⟨b1,0,none⟩) 10 10,.slice (some ⟨b2,0,none⟩) 11 11,.slice (some ⟨b3,0,none⟩) 42 42]))
  (hH:I6 gt b0 b1 b2 b3 w) (hc:w.cell? ⟨gl,0,none⟩=some (.slice A l.length c)) (hgl:gl<w.heap.size) (hl:Runes (.slice A l.length c) l w) (h0:0<l.length) :
  Calls prog 253 #[.pointer (some ⟨gt,0,none⟩),.pointer (some ⟨gl,0,none⟩)] w λe w'=>e=.returned (.bool (Ec l[0]! == 4))/\Below w.heap.size w w':=by
 obtain ⟨A',c',hform,-,hx⟩:=hl.form;obtain ⟨rfl,-,rfl⟩:A=A'/\l.length=l.length/\c=c':=by injection hform with h1 h2 h3;exact ⟨h1,h2,h3⟩
 obtain ⟨ad,rfl,hb,hcell⟩:=hx 0 h0;rw [show ad.add 0=ad by unfold Addr.add;rw [if_pos rfl]] at hcell;obtain ⟨n,hn⟩:∃ n,n=l.length:=⟨_,rfl⟩
 obtain ⟨x,hxe⟩:∃ x,x=l[0]!:=⟨_,rfl⟩
 rw [<- hn] at hc h0;rw [<- hxe] at hcell ⊢;have h0z:(0:Int)<(n:Int):=jO
 have HH:=jH hH;have K:=jH (λW (h:Below w.heap.size w W)=>Aq3 _ x W (hT.below h));obtain ⟨hS,c0,c1,c2,c3⟩:=hH;generalize Ec x=y at K ⊢;have HC:=jH hcell;have HL:=jH hc;clear hform hl hx hxe hn hT;cases h4:(y == 4)
 all_goals
  go_enter func253,ntmps253;go_wp2;go_region_held3 (λw'=>w'.cell? ad=some (.int .i32 x)/\w'.cell? ⟨gl,0,none⟩=some (.slice (some ad) n c)/\w'.cell? ⟨gt,0,none⟩=some (.slice (some ⟨b0,0,none⟩) 74 74)/\w'.cell? ⟨gt,1,none⟩=some (.slice (some ⟨b1,0,none⟩) 10 10)/\w'.cell? ⟨gt,2,none⟩=some (.slice (some ⟨b2,0,none⟩) 11 11)/\w'.cell? ⟨gt,3,none⟩=some (.slice (some ⟨b3,0,none⟩) 42 42)) (go_keep) ((go_at_call 254;(with_reducible refine (K.out _ (jan _ _).drew).mono ?_);rintro e w5 ⟨rfl,hb5⟩;have hB5:=Ag hb5;have hx5:=(hB5.cell hb).trans HC.out;have hx6:=(hB5.cell (p:=⟨gl,0,none⟩) hgl).trans HL.out;have BX:=jH hB5;obtain ⟨hS5,d0,d1,d2,d3⟩:=HH.out.below hB5;clear hb5 hB5))
  go_wp2;go_ret;exact ⟨rfl,BX.out⟩
theorem Aom (gt b0 b1 b2 b3:Nat) (x:Int) (w:World) (hT:Table w (.agg #[.slice (some ⟨b0,0,none⟩) 74 74,.slice (some ⟨b1,0,none⟩) 10 10,.slice (some ⟨b2,0,none⟩) 11 11,.slice (some ⟨b3,0,none⟩) 42 42]))
  (hH:I6 gt b0 b1 b2 b3 w):Calls prog 281 #[.int .i32 x,.pointer (some ⟨gt,0,none⟩)] w λe w'=>e=.returned (.bool (!Lab.Cg x && !Ctx.Ci x))/\Below w.heap.size w w':=by
 have K:=jH (Asx _ x w hT);have KN:=jH (λW=>Akb x W);obtain ⟨hS,c0,c1,c2,c3⟩:=hH;generalize Lab.Cg x=y at K ⊢;generalize Ctx.Ci x=z at KN ⊢;clear hT;cases y<;>cases z
 all_goals
  go_enter func281,ntmps281;go_wp2_with (first
   | (go_at_call 282;(with_reducible refine K.out.mono ?_);rintro e w3 ⟨rfl,hb⟩;have HB:=jH hb;clear hb)
   | (go_at_call 283;(with_reducible refine (KN.out _).mono ?_);rintro e w4 ⟨rfl,hb⟩;have HB2:=jH (Aa HB.out hb);clear hb))
  go_ret
  first | exact ⟨rfl,HB2.out⟩ | exact ⟨rfl,HB.out⟩
theorem A33 (l:List Int):(!(!(l.any λx=>!Lab.Cg x && !Ctx.Ci x) && Ctx.all l))=Lab.Hc l:=by
 rw [Bool.not_and,Bool.not_not,Bool.eq_iff_iff];unfold Lab.Hc;rw [Bool.or_eq_true,List.any_eq_true,List.any_eq_true,Bool.not_eq_true',<- Bool.not_eq_true,Ctx.Lq];constructor
 ·rintro (⟨x,hx,h⟩ | h)
  ·obtain ⟨k,hk,rfl⟩:=List.getElem_of_mem hx;refine ⟨k,List.mem_range.2 hk,?_⟩;rw [<- getElem!_pos l k hk] at h;simp only [jag,Bool.not_eq_true'] at h;rw [Ctx.Jb hk,if_neg (by rw [h.2];decide),h.1];rfl
  ·have ⟨k,h2⟩:=Classical.not_forall.1 h;have ⟨hk,h3⟩:=Classical.not_forall.1 h2;have ⟨hn,hm⟩:=Classical.not_forall.1 h3;refine ⟨k,List.mem_range.2 hk,?_⟩;rw [Ctx.Jb hk,if_pos hn,if_neg hm];rfl
 ·rintro ⟨k,hk,h⟩;have hk:=List.mem_range.1 hk;rw [Ctx.Jb hk] at h;by_cases hn:Ctx.Ci l[k]! = true
  ·refine .inr (λha=>?_);rw [if_pos hn,if_pos (ha k hk hn)] at h;exact absurd h jS
  ·rw [if_neg hn] at h;refine .inl ⟨l[k],List.getElem_mem hk,?_⟩;rw [<- getElem!_pos l k hk];simp only [Bool.not_eq_true] at hn;rw [hn];simpa using h
theorem Aga (t:Value) (v:Value) (l:List Int) (w:World) (hT:Table w t) (hl:Runes v l w) (hn:l.length<=1000) :
  Calls prog 256 #[t,v] w λe w'=>e=.returned (.bool (!(l.any λx=>!Lab.Cg x && !Ctx.Ci x) && Ctx.all l))/\Below w.heap.size w w':=by
 have eg:∀ args w,(callFunc 281 args).run prog w=.ok (.enter 281 args) w:=enters_of func281 jK rfl;have hT0:=hT;obtain ⟨b0,b1,b2,b3,rfl,-,-,-,-⟩:=hT0;have hW:=Ab w (.cells #[.slice (some ⟨b0,0,none⟩) 74 74,.slice (some ⟨b1,0,none⟩) 10 10,.slice (some ⟨b2,0,none⟩) 11 11,.slice (some ⟨b3,0,none⟩) 42 42] 35);have hH:=Ih w b0 b1 b2 b3 35;have K:=Ib 281 #[.pointer (some ⟨w.heap.size,0,none⟩)] v l (λx=>!Lab.Cg x && !Ctx.Ci x) _ (hl.Ac hW) hn eg
  (λW x hb=>Aom w.heap.size b0 b1 b2 b3 x W ((hT.below hW).below hb) (hH.below hb))
 have KA:=jH (λW (h:Below w.heap.size w W)=>Asn _ v l W (hT.below h) (hl.Ac h) hn);generalize (l.any λx=>!Lab.Cg x && !Ctx.Ci x)=r at K ⊢;generalize Ctx.all l=q at KA ⊢;obtain ⟨A,c,rfl,-,-⟩:=hl.form;have K:=jH K;clear hT hl hn eg hW hH;cases r
 ·cases q
  all_goals
   go_enter func256,ntmps256;go_wp2_with fail;refine K.out.mono ?_;rintro e w2 ⟨rfl,hb2⟩;have BX:=jH (Lu hb2);obtain ⟨hS5,d0,d1,d2,d3⟩:=BX.out.2;clear hb2;go_wp2_with fail;refine (KA.out w2 BX.out.1).mono ?_;rintro e w3 ⟨rfl,hb3⟩;have HB:=jH (Aa BX.out.1 hb3);clear hb3;go_wp2;go_ret;exact ⟨rfl,HB.out⟩
 ·go_enter func256,ntmps256;go_wp2_with fail;refine K.out.mono ?_;rintro e w2 ⟨rfl,hb2⟩;have BX:=jH (Lu hb2);clear hb2;go_wp2;go_ret;exact ⟨rfl,BX.out.1⟩
theorem Ayp (gt gl b0 b1 b2 b3:Nat) (A:Option Addr) (c:Nat) (l:List Int) (w:World) (hT:Table w (.agg #[.slice (some ⟨b0,0,none⟩) 74 74,.slice (some ⟨b1,0,none⟩) 10 10,.slice (some ⟨b2,0,none⟩) 11 11,.slice (some ⟨b3,0,none⟩) 42 42]))
  (hH:I6 gt b0 b1 b2 b3 w) (hc:w.cell? ⟨gl,0,none⟩=some (.slice A l.length c)) (hl:Runes (.slice A l.length c) l w) (hn:l.length<=1000) :
  Calls prog 255 #[.pointer (some ⟨gt,0,none⟩),.pointer (some ⟨gl,0,none⟩)] w λe w'=>e=.returned (.bool (Lab.Hc l))/\Below w.heap.size w w':=by
 have K:=Aga _ _ l w hT hl hn;rw [<- A33];generalize (!(l.any λx=>!Lab.Cg x && !Ctx.Ci x) && Ctx.all l)=q at K ⊢;have K:=jH K;obtain ⟨hS,c0,c1,c2,c3⟩:=hH;clear hT hl hn;go_enter func255,ntmps255;go_wp2_with fail;refine K.out.mono ?_;rintro e w2 ⟨rfl,hb2⟩;have BX:=jH hb2;clear hb2;go_wp2;go_ret;exact ⟨rfl,BX.out⟩
theorem Ayq (gt gl b0 b1 b2 b3:Nat) (A:Option Addr) (c:Nat) (l:List Int) (w:World) (hT:Table w (.agg #[.slice (some ⟨b0,0,none⟩) 74 74,.slice (some ⟨b1,0,none⟩) 10 10,.slice (some ⟨b2,0,none⟩) 11 11,.slice (some ⟨b3,0,none⟩) 42 42]))
  (hH:I6 gt b0 b1 b2 b3 w) (hc:w.cell? ⟨gl,0,none⟩=some (.slice A l.length c)) (hgl:gl<w.heap.size) (hl:Runes (.slice A l.length c) l w) (hn:l.length<=1000) :
  Calls prog 257 #[.pointer (some ⟨gt,0,none⟩),.pointer (some ⟨gl,0,none⟩)] w λe w'=>e=.returned (.bool (Bidi.has l && !Bidi.Aby l))/\Below w.heap.size w w':=by
 have K:=jH (Ah4 _ _ l w hT hl hn);have KR:=jH (λW (h:Below w.heap.size w W)=>Afc _ _ l W (hT.below h) (hl.Ac h) hn);generalize Bidi.has l=p at K ⊢;generalize Bidi.Aby l=q at KR ⊢;have HH:=jH hH;have HL:=jH hc;obtain ⟨hS,c0,c1,c2,c3⟩:=hH;clear hT hl hn;cases p
 ·go_enter func257,ntmps257;go_wp2_with fail;refine K.out.mono ?_;rintro e w2 ⟨rfl,hb2⟩;have BX:=jH hb2;clear hb2;go_wp2;go_ret;exact ⟨rfl,BX.out⟩
 ·cases q
  all_goals
   go_enter func257,ntmps257;go_wp2_with fail;refine K.out.mono ?_;rintro e w2 ⟨rfl,hb2⟩;have BX:=jH hb2;have hx6:=(hb2.cell (p:=⟨gl,0,none⟩) hgl).trans HL.out;obtain ⟨hS5,d0,d1,d2,d3⟩:=HH.out.below hb2;clear hb2;go_wp2_with fail;refine (KR.out w2 BX.out).mono ?_;rintro e w3 ⟨rfl,hb3⟩;have HB:=jH (Aa BX.out hb3);clear hb3;go_wp2;go_ret;exact ⟨rfl,HB.out⟩
def Lo (C:Nat) (code:ByteArray) (is:Bool) (w0 W:World):Prop :=
 Below (C+2) w0 W/\(∀ j,C+4<=j->j<w0.heap.size->W.heap[j]? = w0.heap[j]?)/\W.heap[C+2]? = some (.cells #[.string code] 9 (0,0))/\W.heap[C+3]? = some (.cells #[.bool is] 4 (0,0))
theorem Lo.lt {C:Nat} {code:ByteArray} {is:Bool} {w0 W:World} (h:Lo C code is w0 W):C+3<W.heap.size:=(Array.getElem?_eq_some_iff.1 h.2.2.2).1
theorem Lo.Ac {C:Nat} {code:ByteArray} {is:Bool} {w0 W W':World} (h:Lo C code is w0 W) (hb:Below W.heap.size W W'):Lo C code is w0 W':=by
 have hlt:=h.lt;have hs:=h.1.size;exact ⟨h.1.trans (hb.mono jO),λj h1 h2=>(hb.block j jO).trans (h.2.1 j h1 h2),(hb.block _ jO).trans h.2.2.1,(hb.block _ hlt).trans h.2.2.2⟩
theorem Ayr (C:Nat) (A:Option Addr) (n c:Nat) (code0:ByteArray) (is0:Bool) (bs:List UInt8) (ok:Bool) (w:World) (hc:w.cell? ⟨C,0,none⟩=some (.slice A n c))
  (h2:w.heap[C+2]? = some (.cells #[.string code0] 9 (0,0))) (h3:w.heap[C+3]? = some (.cells #[.bool is0] 4 (0,0)))
  (KE:Calls prog 261 #[.slice A n c] w (Axn bs ok w)) :
  Calls prog 260 #[.pointer (some ⟨C,0,none⟩),.pointer (some ⟨C+2,0,none⟩),.pointer (some ⟨C+3,0,none⟩)] w λe w'=>e=.returned (.bool (!ok))/\Lo C ⟨bs.toArray⟩ ok w w':=by
 have KE:=jH KE;have H2:=jH h2;have H3:=jH h3;have hlt:C+3<w.heap.size:=(Array.getElem?_eq_some_iff.1 h3).1;have k2:w.cell? ⟨C+2,0,none⟩=some (.string code0):=by simp [World.cell?,h2]
 have k3:w.cell? ⟨C+3,0,none⟩=some (.bool is0):=by simp [World.cell?,h3]
 clear h2 h3;go_enter func260,ntmps260;go_wp2_with fail;refine KE.out.mono ?_;rintro e w2 ⟨rfl,hb⟩;have HB:=jH hb;have d1:=(hb.cell (p:=⟨C+2,0,none⟩) (show C+2<w.heap.size by omega)).trans k2;have d2:=(hb.cell (p:=⟨C+3,0,none⟩) hlt).trans k3;have f1:w2.frozen? ⟨C+2,0,none⟩=false:=by have:=(hb.block (C+2) jO).trans H2.out;simp [World.frozen?,this]
 have f2:w2.frozen? ⟨C+3,0,none⟩=false:=by have:=(hb.block (C+3) jO).trans H3.out;simp [World.frozen?,this]
 clear hb k2 k3;go_wp2;go_ret;have hB:=HB.out;have g2:=(hB.block (C+2) jO).trans H2.out;have g3:=(hB.block (C+3) jO).trans H3.out;refine ⟨rfl,?_,λj hj hlt=>?_,?_,?_⟩
 ·exact ((hB.mono (show C+2<=w.heap.size by omega)).setCell (p:=⟨C+2,0,none⟩) (show C+2<=C+2 by omega) _).setCell (p:=⟨C+3,0,none⟩) (show C+2<=C+3 by omega) _
 ·rw [<- hB.block j hlt];simp [World.setCell,Array.getElem?_modify,show C+2 ≠ j by omega,show C+3 ≠ j by omega]
 ·simp [World.setCell,Array.getElem?_modify,g2]
 ·simp [World.setCell,Array.getElem?_modify,g3]
theorem Ays (g:Nat) (s:ByteArray) (w:World) (hc:w.cell? ⟨g,0,none⟩=some (.string s)) :
  Calls prog 262 #[.pointer (some ⟨g,0,none⟩)] w λe w'=>e=.returned (.bool (decide (59<s.size)))/\Below w.heap.size w w':=by
 by_cases hz:59<s.size
 ·have hzz:(59:Int)<(s.size:Int):=jO
  rw [decide_eq_true hz];go_enter func262,ntmps262;go_wp2;go_ret;exact ⟨rfl,jan _ _⟩
 ·have hzz:¬ (59:Int)<(s.size:Int):=jO
  rw [decide_eq_false hz];go_enter func262,ntmps262;go_wp2;go_ret;exact ⟨rfl,jan _ _⟩
end
