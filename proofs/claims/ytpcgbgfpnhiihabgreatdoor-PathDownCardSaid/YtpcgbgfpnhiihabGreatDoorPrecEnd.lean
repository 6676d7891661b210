import Derived.Test.YtpcgbgfpnhiihabGreatDoorPrecPl
import Derived.Test.YtpcgbgfpnhiihabGreatDoorLabMid
set_option maxRecDepth 100000
set_option maxHeartbeats 4000000
namespace Go.Proofs.YtpcgbgfpnhiihabGreatDoor
open Tryz
open Go.RowKit Utf
namespace Prec
def Afv (r:Int):Bool:=Dh r == 1 && (match Ah r with | none=>true | some y=>!y.soft && !y.out)
def Lk (r:Int):Bool:=!Bh r && !Ctx.Br r
theorem Vw (l:List Int):Fj l=(l.any Lk || !Ctx.all l):=by
 have hi:∀ (k:Nat),k<l.length->(Ctx.Xb l (k:Nat) == 2 || (Ctx.Xb l (k:Nat) == 0 && !Bh l[k]!))=(Lk l[k]! || (Ctx.Br l[k]! && !Ctx.met l k)):=λk hk=>by
  rw [Ctx.He hk];unfold Lk;cases Ctx.Br l[k]!<;>cases Ctx.met l k<;>cases Bh l[k]!<;>rfl
 rw [Bool.eq_iff_iff];unfold Fj;rw [List.any_eq_true,Bool.or_eq_true,List.any_eq_true,Bool.not_eq_true'];constructor
 ·rintro ⟨k,hk,h⟩;have hk:=List.mem_range.1 hk;rw [hi k hk,Bool.or_eq_true,jag,Bool.not_eq_true'] at h;rcases h with h | ⟨h1,h2⟩
  ·exact .inl ⟨l[k]!,by rw [getElem!_pos l k hk];exact List.getElem_mem hk,h⟩
  ·exact .inr (Ctx.Ace hk h1 h2)
 ·rintro (⟨x,hx,h⟩ | h)
  ·obtain ⟨k,hk,rfl⟩:=List.getElem_of_mem hx;refine ⟨k,List.mem_range.2 hk,?_⟩;rw [hi k hk,getElem!_pos l k hk,h,Bool.true_or]
  ·have hn:¬ ∀ k,k<l.length->Ctx.Br l[k]! = true->Ctx.met l k=true:=λhh=>by rw [(Ctx.I8 l).2 hh] at h;cases h
   rw [Classical.not_forall] at hn;obtain ⟨k,hn⟩:=hn;rw [Classical.not_imp,Classical.not_imp] at hn;obtain ⟨hk,h1,h2⟩:=hn;refine ⟨k,List.mem_range.2 hk,?_⟩;rw [hi k hk,h1,Bool.eq_false_iff.2 h2];simp
end Prec
theorem Afz (t:Value) (r:Int) (w:World) (hT:Table w t):Calls prog 152 #[t,.int .i32 r] w λe w'=>e=.returned (.bool (Prec.Afv r))/\Below w.heap.size w w':=by
 have KC:=jH (λW (h:Below w.heap.size w W)=>Acl t r W (hT.below h));have KS:=λW (h:Below w.heap.size w W)=>Kj t r W (hT.below h);have hch:Prec.Afv r=(Dh r == 1 && (!((Ah r).getD default).soft && !((Ah r).getD default).out)):=by
  unfold Prec.Afv;cases Ah r<;>rfl
 rw [hch];clear hch;obtain ⟨b0,b1,b2,b3,rfl,-,-,-,-⟩:=hT;generalize Dh r=c at KC ⊢;unfold Acb at KS;generalize (Ah r).getD default=y at KS ⊢;generalize (Ah r).isSome=is at KS;obtain ⟨v0,v1,v2,v3,v4⟩:=y;simp only [Fm] at KS ⊢;have KS:=jH KS;by_cases h1:c=1
 ·subst h1;rw [beq_self_eq_true,Bool.true_and];cases v3<;>cases v4
  all_goals
   go_enter func152,ntmps152;go_wp2_with fail;refine (KC.out _ (Ab _ _)).mono ?_;rintro e w2 ⟨rfl,hb2⟩;have BX:=jH (Fk hb2);obtain ⟨hS5,d0,d1,d2,d3⟩:=BX.out.2;clear hb2;go_wp2_with fail;refine (KS.out w2 BX.out.1).mono ?_;rintro e w3 ⟨rfl,hb3⟩;have B3:=jH (Aa BX.out.1 hb3);clear hb3 d0 d1 d2 d3 hS5;go_wp2;go_ret;exact ⟨rfl,Al B3.out (jaa _) _⟩
 ·have e1:(c == 1)=false:=by rw [beq_eq_false_iff_ne];exact h1
  rw [e1,Bool.false_and];clear h1;go_enter func152,ntmps152;go_wp2_with fail;refine (KC.out _ (Ab _ _)).mono ?_;rintro e w2 ⟨rfl,hb2⟩;have BX:=jH (Fk hb2);clear hb2;go_wp2;go_ret;exact ⟨rfl,BX.out.1⟩
theorem Anr (t:Value) (r:Int) (w:World) (hT:Table w t):Calls prog 115 #[t,.int .i32 r] w λe w'=>e=.returned (.bool (Prec.Bh r))/\Below w.heap.size w w':=by
 have KG:=λW (h:Below w.heap.size w W)=>Afz t r W (hT.below h);have KL:=λW (h:Below w.heap.size w W)=>Z5 t r W (hT.below h);rw [show Prec.Bh r=((decide (33<=r) && decide (r<=126)) || Prec.Afv r || Lab.Bh r) from rfl];generalize Prec.Afv r=g at KG ⊢;generalize Lab.Bh r=k at KL ⊢;have KG:=jH KG;have KL:=jH KL;obtain ⟨b0,b1,b2,b3,rfl,-,-,-,-⟩:=hT;by_cases hp:33<=r/\r<=126
 ·have h1:decide (33<=r)=true:=decide_eq_true hp.1;have h2:decide (r<=126)=true:=decide_eq_true hp.2;rw [h1,h2,Bool.true_and,Bool.true_or,Bool.true_or];clear hp;go_enter func115,ntmps115;go_wp2;go_ret;exact ⟨rfl,Ab _ _⟩
 ·have hpf:(decide (33<=r) && decide (r<=126))=false:=by
   rw [Bool.and_eq_false_iff,decide_eq_false_iff_not,decide_eq_false_iff_not];omega
  rw [hpf,Bool.false_or];cases h1:decide (33<=r)
  case' true =>
   have h2:decide (r<=126)=false:=by rw [h1,Bool.true_and] at hpf;exact hpf
  all_goals
   clear hp hpf;cases g
   ·go_enter func115,ntmps115;go_wp2_with fail;refine (KG.out _ (Ab _ _)).mono ?_;rintro e w2 ⟨rfl,hb2⟩;have BX:=jH (Fk hb2);obtain ⟨hS5,d0,d1,d2,d3⟩:=BX.out.2;clear hb2;go_wp2_with fail;refine (KL.out w2 BX.out.1).mono ?_;rintro e w3 ⟨rfl,hb3⟩;have B3:=jH (Aa BX.out.1 hb3);clear hb3 d0 d1 d2 d3 hS5;go_wp2;go_ret;exact ⟨rfl,B3.out⟩
   ·go_enter func115,ntmps115;go_wp2_with fail;refine (KG.out _ (Ab _ _)).mono ?_;rintro e w2 ⟨rfl,hb2⟩;have BX:=jH (Fk hb2);clear hb2;go_wp2;go_ret;exact ⟨rfl,BX.out.1⟩
theorem Yj (t:Value) (b0 b1 b2 b3 B:Nat) (ht:t=.agg #[.slice (some ⟨b0,0,none⟩) 74 74,.slice (some ⟨b1,0,none⟩) 10 10,.slice (some ⟨b2,0,none⟩) 11 11,.slice (some ⟨b3,0,none⟩) 42 42]) (x:Int) (w:World) (hT:Table w t) (hH:Hh B b0 b1 b2 b3 w) :
  Calls prog 114 #[.int .i32 x,.pointer (some ⟨B,0,none⟩)] w λe w'=>e=.returned (.bool (Prec.Lk x))/\Below w.heap.size w w':=by
 have KC:=λW (h:Below w.heap.size w W)=>Anr t x W (hT.below h);have KN:=λW=>Ud x W;unfold Prec.Lk;generalize Prec.Bh x=c at KC ⊢;generalize Ctx.Br x=n at KN ⊢;subst ht;have KC:=jH KC;have KN:=jH KN;obtain ⟨hS,d0,d1,d2,d3⟩:=hH;clear hT;cases c<;>cases n
 all_goals
  go_enter func114,ntmps114;go_wp2_with fail;refine (KC.out _ (jan _ w)).mono ?_;rintro e w2 ⟨rfl,hb2⟩;have B2:=jH hb2;clear hb2
  first
   | (
    go_wp2;go_ret;exact ⟨rfl,B2.out⟩)
   | (
    go_wp2_with fail;refine (KN.out w2).mono ?_;rintro e w3 ⟨rfl,hb3⟩;have B3:=jH (Aa B2.out hb3);clear hb3;go_wp2;go_ret;exact ⟨rfl,B3.out⟩)
theorem Ai1 (t:Value) (s:ByteArray) (w:World) (hT:Table w t) (hs:Js s):Calls prog 85 #[t,.string s] w λe w'=>e=.returned (.int .i64 (Prec.Ly s.data.toList))/\Below w.heap.size w w':=by
 obtain ⟨⟨m,z⟩,hrd⟩:∃ q,Au s.data.toList=q:=⟨_,rfl⟩
 obtain ⟨l,hlm⟩:∃ l,ints m=l:=⟨_,rfl⟩
 have hln:m.length=l.length:=by rw [<- hlm];unfold ints;rw [jai]
 have KR:=jH (λW=>Kh s W hs.1 hrd);have hp:Prec.Ly s.data.toList=if z=-1 then Prec.Io l else 7:=by unfold Prec.Ly;rw [hrd,<- hlm]
 rw [hp];have hT0:=hT;obtain ⟨b0,b1,b2,b3,rfl,-,-,-,-⟩:=hT0;have HT:=jH hT;rcases (D5 hrd).2.2 with ⟨rfl,hes⟩ | ⟨k,rfl,-,-⟩
 case inr =>
  have hk0:(0:Int)<=(k:Int):=jO
  rw [if_neg jO];clear hp hT hs hrd hlm hln;go_enter func85,ntmps85;go_wp2_with fail;refine (KR.out _).mono ?_;rintro e w1 ⟨A,c,rfl,-,hb1⟩;have BX:=jH (Fk hb1);clear hb1;go_wp2;go_ret;exact ⟨rfl,BX.out.1⟩
 rw [if_pos rfl];have hl420:l.length<=420:=by have:=(hs.2 m hrd).2;omega
 have hnil:s.size=0 ↔ l=[]:=by
  constructor
  ·intro h;have e:s.data.toList=[]:=by
    have:s.data.toList.length=0:=by simpa using h
    exact List.eq_nil_of_length_eq_zero this
   rw [e,show Au ([]:List UInt8)=([],-1) by decide +kernel] at hrd;rw [<- hlm,<- (Prod.mk.inj hrd).1];rfl
  ·rintro rfl;have h2:=(Lab.Mw (s:=s.data.toList) (by rw [hrd])).2;rw [hrd] at h2;replace h2:s.data.toList=Ag (ints m):=h2;rw [hlm] at h2;have:s.data.toList.length=0:=by rw [h2];rfl
   simpa using this
 have HLM:=jH hlm;have HLN:=jH hln;have KT:=jH (λ(v:Value) (B:Nat) (W:World) (hb:Below w.heap.size w W) (hl:Runes v l W) (hH:Hh B b0 b1 b2 b3 W) =>
  Fs 114 #[.pointer (some ⟨B,0,none⟩)] v l Prec.Lk W hl jO (enters_of func114 jK rfl)
   (λV x h=>Yj _ b0 b1 b2 b3 B rfl x V ((HT.out.below hb).below h) (hH.below h)))
 have KA:=jH (λ(v:Value) (W:World) (hb:Below w.heap.size w W) (hl:Runes v l W)=>Zv _ v l W (HT.out.below hb) hl jO);have hbad:=Prec.Vw l;have HB:=jH hbad;have hcl:Prec.Io l=if l=[] then 13 else if Prec.Fj l then 8 else 0:=rfl;rw [hbad] at hcl;obtain ⟨X,hX⟩:∃ X,X=Prec.Io l:=⟨_,rfl⟩
 rw [<- hX] at hcl ⊢;generalize l.any Prec.Lk=st at KT hcl;generalize Ctx.all l=al at KA hcl;have HCL:=jH hcl;clear hp hT hs hrd hlm hln hX hcl hbad HB;by_cases h0:s.size=0
 ·have R:=jH (show X=13 by rw [HCL.out,if_pos (hnil.1 h0)]);obtain rfl:s=⟨#[]⟩:=ByteArray.ext (Array.eq_empty_of_size_eq_zero h0);clear hnil h0 hes;go_enter func85,ntmps85;go_wp2_with fail;refine (KR.out _).mono ?_;rintro e w1 ⟨A,c,rfl,-,hb1⟩;have BX:=jH (Fk hb1);clear hb1;go_wp2;go_ret;exact ⟨by rw [R.out];rfl,BX.out.1⟩
 have hst:(s.toList == [])=false:=by
  rw [beq_eq_false_iff_ne,ByteArray.toList_eq];intro h;exact h0 (by simpa using congrArg List.length h)
 have hsi:s.toList.isEmpty=false:=by
  rw [ByteArray.toList_eq,List.isEmpty_eq_false_iff];intro h;exact h0 (by simpa using congrArg List.length h)
 have R:=jH (show X=if (st || !al)=true then 8 else 0 by rw [HCL.out,if_neg (λh=>h0 (hnil.2 h))]);clear hnil h0 HCL hes;cases st<;>cases al
 all_goals
  go_enter func85,ntmps85;go_wp2_with fail;refine (KR.out _).mono ?_;rintro e w1 ⟨A,c,rfl,hl,hb1⟩;rw [HLM.out] at hl;rw [HLN.out];rw [HLN.out] at hl;have BX:=jH (Fk hb1);have HL:=jH hl;obtain ⟨hS5,d0,d1,d2,d3⟩:=BX.out.2;clear hb1 hl;go_wp2_with fail;refine (KT.out _ w.heap.size w1 BX.out.1 HL.out BX.out.2).mono ?_;rintro e w2 ⟨rfl,hb2⟩;have B2:=jH (Aa BX.out.1 hb2);have L2:=jH (HL.out.Ac hb2);obtain ⟨hS6,f0,f1,f2,f3⟩:=BX.out.2.below hb2;clear hb2 d0 d1 d2 d3 hS5
  first
   | (
     go_wp2;go_ret;exact ⟨by rw [R.out];rfl,B2.out⟩)
   | (
     go_wp2_with fail;refine (KA.out _ w2 B2.out L2.out).mono ?_;rintro e w3 ⟨rfl,hb3⟩;have B3:=jH (Aa B2.out hb3);clear hb3;go_wp2;go_ret;exact ⟨by rw [R.out];rfl,B3.out⟩)
theorem Apf (t:Value) (s:ByteArray) (w:World) (hT:Table w t) (hs:Av s):Calls prog 58 #[t,.string s] w λe w'=>e=.returned (.tuple #[.string ⟨(Prec.Q1 s.data.toList).2.toArray⟩,.int .i64 (Prec.Q1 s.data.toList).1])/\Below w.heap.size w w':=by
 have KF:=λW (h:Below w.heap.size w W)=>hs.fold t W (hT.below h);obtain ⟨P,hP⟩:∃ P,P=Prec.Q1 s.data.toList:=⟨_,rfl⟩
 rw [<- hP];unfold Prec.Q1 at hP;have hT0:=hT;by_cases hz:(Au s.data.toList).2=-1
 case neg =>
  rw [if_neg hz] at KF hP;rw [decide_eq_false hz] at KF;have KF:=jH KF;have R:=jH hP;obtain ⟨b0,b1,b2,b3,rfl,-,-,-,-⟩:=hT0;clear hP hz hs hT;go_enter func58,ntmps58;go_wp2_with fail;refine (KF.out _ (Ab _ _)).mono ?_;rintro e w2 ⟨rfl,hb2⟩;have BX:=jH (Fk hb2);clear hb2;go_wp2;go_ret2;exact ⟨by rw [R.out];rfl,BX.out.1⟩
 rw [if_pos hz] at KF hP;rw [decide_eq_true hz] at KF;obtain ⟨hr0,-⟩:=Lab.Mw hz;have hlen:(Fold.fold (ints (Au s.data.toList).1)).length<=420:=(hs.2 (Au s.data.toList).1 (by rw [<- hz])).2;have hr:=Dr hr0;obtain ⟨L,hL⟩:∃ L,Fold.fold (ints (Au s.data.toList).1)=L:=⟨_,rfl⟩
 rw [hL] at KF hP hlen hr;have hwide:=Tp hr hlen;have hcl:=Prec.Ai0 hr;have hrx:=Ff hr;obtain ⟨i1,i2,-⟩:=C8 hr;have hel:=Fo L;unfold Prec.Amv at hP;obtain ⟨X,hX⟩:∃ X,Ag L=X:=⟨_,rfl⟩
 rw [hX] at KF hP hwide hcl hrx hel;have KC:=λW (h:Below w.heap.size w W)=>Ai1 t ⟨X.toArray⟩ W (hT.below h) hwide;change ∀ W,Below w.heap.size w W->Calls _ _ _ W λe w'=>e=.returned (.int .i64 (Prec.Ly X))/\Below W.heap.size W w' at KC;rw [hcl] at KC;have KR0:∀ W,Calls prog 39 #[.string ⟨X.toArray⟩] W λe w'=>∃ A c,e=.returned (.tuple #[.slice A L.length c,.int .i64 (-1)])/\Runes (.slice A L.length c) L w'/\Below W.heap.size W w' :=
  λW=>(Kh ⟨X.toArray⟩ W hwide.1 hrx).mono λe w' ⟨A,c,he,hr,hb⟩=>⟨A,c,by rw [he,jai],by rw [jai,i1] at hr;exact hr,hb⟩
 have KR:=jH KR0;clear KR0;have KH:=λv W (h:Below w.heap.size w W) (hl:Runes v L W)=>Tx t v L W (hT.below h) hl jO;have KU:=λv W (h:Below w.heap.size w W) (hl:Runes v L W)=>Qc t v L W (hT.below h) hl jO;generalize Prec.Io L=cl at KC hP;generalize Bidi.has L=hh at KH hP;generalize Bidi.Xy L=ru at KU hP;have HP:=jH hP;have KF:=jH KF;have KC:=jH KC;have KH:=jH KH;have KU:=jH KU;obtain ⟨b0,b1,b2,b3,rfl,-,-,-,-⟩:=hT0;clear hP hz hs hT hr0 hlen hr hL hwide hcl hrx i1 i2 hel hX;by_cases h0:cl=0
 case neg =>
  have R:=jH (show P=(cl,[]) by rw [HP.out,if_pos h0]);have hx0:(cl == 0)=false:=by rw [beq_eq_false_iff_ne];exact h0
  clear h0 HP;go_enter func58,ntmps58;go_wp2_with fail;refine (KF.out _ (Ab _ _)).mono ?_;rintro e w2 ⟨rfl,hb2⟩;have BX:=jH (Fk hb2);obtain ⟨hS5,d0,d1,d2,d3⟩:=BX.out.2;clear hb2;go_wp2_with fail;refine (KC.out w2 BX.out.1).mono ?_;rintro e w3 ⟨rfl,hb3⟩;have B3:=jH (Aa BX.out.1 hb3);clear hb3 d0 d1 d2 d3 hS5;go_wp2;go_ret2;exact ⟨by rw [R.out];rfl,B3.out⟩
 subst h0;have R:=jH (show P=if (hh && !ru)=true then (9,[]) else (0,X) by rw [HP.out,if_neg jD]);clear HP;cases hh<;>cases ru
 all_goals
  go_enter func58,ntmps58;go_wp2_with fail;refine (KF.out _ (Ab _ _)).mono ?_;rintro e w2 ⟨rfl,hb2⟩;have BX:=jH (Fk hb2);have HD:=jH BX.out.2;obtain ⟨hS5,d0,d1,d2,d3⟩:=BX.out.2;clear hb2;go_wp2_with fail;refine (KC.out w2 BX.out.1).mono ?_;rintro e w3 ⟨rfl,hb3⟩;have B3:=jH (Aa BX.out.1 hb3);have D3:=jH (HD.out.below hb3);clear hb3 d0 d1 d2 d3 hS5;go_wp2_with fail;refine (KR.out w3).mono ?_;rintro e w4 ⟨A,c,rfl,hl,hb4⟩;have B4:=jH (Aa B3.out hb4);have D4:=jH (D3.out.below hb4);have L4:=jH hl;obtain ⟨hS6,f0,f1,f2,f3⟩:=D4.out;clear hb4 hl;go_wp2_with fail;refine (KH.out _ w4 B4.out L4.out).mono ?_;rintro e w5 ⟨rfl,hb5⟩;have B5:=jH (Aa B4.out hb5);have L5:=jH (L4.out.Ac hb5);obtain ⟨hS7,g0,g1,g2,g3⟩:=D4.out.below hb5;clear hb5 f0 f1 f2 f3 hS6
  first
   | (
    go_wp2;go_ret2;exact ⟨by rw [R.out];rfl,B5.out⟩)
   | (
    go_wp2_with fail;refine (KU.out _ w5 B5.out L5.out).mono ?_;rintro e w6 ⟨rfl,hb6⟩;have B6:=jH (Aa B5.out hb6);clear hb6;go_wp2;go_ret2;exact ⟨by rw [R.out];rfl,B6.out⟩)
