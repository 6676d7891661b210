import Derived.Test.YtppmbilonaflfaaGreatDoorPrecPl
import Derived.Test.YtppmbilonaflfaaGreatDoorLabMid
set_option maxHeartbeats 4000000
namespace Go.Proofs.YtppmbilonaflfaaGreatDoor
open Go.RowKit Utf
namespace Prec
def Aeo (r:Int):Bool:=Dk r == 1 && (match Aj r with | none=>true | some y=>!y.soft && !y.out)
def Kq (r:Int):Bool:=!Bj r && !Ctx.Bw r
theorem Yf (l:List Int):Fu l=(l.any Kq || !Ctx.all l):=by
 have hi:∀ (k:Nat),k<l.length->(Ctx.Xb l (k:Nat) == 2 || (Ctx.Xb l (k:Nat) == 0 && !Bj l[k]!))=(Kq l[k]! || (Ctx.Bw l[k]! && !Ctx.met l k)):=λk hk=>by
  rw [Ctx.He hk]
  unfold Kq
  cases Ctx.Bw l[k]!<;>cases Ctx.met l k<;>cases Bj l[k]!<;>rfl
 rw [Bool.eq_iff_iff]
 unfold Fu
 rw [List.any_eq_true,Bool.or_eq_true,List.any_eq_true,Bool.not_eq_true']
 constructor
 ·rintro ⟨k,hk,h⟩
  have hk:=List.mem_range.1 hk
  rw [hi k hk,Bool.or_eq_true,Bool.and_eq_true,Bool.not_eq_true'] at h
  rcases h with h | ⟨h1,h2⟩
  ·exact .inl ⟨l[k]!,by rw [getElem!_pos l k hk];exact List.getElem_mem hk,h⟩
  ·exact .inr (Ctx.Ack hk h1 h2)
 ·rintro (⟨x,hx,h⟩ | h)
  ·obtain ⟨k,hk,rfl⟩:=List.getElem_of_mem hx
   refine ⟨k,List.mem_range.2 hk,?_⟩
   rw [hi k hk,getElem!_pos l k hk,h,Bool.true_or]
  ·have hn:¬ ∀ k,k<l.length->Ctx.Bw l[k]! = true->Ctx.met l k=true:=λhh=>by rw [(Ctx.Jf l).2 hh] at h;cases h
   rw [Classical.not_forall] at hn
   obtain ⟨k,hn⟩:=hn
   rw [Classical.not_imp,Classical.not_imp] at hn
   obtain ⟨hk,h1,h2⟩:=hn
   refine ⟨k,List.mem_range.2 hk,?_⟩
   rw [hi k hk,h1,Bool.eq_false_iff.2 h2]
   simp
end Prec
set_option maxRecDepth 100000 in
theorem Ag4 (t:Value) (r:Int) (w:World) (hT:Table w t):Calls Tryz.prog 187 #[t,.int .i32 r] w λe w'=>e=.returned (.bool (Prec.Aeo r))/\Below w.heap.size w w':=by
 have KC:=Lib.hid (λW (h:Below w.heap.size w W)=>Acn t r W (hT.below h))
 have KS:=λW (h:Below w.heap.size w W)=>Kj t r W (hT.below h)
 have hch:Prec.Aeo r=(Dk r == 1 && (!((Aj r).getD default).soft && !((Aj r).getD default).out)):=by
  unfold Prec.Aeo
  cases Aj r<;>rfl
 rw [hch]
 clear hch
 obtain ⟨b0,b1,b2,b3,rfl,-,-,-,-⟩:=hT
 generalize Dk r=c at KC ⊢
 unfold Ac9 at KS
 generalize (Aj r).getD default=y at KS ⊢
 generalize (Aj r).isSome=is at KS
 obtain ⟨v0,v1,v2,v3,v4⟩:=y
 simp only [Ft] at KS ⊢
 have KS:=Lib.hid KS
 by_cases h1:c=1
 ·subst h1
  rw [beq_self_eq_true,Bool.true_and]
  cases v3<;>cases v4
  all_goals
   go_enter Tryz.func187,Tryz.ntmps187
   go_wp2_with fail
   refine (KC.out _ (Ab _ _)).mono ?_
   rintro e w2 ⟨rfl,hb2⟩
   have BX:=Lib.hid (Fq hb2)
   obtain ⟨hS5,d0,d1,d2,d3⟩:=BX.out.2
   clear hb2
   go_wp2_with fail
   refine (KS.out w2 BX.out.1).mono ?_
   rintro e w3 ⟨rfl,hb3⟩
   have B3:=Lib.hid (Aa BX.out.1 hb3)
   clear hb3 d0 d1 d2 d3 hS5
   go_wp2
   go_ret
   exact ⟨rfl,Am B3.out (Nat.le_refl _) _⟩
 ·have e1:(c == 1)=false:=by rw [beq_eq_false_iff_ne];exact h1
  rw [e1,Bool.false_and]
  clear h1
  go_enter Tryz.func187,Tryz.ntmps187
  go_wp2_with fail
  refine (KC.out _ (Ab _ _)).mono ?_
  rintro e w2 ⟨rfl,hb2⟩
  have BX:=Lib.hid (Fq hb2)
  clear hb2
  go_wp2
  go_ret
  exact ⟨rfl,BX.out.1⟩
set_option maxRecDepth 100000 in
theorem Apd (t:Value) (r:Int) (w:World) (hT:Table w t):Calls Tryz.prog 131 #[t,.int .i32 r] w λe w'=>e=.returned (.bool (Prec.Bj r))/\Below w.heap.size w w':=by
 have KG:=λW (h:Below w.heap.size w W)=>Ag4 t r W (hT.below h)
 have KL:=λW (h:Below w.heap.size w W)=>Aab t r W (hT.below h)
 rw [show Prec.Bj r=((decide (33<=r) && decide (r<=126)) || Prec.Aeo r || Lab.Bj r) from rfl]
 generalize Prec.Aeo r=g at KG ⊢
 generalize Lab.Bj r=k at KL ⊢
 have KG:=Lib.hid KG
 have KL:=Lib.hid KL
 obtain ⟨b0,b1,b2,b3,rfl,-,-,-,-⟩:=hT
 by_cases hp:33<=r/\r<=126
 ·have h1:decide (33<=r)=true:=decide_eq_true hp.1
  have h2:decide (r<=126)=true:=decide_eq_true hp.2
  rw [h1,h2,Bool.true_and,Bool.true_or,Bool.true_or]
  clear hp
  go_enter Tryz.func131,Tryz.ntmps131
  go_wp2
  go_ret
  exact ⟨rfl,Ab _ _⟩
 ·have hpf:(decide (33<=r) && decide (r<=126))=false:=by
   rw [Bool.and_eq_false_iff,decide_eq_false_iff_not,decide_eq_false_iff_not];omega
  rw [hpf,Bool.false_or]
  cases h1:decide (33<=r)
  case' true =>
   have h2:decide (r<=126)=false:=by rw [h1,Bool.true_and] at hpf;exact hpf
  all_goals
   clear hp hpf
   cases g
   ·go_enter Tryz.func131,Tryz.ntmps131
    go_wp2_with fail
    refine (KG.out _ (Ab _ _)).mono ?_
    rintro e w2 ⟨rfl,hb2⟩
    have BX:=Lib.hid (Fq hb2)
    obtain ⟨hS5,d0,d1,d2,d3⟩:=BX.out.2
    clear hb2
    go_wp2_with fail
    refine (KL.out w2 BX.out.1).mono ?_
    rintro e w3 ⟨rfl,hb3⟩
    have B3:=Lib.hid (Aa BX.out.1 hb3)
    clear hb3 d0 d1 d2 d3 hS5
    go_wp2
    go_ret
    exact ⟨rfl,B3.out⟩
   ·go_enter Tryz.func131,Tryz.ntmps131
    go_wp2_with fail
    refine (KG.out _ (Ab _ _)).mono ?_
    rintro e w2 ⟨rfl,hb2⟩
    have BX:=Lib.hid (Fq hb2)
    clear hb2
    go_wp2
    go_ret
    exact ⟨rfl,BX.out.1⟩
set_option maxRecDepth 100000 in
theorem Xw (t:Value) (b0 b1 b2 b3 B:Nat) (ht:t=.agg #[.slice (some ⟨b0,0,none⟩) 74 74,.slice (some ⟨b1,0,none⟩) 10 10,.slice (some ⟨b2,0,none⟩) 11 11,.slice (some ⟨b3,0,none⟩) 42 42]) (x:Int) (w:World) (hT:Table w t) (hH:Hk B b0 b1 b2 b3 w) :
  Calls Tryz.prog 130 #[.int .i32 x,.pointer (some ⟨B,0,none⟩)] w λe w'=>e=.returned (.bool (Prec.Kq x))/\Below w.heap.size w w':=by
 have KC:=λW (h:Below w.heap.size w W)=>Apd t x W (hT.below h)
 have KN:=λW=>Tm x W
 unfold Prec.Kq
 generalize Prec.Bj x=c at KC ⊢
 generalize Ctx.Bw x=n at KN ⊢
 subst ht
 have KC:=Lib.hid KC
 have KN:=Lib.hid KN
 obtain ⟨hS,d0,d1,d2,d3⟩:=hH
 clear hT
 cases c<;>cases n
 all_goals
  go_enter Tryz.func130,Tryz.ntmps130
  go_wp2_with fail
  refine (KC.out _ (Below.refl _ w)).mono ?_
  rintro e w2 ⟨rfl,hb2⟩
  have B2:=Lib.hid hb2
  clear hb2
  first
   | (
    go_wp2
    go_ret
    exact ⟨rfl,B2.out⟩)
   | (
    go_wp2_with fail
    refine (KN.out w2).mono ?_
    rintro e w3 ⟨rfl,hb3⟩
    have B3:=Lib.hid (Aa B2.out hb3)
    clear hb3
    go_wp2
    go_ret
    exact ⟨rfl,B3.out⟩)
set_option maxRecDepth 100000 in
theorem Ajv (t:Value) (s:ByteArray) (w:World) (hT:Table w t) (hs:Ke s):Calls Tryz.prog 84 #[t,.string s] w λe w'=>e=.returned (.int .i64 (Prec.Me s.data.toList))/\Below w.heap.size w w':=by
 obtain ⟨⟨m,z⟩,hrd⟩:∃ q,Aq s.data.toList=q:=⟨_,rfl⟩
 obtain ⟨l,hlm⟩:∃ l,ints m=l:=⟨_,rfl⟩
 have hln:m.length=l.length:=by rw [<- hlm];unfold ints;rw [List.length_map]
 have KR:=Lib.hid (λW=>Jw s W hs.1 hrd)
 have hp:Prec.Me s.data.toList=if z=-1 then Prec.Hw l else 7:=by unfold Prec.Me;rw [hrd,<- hlm]
 rw [hp]
 have hT0:=hT
 obtain ⟨b0,b1,b2,b3,rfl,-,-,-,-⟩:=hT0
 have HT:=Lib.hid hT
 rcases (Dt hrd).2.2 with ⟨rfl,hes⟩ | ⟨k,rfl,-,-⟩
 case inr =>
  have hk0:(0:Int)<=(k:Int):=by omega
  rw [if_neg (by omega)]
  clear hp hT hs hrd hlm hln
  go_enter Tryz.func84,Tryz.ntmps84
  go_wp2_with fail
  refine (KR.out _).mono ?_
  rintro e w1 ⟨A,c,rfl,-,hb1⟩
  have BX:=Lib.hid (Fq hb1)
  clear hb1
  go_wp2
  go_ret
  exact ⟨rfl,BX.out.1⟩
 rw [if_pos rfl]
 have hl420:l.length<=420:=by have:=(hs.2 m hrd).2;omega
 have hnil:s.size=0 ↔ l=[]:=by
  constructor
  ·intro h
   have e:s.data.toList=[]:=by
    have:s.data.toList.length=0:=by simpa using h
    exact List.eq_nil_of_length_eq_zero this
   rw [e,show Aq ([]:List UInt8)=([],-1) by decide +kernel] at hrd
   rw [<- hlm,<- (Prod.mk.inj hrd).1]
   rfl
  ·rintro rfl
   have h2:=(Lab.Lr (s:=s.data.toList) (by rw [hrd])).2
   rw [hrd] at h2
   replace h2:s.data.toList=Ah (ints m):=h2
   rw [hlm] at h2
   have:s.data.toList.length=0:=by rw [h2];rfl
   simpa using this
 have HLM:=Lib.hid hlm
 have HLN:=Lib.hid hln
 have KT:=Lib.hid (λ(v:Value) (B:Nat) (W:World) (hb:Below w.heap.size w W) (hl:Runes v l W) (hH:Hk B b0 b1 b2 b3 W) =>
  Fs 130 #[.pointer (some ⟨B,0,none⟩)] v l Prec.Kq W hl (by omega) (enters_of Tryz.func130 (by kernel_rfl) rfl)
   (λV x h=>Xw _ b0 b1 b2 b3 B rfl x V ((HT.out.below hb).below h) (hH.below h)))
 have KA:=Lib.hid (λ(v:Value) (W:World) (hb:Below w.heap.size w W) (hl:Runes v l W)=>Aa3 _ v l W (HT.out.below hb) hl (by omega))
 have hbad:=Prec.Yf l
 have HB:=Lib.hid hbad
 have hcl:Prec.Hw l=if l=[] then 13 else if Prec.Fu l then 8 else 0:=rfl
 rw [hbad] at hcl
 obtain ⟨X,hX⟩:∃ X,X=Prec.Hw l:=⟨_,rfl⟩
 rw [<- hX] at hcl ⊢
 generalize l.any Prec.Kq=st at KT hcl
 generalize Ctx.all l=al at KA hcl
 have HCL:=Lib.hid hcl
 clear hp hT hs hrd hlm hln hX hcl hbad HB
 by_cases h0:s.size=0
 ·have R:=Lib.hid (show X=13 by rw [HCL.out,if_pos (hnil.1 h0)])
  obtain rfl:s=⟨#[]⟩:=ByteArray.ext (Array.eq_empty_of_size_eq_zero h0)
  clear hnil h0 hes
  go_enter Tryz.func84,Tryz.ntmps84
  go_wp2_with fail
  refine (KR.out _).mono ?_
  rintro e w1 ⟨A,c,rfl,-,hb1⟩
  have BX:=Lib.hid (Fq hb1)
  clear hb1
  go_wp2
  go_ret
  exact ⟨by rw [R.out];rfl,BX.out.1⟩
 have hst:(s.toList == [])=false:=by
  rw [beq_eq_false_iff_ne,ByteArray.toList_eq]
  intro h
  exact h0 (by simpa using congrArg List.length h)
 have hsi:s.toList.isEmpty=false:=by
  rw [ByteArray.toList_eq,List.isEmpty_eq_false_iff]
  intro h
  exact h0 (by simpa using congrArg List.length h)
 have R:=Lib.hid (show X=if (st || !al)=true then 8 else 0 by rw [HCL.out,if_neg (λh=>h0 (hnil.2 h))])
 clear hnil h0 HCL hes
 cases st<;>cases al
 all_goals
  go_enter Tryz.func84,Tryz.ntmps84
  go_wp2_with fail
  refine (KR.out _).mono ?_
  rintro e w1 ⟨A,c,rfl,hl,hb1⟩
  rw [HLM.out] at hl
  rw [HLN.out]
  rw [HLN.out] at hl
  have BX:=Lib.hid (Fq hb1)
  have HL:=Lib.hid hl
  obtain ⟨hS5,d0,d1,d2,d3⟩:=BX.out.2
  clear hb1 hl
  go_wp2_with fail
  refine (KT.out _ w.heap.size w1 BX.out.1 HL.out BX.out.2).mono ?_
  rintro e w2 ⟨rfl,hb2⟩
  have B2:=Lib.hid (Aa BX.out.1 hb2)
  have L2:=Lib.hid (HL.out.Ac hb2)
  obtain ⟨hS6,f0,f1,f2,f3⟩:=BX.out.2.below hb2
  clear hb2 d0 d1 d2 d3 hS5
  first
   | (
     go_wp2
     go_ret
     exact ⟨by rw [R.out];rfl,B2.out⟩)
   | (
     go_wp2_with fail
     refine (KA.out _ w2 B2.out L2.out).mono ?_
     rintro e w3 ⟨rfl,hb3⟩
     have B3:=Lib.hid (Aa B2.out hb3)
     clear hb3
     go_wp2
     go_ret
     exact ⟨by rw [R.out];rfl,B3.out⟩)
set_option maxRecDepth 100000 in
theorem Aqq (t:Value) (s:ByteArray) (w:World) (hT:Table w t) (hs:Az s):Calls Tryz.prog 51 #[t,.string s] w λe w'=>e=.returned (.tuple #[.string ⟨(Prec.Hs s.data.toList).2.toArray⟩,.int .i64 (Prec.Hs s.data.toList).1])/\Below w.heap.size w w':=by
 have KF:=λW (h:Below w.heap.size w W)=>hs.fold t W (hT.below h)
 obtain ⟨P,hP⟩:∃ P,P=Prec.Hs s.data.toList:=⟨_,rfl⟩
 rw [<- hP]
 unfold Prec.Hs at hP
 have hT0:=hT
 by_cases hz:(Aq s.data.toList).2=-1
 case neg =>
  rw [if_neg hz] at KF hP
  rw [decide_eq_false hz] at KF
  have KF:=Lib.hid KF
  have R:=Lib.hid hP
  obtain ⟨b0,b1,b2,b3,rfl,-,-,-,-⟩:=hT0
  clear hP hz hs hT
  go_enter Tryz.func51,Tryz.ntmps51
  go_wp2_with fail
  refine (KF.out _ (Ab _ _)).mono ?_
  rintro e w2 ⟨rfl,hb2⟩
  have BX:=Lib.hid (Fq hb2)
  clear hb2
  go_wp2
  go_ret2
  exact ⟨by rw [R.out];rfl,BX.out.1⟩
 rw [if_pos hz] at KF hP
 rw [decide_eq_true hz] at KF
 obtain ⟨hr0,-⟩:=Lab.Lr hz
 have hlen:(Fold.fold (ints (Aq s.data.toList).1)).length<=420:=(hs.2 (Aq s.data.toList).1 (by rw [<- hz])).2
 have hr:=Dg hr0
 obtain ⟨L,hL⟩:∃ L,Fold.fold (ints (Aq s.data.toList).1)=L:=⟨_,rfl⟩
 rw [hL] at KF hP hlen hr
 have hwide:=Sn hr hlen
 have hcl:=Prec.Ajq hr
 have hrx:=E8 hr
 obtain ⟨i1,i2,-⟩:=Cr hr
 have hel:=Fm L
 unfold Prec.Ug at hP
 obtain ⟨X,hX⟩:∃ X,Ah L=X:=⟨_,rfl⟩
 rw [hX] at KF hP hwide hcl hrx hel
 have KC:=λW (h:Below w.heap.size w W)=>Ajv t ⟨X.toArray⟩ W (hT.below h) hwide
 change ∀ W,Below w.heap.size w W->Calls _ _ _ W λe w'=>e=.returned (.int .i64 (Prec.Me X))/\Below W.heap.size W w' at KC
 rw [hcl] at KC
 have KR0:∀ W,Calls Tryz.prog 73 #[.string ⟨X.toArray⟩] W λe w'=>∃ A c,e=.returned (.tuple #[.slice A L.length c,.int .i64 (-1)])/\Runes (.slice A L.length c) L w'/\Below W.heap.size W w' :=
  λW=>(Jw ⟨X.toArray⟩ W hwide.1 hrx).mono λe w' ⟨A,c,he,hr,hb⟩=>⟨A,c,by rw [he,List.length_map],by rw [List.length_map,i1] at hr;exact hr,hb⟩
 have KR:=Lib.hid KR0
 clear KR0
 have KH:=λv W (h:Below w.heap.size w W) (hl:Runes v L W)=>Ua t v L W (hT.below h) hl (by omega)
 have KU:=λv W (h:Below w.heap.size w W) (hl:Runes v L W)=>Qy t v L W (hT.below h) hl (by omega)
 generalize Prec.Hw L=cl at KC hP
 generalize Bidi.has L=hh at KH hP
 generalize Bidi.Uq L=ru at KU hP
 have HP:=Lib.hid hP
 have KF:=Lib.hid KF
 have KC:=Lib.hid KC
 have KH:=Lib.hid KH
 have KU:=Lib.hid KU
 obtain ⟨b0,b1,b2,b3,rfl,-,-,-,-⟩:=hT0
 clear hP hz hs hT hr0 hlen hr hL hwide hcl hrx i1 i2 hel hX
 by_cases h0:cl=0
 case neg =>
  have R:=Lib.hid (show P=(cl,[]) by rw [HP.out,if_pos h0])
  have hx0:(cl == 0)=false:=by rw [beq_eq_false_iff_ne];exact h0
  clear h0 HP
  go_enter Tryz.func51,Tryz.ntmps51
  go_wp2_with fail
  refine (KF.out _ (Ab _ _)).mono ?_
  rintro e w2 ⟨rfl,hb2⟩
  have BX:=Lib.hid (Fq hb2)
  obtain ⟨hS5,d0,d1,d2,d3⟩:=BX.out.2
  clear hb2
  go_wp2_with fail
  refine (KC.out w2 BX.out.1).mono ?_
  rintro e w3 ⟨rfl,hb3⟩
  have B3:=Lib.hid (Aa BX.out.1 hb3)
  clear hb3 d0 d1 d2 d3 hS5
  go_wp2
  go_ret2
  exact ⟨by rw [R.out];rfl,B3.out⟩
 subst h0
 have R:=Lib.hid (show P=if (hh && !ru)=true then (9,[]) else (0,X) by rw [HP.out,if_neg (by decide)])
 clear HP
 cases hh<;>cases ru
 all_goals
  go_enter Tryz.func51,Tryz.ntmps51
  go_wp2_with fail
  refine (KF.out _ (Ab _ _)).mono ?_
  rintro e w2 ⟨rfl,hb2⟩
  have BX:=Lib.hid (Fq hb2)
  have HD:=Lib.hid BX.out.2
  obtain ⟨hS5,d0,d1,d2,d3⟩:=BX.out.2
  clear hb2
  go_wp2_with fail
  refine (KC.out w2 BX.out.1).mono ?_
  rintro e w3 ⟨rfl,hb3⟩
  have B3:=Lib.hid (Aa BX.out.1 hb3)
  have D3:=Lib.hid (HD.out.below hb3)
  clear hb3 d0 d1 d2 d3 hS5
  go_wp2_with fail
  refine (KR.out w3).mono ?_
  rintro e w4 ⟨A,c,rfl,hl,hb4⟩
  have B4:=Lib.hid (Aa B3.out hb4)
  have D4:=Lib.hid (D3.out.below hb4)
  have L4:=Lib.hid hl
  obtain ⟨hS6,f0,f1,f2,f3⟩:=D4.out
  clear hb4 hl
  go_wp2_with fail
  refine (KH.out _ w4 B4.out L4.out).mono ?_
  rintro e w5 ⟨rfl,hb5⟩
  have B5:=Lib.hid (Aa B4.out hb5)
  have L5:=Lib.hid (L4.out.Ac hb5)
  obtain ⟨hS7,g0,g1,g2,g3⟩:=D4.out.below hb5
  clear hb5 f0 f1 f2 f3 hS6
  first
   | (
    go_wp2
    go_ret2
    exact ⟨by rw [R.out];rfl,B5.out⟩)
   | (
    go_wp2_with fail
    refine (KU.out _ w5 B5.out L5.out).mono ?_
    rintro e w6 ⟨rfl,hb6⟩
    have B6:=Lib.hid (Aa B5.out hb6)
    clear hb6
    go_wp2
    go_ret2
    exact ⟨by rw [R.out];rfl,B6.out⟩)
end Go.Proofs.YtppmbilonaflfaaGreatDoor
