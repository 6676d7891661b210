import Derived.Test.YthnhgmdlbfbhjaaGreatCtxEnd
import Derived.Test.YthnhgmdlbfbhjaaGreatBidiAll
import Derived.Test.YthnhgmdlbfbhjaaGreatDomMid
set_option maxRecDepth 100000
set_option maxHeartbeats 8000000
namespace Go.Proofs.YthnhgmdlbfbhjaaGreat
open Tryz
section
open Go.RowKit Utf
theorem Ahj (r:Int) (w:World):Calls prog 77 #[.int .i32 r] w λe w'=>e=.returned (.bool (Lab.C9 r))/\Below w.heap.size w w':=by
 by_cases h45:r=45
 ·subst h45;go_enter func77,ntmps77;go_wp2;go_ret;exact ⟨rfl,jan _ _⟩
 ·have e45:(r == 45)=false:=by simpa using h45
  have KC:=jH (Vy r w);have KS:=λW=>La r W;rw [Lab.Adx e45];generalize Bm r=c at KC ⊢;unfold Tj at KS;generalize (Aj r).getD default=y at KS ⊢;generalize (Aj r).isSome=is at KS ⊢;clear h45;obtain ⟨v0,v1,v2,v3,v4⟩:=y;simp only [Ew] at KS;have KS:=jH KS;have hcs:c<2\/(2<=c/\c<=5)\/5<c:=jO
  rcases hcs with h | ⟨h,h'⟩ | h
  ·rw [decide_eq_false (p:=2<=c) jO,Bool.false_and,Bool.false_and];go_enter func77,ntmps77;go_wp2_with fail;refine KC.out.mono ?_;rintro e w2 ⟨rfl,hb2⟩;have B2:=jH hb2;clear hb2;go_wp2_with fail;refine (KS.out w2).mono ?_;rintro e w3 ⟨rfl,hb3⟩;have B3:=jH (Aa B2.out hb3);clear hb3;go_wp2;go_ret;exact ⟨rfl,Al B3.out (jaa _) _⟩
  ·rw [decide_eq_true h,decide_eq_true h',Bool.and_true,Bool.true_and];cases is
   ·go_enter func77,ntmps77;go_wp2_with fail;refine KC.out.mono ?_;rintro e w2 ⟨rfl,hb2⟩;have B2:=jH hb2;clear hb2;go_wp2_with fail;refine (KS.out w2).mono ?_;rintro e w3 ⟨rfl,hb3⟩;have B3:=jH (Aa B2.out hb3);clear hb3;go_wp2;go_ret;exact ⟨rfl,Al B3.out (jaa _) _⟩
   ·cases v3<;>cases v4
    all_goals
     go_enter func77,ntmps77;go_wp2_with fail;refine KC.out.mono ?_;rintro e w2 ⟨rfl,hb2⟩;have B2:=jH hb2;clear hb2;go_wp2_with fail;refine (KS.out w2).mono ?_;rintro e w3 ⟨rfl,hb3⟩;have B3:=jH (Aa B2.out hb3);clear hb3;go_wp2;go_ret;exact ⟨rfl,Al B3.out (jaa _) _⟩
  ·rw [decide_eq_false (p:=c<=5) jO,Bool.and_false,Bool.false_and];go_enter func77,ntmps77;go_wp2_with fail;refine KC.out.mono ?_;rintro e w2 ⟨rfl,hb2⟩;have B2:=jH hb2;clear hb2;go_wp2_with fail;refine (KS.out w2).mono ?_;rintro e w3 ⟨rfl,hb3⟩;have B3:=jH (Aa B2.out hb3);clear hb3;go_wp2;go_ret;exact ⟨rfl,Al B3.out (jaa _) _⟩
theorem Xo (s:ByteArray) (w:World) (hs:s.size<=100000):Calls prog 74 #[.string s] w λe w'=>e=.returned (.bool (Lab.Cw s.data.toList))/\w=w':=by
 have hsl:s.data.toList.length=s.size:=by simp
 by_cases h0:s.size=0
 ·have hz:¬ (0:Int)<(s.size:Int):=jO
  have:Lab.Cw s.data.toList=false:=by
   rw [List.eq_nil_of_length_eq_zero (show s.data.toList.length=0 by omega)];rfl
  rw [this];clear this hsl h0;go_enter func74,ntmps74;go_wp2;go_ret;exact ⟨rfl,rfl⟩
 ·unfold Lab.Cw;rw [hsl];have hz:(0:Int)<(s.size:Int):=jO
  have hz2:0<s.size:=jO
  have a0:Lab.Cv s.data.toList 0=(s[0].toNat:Int):=Lab.Ec (s:=s) (k:=0) jO;have a1:Lab.Cv s.data.toList (s.size - 1)=(s[s.size - 1].toNat:Int):=Lab.Ec (s:=s) (k:=s.size - 1) jO;rw [a0,a1];clear a0 a1;cases e0:((s[0].toNat:Int) == 45)
  ·cases e1:((s[s.size - 1].toNat:Int) == 45)
   ·by_cases h3:3<s.size
    ·have h3z:(3:Int)<(s.size:Int):=jO
     have a2:Lab.Cv s.data.toList 2=(s[2].toNat:Int):=Lab.Ec (s:=s) (k:=2) jO;have a3:Lab.Cv s.data.toList 3=(s[3].toNat:Int):=Lab.Ec (s:=s) (k:=3) jO;rw [a2,a3,Bool.false_or,Bool.false_or,decide_eq_true h3,Bool.true_and];clear a2 a3;cases e2:((s[2].toNat:Int) == 45)<;>cases e3:((s[3].toNat:Int) == 45)
     all_goals
      go_enter func74,ntmps74;go_wp2;go_ret;exact ⟨rfl,rfl⟩
    ·have h3z:(s.size:Int)<=3:=jO
     rw [decide_eq_false h3,Bool.false_and,Bool.false_and,Bool.false_or,Bool.false_or];clear h3;go_enter func74,ntmps74;go_wp2;go_ret;exact ⟨rfl,rfl⟩
   ·rw [Bool.false_or,Bool.true_or];go_enter func74,ntmps74;go_wp2;go_ret;exact ⟨rfl,rfl⟩
  ·rw [Bool.true_or,Bool.true_or];go_enter func74,ntmps74;go_wp2;go_ret;exact ⟨rfl,rfl⟩
theorem Ae9 (s:ByteArray) (w:World) (hs:s.size<=100000):Calls prog 53 #[.string s] w λe w'=>e=.returned (.int .i64 (Lab.Cx s.data.toList))/\w=w':=by
 have hsl:s.data.toList.length=s.size:=by simp
 by_cases h0:s.size=0
 ·have he:s.data.toList=[]:=List.eq_nil_of_length_eq_zero jO;have hp:Lab.Cx s.data.toList=13:=by rw [he];rfl
  have hse:s=⟨#[]⟩:=ByteArray.ext (Array.eq_empty_of_size_eq_zero h0);rw [hp];subst hse;clear hp he hsl h0 hs;go_enter func53,ntmps53;go_wp2;go_ret;exact ⟨rfl,rfl⟩
 ·have hz:(0:Int)<(s.size:Int):=jO
  have hne:s.toList.isEmpty=false:=by rw [ByteArray.toList_eq,List.isEmpty_eq_false_iff];intro e;rw [e] at hsl;simp at hsl;omega
  by_cases h63:63<s.size
  ·have hp:Lab.Cx s.data.toList=5:=by unfold Lab.Cx;rw [hsl,if_neg h0,if_pos h63]
   have h63z:(63:Int)<(s.size:Int):=jO
   rw [hp];clear hp hsl h0 h63;go_enter func53,ntmps53;go_wp2;go_ret;exact ⟨rfl,rfl⟩
  ·have hp:Lab.Cx s.data.toList=if (s.data.toList.all λc=>Bidi.Bx (c.toNat:Int))=false then 8 else if Lab.Cw s.data.toList then 11 else 0:=by unfold Lab.Cx;rw [hsl,if_neg h0,if_neg h63]
   obtain ⟨p,hpp⟩:∃ p,p=Lab.Cx s.data.toList:=⟨_,rfl⟩
   rw [<- hpp] at hp ⊢;have HP:=jH hp;have HSL:=jH hsl;have KD:=Xo s w hs;obtain ⟨d,hd⟩:∃ d,d=Lab.Cw s.data.toList:=⟨_,rfl⟩
   rw [<- hd] at KD;have HD:=jH hd;have KD:=jH KD;have h63z:(s.size:Int)<=63:=jO
   clear hp hpp hsl h0 h63 hd;go_enter func53,ntmps53;go_wp2;go_loopg [3,4,5] (s.size+1) (λgk i _ _ wr=>∃ k:Nat,k<=s.size/\i=.int .i64 k/\s.size - k<gk/\Hid ((∀ j,j<k->Bidi.Bx (Lab.Cv s.data.toList j)=true)/\w=wr))
   case atStart=>exact ⟨0,Nat.zero_le _,rfl,by omega,⟨λj hj=>absurd hj (Nat.not_lt_zero _),rfl⟩⟩
   case round =>
    obtain ⟨k,hk,rfl,hg,I⟩:=hrel;obtain rfl:=I.out.2;by_cases hlt:k<s.size
    ·have hb:=Lab.Ec hlt;have hb0:0<=(s[k].toNat:Int):=jO
     have hb1:(s[k].toNat:Int)<=255:=by have:=UInt8.toNat_lt s[k];omega
     have hkz:(k:Int)<(s.size:Int):=jO
     have hcs:=Ss hb0;rw [<- hb] at hcs;have HB:=jH hb;clear hb;rcases hcs with ⟨hpc,hcs⟩ | ⟨hpc,hcs⟩
     ·have R:=jH (show p=8 by rw [HP.out,if_pos (Rp (by have:=HSL.out;omega) hpc)]);rw [HB.out] at hcs;clear hpc;have e45:((s[k].toNat:Int) == 45)=false:=by rw [beq_eq_false_iff_ne];omega
      have f45:((s[k].toNat:Int) != 45)=true:=by rw [bne_iff_ne];omega
      rcases hcs with h | ⟨h,h'⟩ | ⟨h,h'⟩ | ⟨h,h'⟩ | h
      all_goals
       first | have d97:decide (97<=(s[k].toNat:Int))=true:=decide_eq_true jO | have d97:decide (97<=(s[k].toNat:Int))=false:=decide_eq_false jO
       first | have d122:decide ((s[k].toNat:Int)<=122)=true:=decide_eq_true jO | have d122:decide ((s[k].toNat:Int)<=122)=false:=decide_eq_false jO
       first | have d65:decide (65<=(s[k].toNat:Int))=true:=decide_eq_true jO | have d65:decide (65<=(s[k].toNat:Int))=false:=decide_eq_false jO
       first | have d90:decide ((s[k].toNat:Int)<=90)=true:=decide_eq_true jO | have d90:decide ((s[k].toNat:Int)<=90)=false:=decide_eq_false jO
       first | have d48:decide ((s[k].toNat:Int)<48)=true:=decide_eq_true jO | have d48:decide ((s[k].toNat:Int)<48)=false:=decide_eq_false jO
       first | have d57:decide (57<(s[k].toNat:Int))=true:=decide_eq_true jO | have d57:decide (57<(s[k].toNat:Int))=false:=decide_eq_false jO
       go_wp2;go_ret;exact ⟨by rw [R.out];rfl,rfl⟩
     ·have I2:Hid (∀ j,j<k+1->Bidi.Bx (Lab.Cv s.data.toList j)=true):=jH (λj hj=>by
       by_cases e:j=k
       · subst e;exact hpc
       · exact I.out.1 j jO)
      rw [HB.out] at hcs;clear hpc;rcases hcs with h | ⟨h,h'⟩ | ⟨h,h'⟩ | ⟨h,h'⟩
      all_goals
       first | have d97:decide (97<=(s[k].toNat:Int))=true:=decide_eq_true jO | have d97:decide (97<=(s[k].toNat:Int))=false:=decide_eq_false jO
       first | have d122:decide ((s[k].toNat:Int)<=122)=true:=decide_eq_true jO | have d122:decide ((s[k].toNat:Int)<=122)=false:=decide_eq_false jO
       first | have d65:decide (65<=(s[k].toNat:Int))=true:=decide_eq_true jO | have d65:decide (65<=(s[k].toNat:Int))=false:=decide_eq_false jO
       first | have d90:decide ((s[k].toNat:Int)<=90)=true:=decide_eq_true jO | have d90:decide ((s[k].toNat:Int)<=90)=false:=decide_eq_false jO
       first | have d48:decide ((s[k].toNat:Int)<48)=true:=decide_eq_true jO | have d48:decide ((s[k].toNat:Int)<48)=false:=decide_eq_false jO
       first | have d57:decide (57<(s[k].toNat:Int))=true:=decide_eq_true jO | have d57:decide (57<(s[k].toNat:Int))=false:=decide_eq_false jO
       go_wp2;go_roundg (s.size - k)
       case measure=>omega
       case rel=>exact ⟨k+1,by omega,by go_num,by omega,⟨I2.out,rfl⟩⟩
    ·obtain rfl:k=s.size:=jO
     have hkz:¬ (s.size:Int)<(s.size:Int):=jO
     have R:=jH (show p=if d then 11 else 0 by rw [HP.out,if_neg (by rw [Yk (λj hj=>I.out.1 j (by have:=HSL.out;omega))];decide),HD.out]);cases d
     all_goals
      go_wp2_with fail;refine KD.out.mono ?_;rintro e w3 ⟨rfl,rfl⟩;go_wp2;go_ret;exact ⟨by rw [R.out];rfl,rfl⟩
end
section
open Go.RowKit Utf
theorem Af7 (l:List Int):Lab.Dg l=if Lab.Bp (Ae l)=true then 4 else if Lab.nfc l ≠ l then 4 else if Lab.Cw (Ae l) then 11 else if Bm l[0]! = 4 then 10 else if Lab.Fw l then 8 else if Bidi.has l && !Bidi.Et l then 9 else if 59<(Puny.Bb l).length then 5 else 0:=by
 unfold Lab.Dg;by_cases h1:Lab.Bp (Ae l)=true
 ·rw [if_pos (Or.inl h1),if_pos h1]
 ·rw [if_neg h1];by_cases h2:Lab.nfc l ≠ l
  · rw [if_pos (Or.inr h2),if_pos h2]
  · rw [if_neg h2,if_neg (λh=>h.elim h1 h2)]
def Apd (l:List Int) (k:Nat):Prop:=∀ i,i<k->¬ (Ctx.Gt l (i:Nat)=2\/(Ctx.Gt l (i:Nat)=0/\Lab.C9 l[i]! = false))
theorem Ank {l:List Int} {k:Nat} (hk:k<l.length) (h:Ctx.Gt l (k:Nat)=2\/(Ctx.Gt l (k:Nat)=0/\Lab.C9 l[k]! = false)):Lab.Fw l=true:=by
 unfold Lab.Fw;rw [List.any_eq_true];refine ⟨k,List.mem_range.2 hk,?_⟩;rcases h with h | ⟨h,h'⟩
 · rw [h];rfl
 · rw [h,h'];rfl
theorem Api {l:List Int} (h:Apd l l.length):Lab.Fw l=false:=by
 unfold Lab.Fw;rw [List.any_eq_false];intro k hk;have h1:=h k (List.mem_range.1 hk);rw [not_or] at h1;rw [Bool.or_eq_true,jag,beq_iff_eq,beq_iff_eq,Bool.not_eq_true'];intro h2;rcases h2 with h2 | h2
 · exact h1.1 h2
 · exact h1.2 h2
theorem Al2 (l:List Int) (k:Nat) (hk:k<l.length):Ctx.Gt l (k:Nat)=0\/Ctx.Gt l (k:Nat)=1\/Ctx.Gt l (k:Nat)=2:=by
 rw [Ctx.G9 hk];split
 ·split
  · exact .inr (.inl rfl)
  · exact .inr (.inr rfl)
 ·exact .inl rfl
def Adh (l:List Int) (w:World) (e:Ending) (w':World):Prop :=
 ∃ A c,e=.returned (.tuple #[.slice A l.length c,.int .i64 (-1)])/\Runes (.slice A l.length c) l w'/\Below w.heap.size w w'
theorem Y7 (s:ByteArray) (w:World) (hs:s.size<=100000) (hm:∀ m,A9 s.data.toList=(m,-1)->m.length<=420) :
  Calls prog 51 #[.string s] w λe w'=>e=.returned (.int .i64 (Lab.Df s.data.toList))/\Below w.heap.size w w':=by
 obtain ⟨⟨m,z⟩,hrd⟩:∃ p,A9 s.data.toList=p:=⟨_,rfl⟩
 have KR:=jH (E9 s w jO hrd);rcases (Cu hrd).2.2 with ⟨rfl,-⟩ | ⟨k,rfl,-,-⟩
 case inr =>
  have hE:Lab.Df s.data.toList=7:=by unfold Lab.Df;rw [hrd,if_neg (by show ¬ (k:Int)=-1;omega)]
  rw [hE];clear hE hrd hm;go_enter func51,ntmps51;go_wp2_with fail;refine KR.out.mono ?_;rintro e w2 ⟨A,c,rfl,-,hb2⟩;have B2:=jH hb2;clear hb2;go_wp2;go_ret;exact ⟨rfl,B2.out⟩
 have hml:=hm m hrd;have hE:Lab.Df s.data.toList=Lab.Dg (ints m):=by unfold Lab.Df;rw [hrd,if_pos rfl]
 obtain ⟨hr,hse⟩:=Lab.Jf (s:=s.data.toList) (by rw [hrd]);rw [hrd] at hr hse;simp only at hr hse;rw [hE,Af7];obtain ⟨l,hl⟩:∃ l,ints m=l:=⟨_,rfl⟩
 have hln:l.length=m.length:=by rw [<- hl];simp [ints]
 have KF:=jH (λW=>X1 s false true W jO hml hrd);rw [hl] at hr hse KF ⊢;have KEi:=λW=>Kz s W jO;have KD0:=λW=>Xo s W jO;rw [hse] at KD0 KEi;rw [<- hln] at hml;have KL:Calls prog 28 #[.string s] w (Adh l w):=KR.out.mono λe w' ⟨A,c,h1,h2,h3⟩=>⟨A,c,by rw [h1,hln],by rw [hln,<- hl];exact h2,h3⟩
 have KR:=jH KL;clear KL;obtain ⟨p,hp⟩:∃ p,p=(if Lab.Bp (Ae l)=true then (4:Int) else if Lab.nfc l ≠ l then 4 else if Lab.Cw (Ae l) then 11 else if Bm l[0]! = 4 then 10 else if Lab.Fw l then 8 else if Bidi.has l && !Bidi.Et l then 9 else if 59<(Puny.Bb l).length then 5 else 0):=⟨_,rfl⟩
 rw [<- hp];have HP:=jH hp;have HL:=jH hl;have HSE:=jH hse;have HR:=jH hr;have HLN:=jH hln;have KE:=jH KEi;have KD:=jH KD0;clear hrd hm hE hl hp hse hr hln KEi KD0;rcases Lab.D9 (Ae l) with ⟨ha,he⟩ | ⟨ha,he⟩
 ·have R:=jH (show p=4 by rw [HP.out,if_pos ha]);have K:=KE.out;rw [he] at K;have K:=jH K;clear ha he;go_enter func51,ntmps51;go_wp2_with fail;refine KR.out.mono ?_;rintro e w2 ⟨A,c,rfl,-,hb2⟩;have B2:=jH hb2;clear hb2;go_wp2_with fail;refine (KF.out w2).mono ?_;rintro e w3 ⟨rfl,hb3⟩;have B3:=jH (Aa B2.out hb3);clear hb3;go_wp2_with fail;refine (K.out w3).mono ?_;rintro e w4 ⟨rfl,rfl⟩;go_wp2;go_ret;exact ⟨by rw [R.out];rfl,B3.out⟩
 ·obtain ⟨ei,hei⟩:∃ ei,Ba (Ae l)=ei:=⟨_,rfl⟩
  have K:=KE.out;rw [hei] at K he;have K:=jH K;have HP1:=jH (show p=if Lab.nfc l ≠ l then 4 else if Lab.Cw (Ae l) then 11 else if Bm l[0]! = 4 then 10 else if Lab.Fw l then 8 else if Bidi.has l && !Bidi.Et l then 9 else if 59<(Puny.Bb l).length then 5 else 0 by rw [HP.out,if_neg (by rw [ha];decide)]);have hne:0<l.length:=by
   rcases Nat.eq_zero_or_pos l.length with h0 | h0
   ·rw [List.eq_nil_of_length_eq_zero h0] at ha;cases ha
   ·exact h0
  clear ha hei HP;have hform:Bz false true l=Lab.nfc l:=rfl;rw [hform] at KF;clear hform;by_cases hn:Lab.nfc l=l
  case neg =>
   have R:=jH (show p=4 by rw [HP1.out,if_pos hn]);have hcmp:(Ae (Lab.nfc l) == s.toList)=false:=by
    rw [beq_eq_false_iff_ne,ByteArray.toList_eq,HSE.out];intro e;exact hn (Lab.Ga (Kn false true HR.out) HR.out e)
   generalize Ae (Lab.nfc l)=X at KF hcmp;have hed:decide (ei<0)=false:=decide_eq_false jO;clear hn;go_enter func51,ntmps51;go_wp2_with fail;refine KR.out.mono ?_;rintro e w2 ⟨A,c,rfl,-,hb2⟩;have B2:=jH hb2;clear hb2;go_wp2_with fail;refine (KF.out w2).mono ?_;rintro e w3 ⟨rfl,hb3⟩;have B3:=jH (Aa B2.out hb3);clear hb3;go_wp2_with fail;refine (K.out w3).mono ?_;rintro e w4 ⟨rfl,rfl⟩;go_wp2;go_ret;exact ⟨by rw [R.out];rfl,B3.out⟩
  have HP2:=jH (show p=if Lab.Cw (Ae l) then 11 else if Bm l[0]! = 4 then 10 else if Lab.Fw l then 8 else if Bidi.has l && !Bidi.Et l then 9 else if 59<(Puny.Bb l).length then 5 else 0 by rw [HP1.out,if_neg (by rw [hn];exact λh=>h rfl)]);have hcmp:(Ae (Lab.nfc l) == s.toList)=true:=by
   rw [ByteArray.toList_eq,HSE.out,hn];exact beq_self_eq_true _
  generalize Ae (Lab.nfc l)=X at KF hcmp;have hed:decide (ei<0)=false:=decide_eq_false jO;obtain ⟨d,hd⟩:∃ d,d=Lab.Cw (Ae l):=⟨_,rfl⟩
  have HD:=jH hd;have KDd:=KD.out;rw [<- hd] at KDd;have KD:=jH KDd;clear hn HP1 hd KDd;go_enter func51,ntmps51;go_wp2_with fail;refine KR.out.mono ?_;rintro e w2 ⟨A,c,rfl,hv2,hb2⟩;have B2:=jH hb2;have V2:=jH hv2;clear hb2 hv2;go_wp2_with fail;refine (KF.out w2).mono ?_;rintro e w3 ⟨rfl,hb3⟩;have B3:=jH (Aa B2.out hb3);have V3:=jH (V2.out.Af hb3);clear hb3;go_wp2_with fail;refine (K.out w3).mono ?_;rintro e w4 ⟨rfl,rfl⟩;go_wp2_with fail;refine (KD.out w3).mono ?_;rintro e w4 ⟨rfl,rfl⟩;cases d
  case true =>
   have R:=jH (show p=11 by rw [HP2.out,<- HD.out,if_pos rfl]);go_wp2;go_ret;exact ⟨by rw [R.out];rfl,B3.out⟩
  have HP3:=jH (show p=if Bm l[0]! = 4 then 10 else if Lab.Fw l then 8 else if Bidi.has l && !Bidi.Et l then 9 else if 59<(Puny.Bb l).length then 5 else 0 by rw [HP2.out,<- HD.out,if_neg jD]);clear HP2 HD KD K hcmp hed KF;obtain ⟨A',c',e',-,hx⟩:=V3.out.form;injection e' with e1 e2 e3
  subst e1 e3;obtain ⟨ad,rfl,hb,hcell⟩:=hx 0 hne;rw [show ad.add 0=ad by unfold Addr.add;rw [if_pos rfl]] at hcell;obtain ⟨x,hxe⟩:∃ x,x=l[0]!:=⟨_,rfl⟩
  rw [<- hxe] at hcell;have KC:=Vy x w3;obtain ⟨ca,hca⟩:∃ ca,ca=Bm x:=⟨_,rfl⟩
  rw [<- hca] at KC;have HCA:=jH (show ca=Bm l[0]! by rw [<- hxe];exact hca);have KC:=jH KC;have HX:=jH hx;have hnz:(0:Int)<(l.length:Int):=jO
  clear hx hxe hca;by_cases h4:ca=4
  ·have R:=jH (show p=10 by rw [HP3.out,if_pos (HCA.out.symm.trans h4)]);subst h4;go_wp2_with fail;refine KC.out.mono ?_;rintro e w5 ⟨rfl,hb5⟩;have B5:=jH (Aa B3.out hb5);clear hb5 hcell;go_wp2;go_ret;exact ⟨by rw [R.out];rfl,B5.out⟩
  have HP4:=jH (show p=if Lab.Fw l then 8 else if Bidi.has l && !Bidi.Et l then 9 else if 59<(Puny.Bb l).length then 5 else 0 by rw [HP3.out,if_neg (λe=>h4 (HCA.out.trans e))]);have e4:(ca == 4)=false:=by simpa using h4
  clear h4 HP3 HCA;go_wp2_with fail;refine KC.out.mono ?_;rintro e w5 ⟨rfl,hb5⟩;have B5:=jH (Aa B3.out hb5);have V5:=jH (V3.out.Af hb5);have HX5:Hid (∀ k,k<l.length->ad.block<w5.heap.size/\w5.cell? (ad.add k)=some (.int .i32 l[k]!)):=jH (λk hk=>by
   obtain ⟨ad',e,hb',hc'⟩:=HX.out k hk;obtain rfl:ad=ad':=by injection e
   exact ⟨jas hb' hb5.size,(hb5.cell (by rw [Ah];exact hb')).trans hc'⟩)
  clear hb5 hcell HX;go_wp2;go_loopg [7,8,9] (l.length+1) (λgk i _ _ wr=>∃ k:Nat,k<=l.length/\i=.int .i64 k/\l.length - k<gk/\Hid (Apd l k/\Below w5.heap.size w5 wr))
  case atStart=>exact ⟨0,Nat.zero_le _,rfl,by omega,⟨λj hj=>absurd hj (Nat.not_lt_zero _),jan _ _⟩⟩
  case round =>
   obtain ⟨k,hk,rfl,hg,I⟩:=hrel;have BW:=jH (Aa B5.out I.out.2);have VW:=jH (V5.out.Af I.out.2);by_cases hlt:k<l.length
   ·have hcell:=(I.out.2.cell (by rw [Ah];exact (HX5.out k hlt).1)).trans (HX5.out k hlt).2;have KN:=Aiq _ l k wr VW.out jO;have hfew:=Al2 l k hlt;have hbad:=λh=>Ank hlt h;have hgood:¬ (Ctx.Gt l (k:Nat)=2\/(Ctx.Gt l (k:Nat)=0/\Lab.C9 l[k]! = false))->Apd l (k+1):=λh j hj=>by
     by_cases e:j=k
     ·subst e;exact h
     ·exact I.out.1 j jO
    have KC:=λW=>Ahj l[k]! W;generalize l[k]! = x at hcell hbad hgood KC;generalize Ctx.Gt l (k:Nat)=nd at KN hfew hbad hgood;generalize Lab.C9 x=ok at hbad hgood KC;have KN:=jH KN;have KC:=jH KC;have HBAD:=jH hbad;have HGOOD:=jH hgood;have hkz:(k:Int)<(l.length:Int):=jO
    clear hbad hgood;have hstep:(nd=2\/(nd=0/\ok=false))\/(nd=1\/(nd=0/\ok=true)):=by
     rcases hfew with h | h | h<;>cases ok<;>simp [h]
    clear hfew;rcases hstep with (h | ⟨h,h'⟩) | (h | ⟨h,h'⟩)
    ·have R:=jH (show p=8 by rw [HP4.out,if_pos (HBAD.out (.inl h))]);subst h;go_wp2_with fail;refine KN.out.mono ?_;rintro e w6 ⟨rfl,hb6⟩;have B6:=jH (Aa BW.out hb6);have hcell6:=(hb6.cell (p:=ad.add k) (by rw [Ah];exact jas (HX5.out k hlt).1 I.out.2.size)).trans hcell;clear hb6 hcell;go_wp2_with fail;refine (KC.out w6).mono ?_;rintro e w7 ⟨rfl,hb7⟩;have B7:=jH (Aa B6.out hb7);clear hb7 hcell6;go_wp2;go_ret;exact ⟨by rw [R.out];rfl,B7.out⟩
    ·have R:=jH (show p=8 by rw [HP4.out,if_pos (HBAD.out (.inr ⟨h,h'⟩))]);subst h h';go_wp2_with fail;refine KN.out.mono ?_;rintro e w6 ⟨rfl,hb6⟩;have B6:=jH (Aa BW.out hb6);have hcell6:=(hb6.cell (p:=ad.add k) (by rw [Ah];exact jas (HX5.out k hlt).1 I.out.2.size)).trans hcell;clear hb6 hcell;go_wp2_with fail;refine (KC.out w6).mono ?_;rintro e w7 ⟨rfl,hb7⟩;have B7:=jH (Aa B6.out hb7);clear hb7 hcell6;go_wp2;go_ret;exact ⟨by rw [R.out];rfl,B7.out⟩
    ·have I2:=jH (HGOOD.out jO);subst h;go_wp2_with fail;refine KN.out.mono ?_;rintro e w6 ⟨rfl,hb6⟩;have B6:=jH (I.out.2.trans (hb6.mono I.out.2.size));have hcell6:=(hb6.cell (p:=ad.add k) (by rw [Ah];exact jas (HX5.out k hlt).1 I.out.2.size)).trans hcell;clear hb6 hcell;go_wp2_with fail;refine (KC.out w6).mono ?_;rintro e w7 ⟨rfl,hb7⟩;have B7:=jH (B6.out.trans (hb7.mono B6.out.size));clear hb7 hcell6;go_wp2;go_roundg (l.length - k)
     case measure=>omega
     case rel=>exact ⟨k+1,by omega,by go_num,by omega,⟨I2.out,B7.out⟩⟩
    ·have I2:=jH (HGOOD.out (by rw [h,h'];decide));subst h h';go_wp2_with fail;refine KN.out.mono ?_;rintro e w6 ⟨rfl,hb6⟩;have B6:=jH (I.out.2.trans (hb6.mono I.out.2.size));have hcell6:=(hb6.cell (p:=ad.add k) (by rw [Ah];exact jas (HX5.out k hlt).1 I.out.2.size)).trans hcell;clear hb6 hcell;go_wp2_with fail;refine (KC.out w6).mono ?_;rintro e w7 ⟨rfl,hb7⟩;have B7:=jH (B6.out.trans (hb7.mono B6.out.size));clear hb7 hcell6;go_wp2;go_roundg (l.length - k)
     case measure=>omega
     case rel=>exact ⟨k+1,by omega,by go_num,by omega,⟨I2.out,B7.out⟩⟩
   ·obtain rfl:k=l.length:=jO
    have HP5:=jH (show p=if Bidi.has l && !Bidi.Et l then 9 else if 59<(Puny.Bb l).length then 5 else 0 by rw [HP4.out,if_neg (by rw [Api I.out.1];decide)]);have hkz:¬ (l.length:Int)<(l.length:Int):=jO
    have KH:=Ali _ l wr VW.out jO;have KU:=λW (h:Below wr.heap.size wr W)=>Ajl _ l W (VW.out.Af h) jO;have KP:=λW (h:Below wr.heap.size wr W)=>Md _ l W (VW.out.Af h) hml HR.out;obtain ⟨has,hhas⟩:∃ x,x=Bidi.has l:=⟨_,rfl⟩
    obtain ⟨Et,hrule⟩:∃ x,x=Bidi.Et l:=⟨_,rfl⟩
    obtain ⟨bs,hbs⟩:∃ x,x=Puny.Bb l:=⟨_,rfl⟩
    have hp6:=HP5.out;rw [<- hhas,<- hrule,<- hbs] at hp6;rw [<- hhas] at KH;rw [<- hrule] at KU;rw [<- hbs] at KP;have HP6:=jH hp6;have KH:=jH KH;have KU:=jH KU;have KP:=jH KP;clear hp6 hhas hrule hbs HP5 HP4;go_wp2_with fail;refine KH.out.mono ?_;rintro e w6 ⟨rfl,hb6⟩;have C6:=jH hb6;clear hb6;go_wp2_with fail;refine (KU.out w6 C6.out).mono ?_;rintro e w7 ⟨rfl,hb7⟩;have C7:=jH (Aa C6.out hb7);clear hb7;have hcs:(has=true/\Et=false)\/(((has=false/\Et=false)\/(has=false/\Et=true)\/(has=true/\Et=true))/\(has && !Et)=false):=by cases has<;>cases Et<;>simp
    rcases hcs with ⟨rfl,rfl⟩ | ⟨hcs,hcf⟩
    ·have R:=jH (show p=9 by rw [HP6.out];rfl);go_wp2;go_ret;exact ⟨by rw [R.out];rfl,Aa BW.out C7.out⟩
    ·have HP7:=jH (show p=if 59<bs.length then 5 else 0 by rw [HP6.out,hcf];rfl);clear HP6 hcf;by_cases h59:59<bs.length
     ·have R:=jH (show p=5 by rw [HP7.out,if_pos h59]);have h59z:(59:Int)<(bs.length:Int):=jO
      rcases hcs with ⟨rfl,rfl⟩ | ⟨rfl,rfl⟩ | ⟨rfl,rfl⟩
      all_goals
       go_wp2_with fail;refine (KP.out w7 C7.out).mono ?_;rintro e w8 ⟨rfl,hb8⟩;have C8:=jH (Aa C7.out hb8);clear hb8;go_wp2;go_ret;exact ⟨by rw [R.out];rfl,Aa BW.out C8.out⟩
     ·have R:=jH (show p=0 by rw [HP7.out,if_neg h59]);have h59z:(bs.length:Int)<=59:=jO
      rcases hcs with ⟨rfl,rfl⟩ | ⟨rfl,rfl⟩ | ⟨rfl,rfl⟩
      all_goals
       go_wp2_with fail;refine (KP.out w7 C7.out).mono ?_;rintro e w8 ⟨rfl,hb8⟩;have C8:=jH (Aa C7.out hb8);clear hb8;go_wp2;go_ret;exact ⟨by rw [R.out];rfl,Aa BW.out C8.out⟩
end
section
open Go.RowKit Utf
def Ts (p:Int × List UInt8 × List UInt8) (w:World) (e:Ending) (w':World):Prop :=
 e=.returned (.tuple #[.string ⟨p.2.1.toArray⟩,.string ⟨p.2.2.toArray⟩,.int .i64 p.1])/\Below w.heap.size w w'
theorem Aln {a:List UInt8} (h:a.take 4=Lab.sign):(((⟨a.toArray⟩:ByteArray).extract 0 4).toList == [120,110,45,45])=true:=by
 rw [ByteArray.toList_eq,ByteArray.data_extract,beq_iff_eq];simpa [Lab.sign] using h
theorem An7 {a:List UInt8} (h:a.take 4 ≠ Lab.sign):(((⟨a.toArray⟩:ByteArray).extract 0 4).toList == [120,110,45,45])=false:=by
 rw [beq_eq_false_iff_ne,ByteArray.toList_eq,ByteArray.data_extract];intro hc;exact h (by simpa [Lab.sign] using hc)
theorem Lq (a b:List UInt8):(⟨a.toArray⟩:ByteArray) ++ ⟨b.toArray⟩=⟨(a ++ b).toArray⟩:=ByteArray.ext (by rw [ByteArray.data_append];simp)
theorem Ag5 (a:List UInt8):((⟨a.toArray⟩:ByteArray).extract 4 a.length).data.toList=a.drop 4:=by
 have:=extract_drop ⟨a.toArray⟩ 4;rwa [C5] at this
theorem Ahg (s:ByteArray) (w:World) (hs:s.size<=100000) (hm:∀ m,A9 s.data.toList=(m,-1)->m.length<=420/\(Fold.fold (ints m)).length<=420) :
  Calls prog 31 #[.string s] w (Ts (Lab.Bj s.data.toList) w):=by
 obtain ⟨⟨m,z⟩,hrd⟩:∃ p,A9 s.data.toList=p:=⟨_,rfl⟩
 rcases (Cu hrd).2.2 with ⟨rfl,-⟩ | ⟨k,rfl,-,-⟩
 case inr =>
  have hE:Lab.Bj s.data.toList=(7,[],[]):=by unfold Lab.Bj;rw [hrd,if_neg (by show ¬ (k:Int)=-1;omega)]
  have KF:=U0 s w hs hrd;rw [hE];have KF:=jH KF;clear hE hrd hm;go_enter func31,ntmps31;go_wp2_with fail;refine KF.out.mono ?_;rintro e w2 ⟨rfl,hb2⟩;have B2:=jH hb2;clear hb2;go_wp2;go_ret3;exact ⟨rfl,B2.out⟩
 obtain ⟨hml,hfl⟩:=hm m hrd;have hE:Lab.Bj s.data.toList=Lab.Eh (Fold.fold (ints m)):=by unfold Lab.Bj;rw [hrd,if_pos rfl]
 obtain ⟨hr,-⟩:=Lab.Jf (s:=s.data.toList) (by rw [hrd]);rw [hrd] at hr;simp only at hr;have KF:=λW=>Rb s W hs hml hrd;rw [hE];have hR:=Dj hr;generalize Fold.fold (ints m)=L at KF hfl hR ⊢;clear hE hrd hm hr hml;obtain ⟨X,hX⟩:∃ X,X=Ae L:=⟨_,rfl⟩
 rw [<- hX] at KF;have hXl:X.length<=1680:=by rw [hX];have:=Db L;omega
 have hrd:A9 X=(L.map Int.toNat,-1):=by rw [hX];exact D4 hR
 have hXs:(⟨X.toArray⟩:ByteArray).size=X.length:=C5 X;have KE:=λW=>Kz ⟨X.toArray⟩ W jO;have KW:=λW=>Y7 ⟨X.toArray⟩ W jO (λm' h=>by
  have h':A9 X=(m',-1):=h;rw [hrd] at h';injection h' with e1 e2
  rw [<- e1,jai];exact hfl)
 have KP:=λW=>Ae9 ⟨X.toArray⟩ W jO;have hw:Lab.Df X=Lab.Dg L:=by rw [hX];exact Lab.Gx hR
 change ∀ W,Calls _ _ _ W λe w'=>e=.returned (.int .i64 (Ba X))/\W=w' at KE;change ∀ W,Calls _ _ _ W λe w'=>e=.returned (.int .i64 (Lab.Df X))/\Below W.heap.size W w' at KW;change ∀ W,Calls _ _ _ W λe w'=>e=.returned (.int .i64 (Lab.Cx X))/\W=w' at KP;rw [hw] at KW;obtain ⟨P,hP⟩:∃ P,P=Lab.Eh L:=⟨_,rfl⟩
 rw [<- hP];unfold Lab.Eh at hP;rw [<- hX] at hP;have HP:=jH hP;have KF:=jH KF;have KE0:=jH KE;have KW0:=jH KW;have KP0:=jH KP;have HX:=jH hX;have HR:=jH hR;clear hP KE KW KP hX hw hXs hrd;have HXL:=jH hXl;rcases Lab.D9 X with ⟨ha,he⟩ | ⟨ha,he⟩
 case inr =>
  obtain ⟨ei,hei⟩:∃ ei,Ba X=ei:=⟨_,rfl⟩
  have KE:=KE0.out;rw [hei] at KE he;have KE:=jH KE;have HP1:=jH (show P=if Lab.Dg L=0 then (0,Lab.sign ++ Puny.Bb L,X) else (Lab.Dg L,[],[]) by rw [HP.out,if_pos ha]);obtain ⟨wl,hwl⟩:∃ x,Lab.Dg L=x:=⟨_,rfl⟩
  have KW:=KW0.out;have hp1:=HP1.out;rw [hwl] at KW hp1;have KW:=jH KW;have HP1:=jH hp1;have HWL:=jH hwl;clear ha hei HP hwl hp1;by_cases h0:wl=0
  case neg =>
   have R:=jH (show P=(wl,[],[]) by rw [HP1.out,if_neg h0]);have e0:(wl == 0)=false:=by simpa using h0
   clear h0;go_enter func31,ntmps31;go_wp2_with fail;refine (KF.out w).mono ?_;rintro e w2 ⟨rfl,hb2⟩;have B2:=jH hb2;clear hb2;go_wp2_with fail;refine (KE.out w2).mono ?_;rintro e w3 ⟨rfl,rfl⟩;go_wp2_with fail;refine (KW.out w2).mono ?_;rintro e w4 ⟨rfl,hb4⟩;have B4:=jH (Aa B2.out hb4);clear hb4;go_wp2;go_ret3;exact ⟨by rw [R.out];rfl,B4.out⟩
  have R:=jH (show P=(0,Lab.sign ++ Puny.Bb L,X) by rw [HP1.out,if_pos h0]);subst h0;have hbl:=(Lab.Hm HWL.out).short;have hrd:A9 X=(L.map Int.toNat,-1):=by rw [HX.out];exact D4 HR.out
  have KR:=λW=>E9 ⟨X.toArray⟩ W (by rw [C5];omega) (l:=L.map Int.toNat) (z:=-1) hrd;have KL:∀ W,Calls prog 28 #[.string ⟨X.toArray⟩] W (Adh L W):=λW=>(KR W).mono λe w' ⟨A,c,h1,h2,h3⟩=>⟨A,c,by rw [h1,jai],by rw [jai,(Ce HR.out).1] at h2;exact h2,h3⟩
  have KP:=λv W (h:Runes v L W)=>Md v L W h hfl HR.out;obtain ⟨bs,hbs⟩:∃ bs,Puny.Bb L=bs:=⟨_,rfl⟩
  have r:=R.out;rw [hbs] at KP r hbl;have R:=jH r;have KL:=jH KL;have KP:=jH KP;clear hrd KR r hbs HP1;go_enter func31,ntmps31;go_wp2_with fail;refine (KF.out w).mono ?_;rintro e w2 ⟨rfl,hb2⟩;have B2:=jH hb2;clear hb2;go_wp2_with fail;refine (KE.out w2).mono ?_;rintro e w3 ⟨rfl,rfl⟩;go_wp2_with fail;refine (KW.out w2).mono ?_;rintro e w4 ⟨rfl,hb4⟩;have B4:=jH (Aa B2.out hb4);clear hb4;go_wp2_with fail;refine (KL.out w4).mono ?_;rintro e w5 ⟨A,c,rfl,hv5,hb5⟩;have V5:=jH hv5;have B5:=jH (Aa B4.out hb5);clear hb5 hv5;go_wp2_with fail;refine (KP.out _ w5 V5.out).mono ?_;rintro e w6 ⟨rfl,hb6⟩;have B6:=jH (Aa B5.out hb6);clear hb6;go_wp2;go_ret3;refine ⟨?_,B6.out⟩;rw [R.out];show Ending.returned _=Ending.returned (.tuple #[.string ⟨(Lab.sign ++ bs).toArray⟩,.string ⟨X.toArray⟩,.int .i64 0]);rw [<- Lq];rfl
 have KE:=KE0.out;rw [he] at KE;have KE:=jH KE;have hx4:X.length=L.length:=by
  have:=Lab.D5.1 ha;rw [HX.out] at this;have h2:Lab.chars (Ae L)=L:=Lab.Ga (Lab.Da this) HR.out (Du _ this);have h3:=congrArg List.length h2;unfold Lab.chars at h3;rw [jai] at h3;rw [HX.out];exact h3
 have hXl:X.length<=420:=jO
 by_cases h4:X.take 4=Lab.sign
 case neg =>
  obtain ⟨pl,hpl⟩:∃ x,Lab.Cx X=x:=⟨_,rfl⟩
  have hp1:P=if pl=0 then (0,X,X) else (pl,[],[]):=by rw [HP.out,if_neg (by rw [ha];decide),if_neg h4,hpl]
  have KP:=KP0.out;rw [hpl] at KP;have KP:=jH KP;have hhd:=An7 h4;have hcs:(X.length:Int)<4\/4<=(X.length:Int):=jO
  by_cases h0:pl=0
  ·have R:=jH (show P=(0,X,X) by rw [hp1,if_pos h0]);subst h0;clear hp1 hpl h4 ha hx4 HP;rcases hcs with hc | hc
   all_goals
    go_enter func31,ntmps31;go_wp2_with fail;refine (KF.out w).mono ?_;rintro e w2 ⟨rfl,hb2⟩;have B2:=jH hb2;clear hb2;go_wp2_with fail;refine (KE.out w2).mono ?_;rintro e w3 ⟨rfl,rfl⟩;go_wp2_with fail;refine (KP.out w2).mono ?_;rintro e w3 ⟨rfl,rfl⟩;go_wp2;go_ret3;exact ⟨by rw [R.out];rfl,B2.out⟩
  ·have R:=jH (show P=(pl,[],[]) by rw [hp1,if_neg h0]);have e0:(pl == 0)=false:=by simpa using h0
   clear hp1 hpl h4 ha hx4 HP h0;rcases hcs with hc | hc
   all_goals
    go_enter func31,ntmps31;go_wp2_with fail;refine (KF.out w).mono ?_;rintro e w2 ⟨rfl,hb2⟩;have B2:=jH hb2;clear hb2;go_wp2_with fail;refine (KE.out w2).mono ?_;rintro e w3 ⟨rfl,rfl⟩;go_wp2_with fail;refine (KP.out w2).mono ?_;rintro e w3 ⟨rfl,rfl⟩;go_wp2;go_ret3;exact ⟨by rw [R.out];rfl,B2.out⟩
 have hc4:4<=(X.length:Int):=by
  have:=congrArg List.length h4;rw [jak] at this;have:min 4 X.length=4:=this;omega
 have hhd:=Aln h4;have hp1:P=match Puny.Dt (X.drop 4) with
  | none=>(12,[],[])
  | some l=>if 63<X.length then (5,[],[]) else if Lab.Dg l ≠ 0 then (Lab.Dg l,[],[]) else if Puny.Bb l ≠ X.drop 4 then (12,[],[]) else (0,X,Ae l):=by
  rw [HP.out,if_neg (by rw [ha];decide),if_pos h4];cases Puny.Dt (X.drop 4)<;>rfl
 have hts:((⟨X.toArray⟩:ByteArray).extract 4 X.length).size<=1000:=by simp;omega
 have KD:=λW=>Aa7 ((⟨X.toArray⟩:ByteArray).extract 4 X.length) W hts;rw [Ag5] at KD;clear h4 ha hx4 HP KW0 KP0 hts;cases hdec:Puny.Dt (X.drop 4) with
 | none =>
  rw [hdec] at hp1 KD;have R:=jH (show P=(12,[],[]) from hp1);have KD:=jH KD;clear hp1 hdec;go_enter func31,ntmps31;go_wp2_with fail;refine (KF.out w).mono ?_;rintro e w2 ⟨rfl,hb2⟩;have B2:=jH hb2;clear hb2;go_wp2_with fail;refine (KE.out w2).mono ?_;rintro e w3 ⟨rfl,rfl⟩;go_wp2_with fail;refine (KD.out w2).mono ?_;rintro e w3 ⟨A,c,rfl,-,hb3⟩;have B3:=jH (Aa B2.out hb3);clear hb3;go_wp2;go_ret3;exact ⟨by rw [R.out];rfl,B3.out⟩
 | some l =>
  rw [hdec] at hp1 KD;simp only at hp1;obtain ⟨hrl,-,hll⟩:=Puny.Tl hdec;rw [jaj] at hll;have KD:=jH KD;have HP1:=jH hp1;have HRL:=jH hrl;clear hp1 hdec;by_cases h63:63<X.length
  ·have R:=jH (show P=(5,[],[]) by rw [HP1.out,if_pos h63]);have h63z:(63:Int)<(X.length:Int):=jO
   clear h63 HP1;go_enter func31,ntmps31;go_wp2_with fail;refine (KF.out w).mono ?_;rintro e w2 ⟨rfl,hb2⟩;have B2:=jH hb2;clear hb2;go_wp2_with fail;refine (KE.out w2).mono ?_;rintro e w3 ⟨rfl,rfl⟩;go_wp2_with fail;refine (KD.out w2).mono ?_;rintro e w3 ⟨A,c,rfl,-,hb3⟩;have B3:=jH (Aa B2.out hb3);clear hb3;go_wp2;go_ret3;exact ⟨by rw [R.out];rfl,B3.out⟩
  have h63z:(X.length:Int)<=63:=jO
  have HP2:=jH (show P=if Lab.Dg l ≠ 0 then (Lab.Dg l,[],[]) else if Puny.Bb l ≠ X.drop 4 then (12,[],[]) else (0,X,Ae l) by rw [HP1.out,if_neg h63]);have hln:l.length<=63:=jO
  have hel:=Db l;have KS:=λv W (h:Runes v l W)=>Ic v l W h jO (bs:=Ae l) (ok:=true) hrl (Gw hrl);have KW:=λW=>Y7 ⟨(Ae l).toArray⟩ W (by rw [C5];omega) (λm' h=>by
   have h':A9 (Ae l)=(m',-1):=h;rw [D4 hrl] at h';injection h' with e1 e2
   rw [<- e1,jai];omega)
  have hw:Lab.Df (Ae l)=Lab.Dg l:=Lab.Gx hrl;change ∀ W,Calls _ _ _ W λe w'=>e=.returned (.int .i64 (Lab.Df (Ae l)))/\Below W.heap.size W w' at KW;rw [hw] at KW;have KP:=λv W (h:Runes v l W)=>Md v l W h jO hrl;obtain ⟨Y,hY⟩:∃ Y,Ae l=Y:=⟨_,rfl⟩
  obtain ⟨wl,hwl⟩:∃ x,Lab.Dg l=x:=⟨_,rfl⟩
  obtain ⟨bs,hbs⟩:∃ x,Puny.Bb l=x:=⟨_,rfl⟩
  have hp2:=HP2.out;rw [hY] at KS KW hp2;rw [hwl] at KW hp2;rw [hbs] at KP hp2;have KS:=jH KS;have KW:=jH KW;have KP:=jH KP;have HP3:=jH hp2;clear hel hw hY hwl hbs hp2 h63 HP1 HP2 hrl;by_cases h0:wl=0
  case neg =>
   have R:=jH (show P=(wl,[],[]) by rw [HP3.out,if_pos h0]);have e0:(wl == 0)=false:=by simpa using h0
   clear h0 HP3;go_enter func31,ntmps31;go_wp2_with fail;refine (KF.out w).mono ?_;rintro e w2 ⟨rfl,hb2⟩;have B2:=jH hb2;clear hb2;go_wp2_with fail;refine (KE.out w2).mono ?_;rintro e w3 ⟨rfl,rfl⟩;go_wp2_with fail;refine (KD.out w2).mono ?_;rintro e w3 ⟨A,c,rfl,hv3,hb3⟩;have V3:=jH hv3;have B3:=jH (Aa B2.out hb3);clear hb3 hv3;go_wp2_with fail;refine (KS.out _ w3 V3.out).mono ?_;rintro e w4 ⟨rfl,hb4⟩;have B4:=jH (Aa B3.out hb4);clear hb4;go_wp2_with fail;refine (KW.out w4).mono ?_;rintro e w5 ⟨rfl,hb5⟩;have B5:=jH (Aa B4.out hb5);clear hb5;go_wp2;go_ret3;exact ⟨by rw [R.out];rfl,B5.out⟩
  subst h0;obtain ⟨T,hT⟩:∃ T,(⟨X.toArray⟩:ByteArray).extract 4 X.length=T:=⟨_,rfl⟩
  have hTl:T.data.toList=X.drop 4:=by rw [<- hT];exact Ag5 X
  have hfin:((bs == T.toList)=false/\P=(12,[],[]))\/((bs == T.toList)=true/\P=(0,X,Y)):=by
   rw [ByteArray.toList_eq,hTl];by_cases hb:bs=X.drop 4
   ·exact .inr ⟨by rw [hb];exact beq_self_eq_true _,by rw [HP3.out,if_neg jD,if_neg (by rw [Decidable.not_not];exact hb)]⟩
   ·exact .inl ⟨beq_eq_false_iff_ne.2 hb,by rw [HP3.out,if_neg jD,if_pos hb]⟩
  rw [hT] at KD;clear hTl HP3;rcases hfin with ⟨hcmp,hP⟩ | ⟨hcmp,hP⟩
  all_goals
   have R:=jH hP;clear hP;go_enter func31,ntmps31;go_wp2_with fail;refine (KF.out w).mono ?_;rintro e w2 ⟨rfl,hb2⟩;have B2:=jH hb2;clear hb2;go_wp2_with fail;refine (KE.out w2).mono ?_;rintro e w3 ⟨rfl,rfl⟩;go_wp2_with fail;refine (KD.out w2).mono ?_;rintro e w3 ⟨A,c,rfl,hv3,hb3⟩;have V3:=jH hv3;have B3:=jH (Aa B2.out hb3);clear hb3 hv3;go_wp2_with fail;refine (KS.out _ w3 V3.out).mono ?_;rintro e w4 ⟨rfl,hb4⟩;have B4:=jH (Aa B3.out hb4);have V4:=jH (V3.out.Af hb4);clear hb4;go_wp2_with fail;refine (KW.out w4).mono ?_;rintro e w5 ⟨rfl,hb5⟩;have B5:=jH (Aa B4.out hb5);have V5:=jH (V4.out.Af hb5);clear hb5;go_wp2_with fail;refine (KP.out _ w5 V5.out).mono ?_;rintro e w6 ⟨rfl,hb6⟩;have B6:=jH (Aa B5.out hb6);clear hb6;go_wp2;go_ret3;exact ⟨by rw [R.out];rfl,B6.out⟩
end
section
open Go.RowKit Utf
theorem Asn:Lab.Bj [66,195,156,99,104,101,114]=(0,[120,110,45,45,98,99,104,101,114,45,107,118,97],[98,195,188,99,104,101,114]):=by decide +kernel
theorem Aso:Lab.Bj [88,78,45,45,98,99,104,101,114,45,75,86,65]=(0,[120,110,45,45,98,99,104,101,114,45,107,118,97],[98,195,188,99,104,101,114]):=by decide +kernel
theorem Asp:Lab.Bj [65,98,99]=(0,[97,98,99],[97,98,99]):=by decide +kernel
theorem Asq:Lab.Bj [45,97]=(11,[],[]):=by decide +kernel
theorem Asr:Lab.Bj [120,110,45,45,97,98,99,45]=(4,[],[]):=by decide +kernel
theorem Ass:Lab.Bj [204,129,97]=(10,[],[]):=by decide +kernel
theorem Ast:Lab.Bj [229,180,138]=(0,[120,110,45,45,52,108,116],[229,180,138]):=by decide +kernel
theorem Asu:Lab.Cx []=13:=by decide +kernel
theorem Asv:Lab.Cx [97,95,98]=8:=by decide +kernel
theorem Asw:Lab.Df [215,144,97]=9:=by decide +kernel
theorem Ar0:Lab.Df [97,194,183]=8:=by decide +kernel
theorem Ar1:Lab.Ll [195,188]=3:=by decide +kernel
theorem Ar2:Lab.Ll [97]=1:=by decide +kernel
theorem Ar3:Lab.Ll [88,110,45,45,98,99,104,101,114,45,107,118,97]=2:=by decide +kernel
theorem Ar4:Lab.Ll []=0:=by decide +kernel
theorem Ar5:Lab.C9 228=true:=by decide +kernel
theorem Ar6:Lab.C9 65=false:=by decide +kernel
end
section
open Go.RowKit Utf
def E4 (p:Int × List (List Int)) (w:World) (e:Ending) (w':World):Prop :=
 ∃ v,e=.returned (.tuple #[v,.int .i64 p.1])/\Te v (p.2.map Ae) w'/\Below w.heap.size w w'
theorem Gs {E:Int} {w w':World} (hb:Below w.heap.size w w'):E4 (E,[]) w (.returned (.tuple #[.slice none 0 0,.int .i64 E])) w':=⟨_,rfl,Te.nil _,hb⟩
theorem Si (s:ByteArray) (w:World) (hs:s.size<=100000) (hm:∀ m,A9 s.data.toList=(m,-1)->m.length<=420/\(Fold.fold (ints m)).length<=420) :
  Calls prog 11 #[.string s] w (E4 (Dom.Bi s.data.toList) w):=by
 obtain ⟨⟨m,z⟩,hrd⟩:∃ p,A9 s.data.toList=p:=⟨_,rfl⟩
 rcases (Cu hrd).2.2 with ⟨rfl,-⟩ | ⟨k,rfl,-,-⟩
 case inr =>
  have hE:Dom.Bi s.data.toList=(7,[]):=by unfold Dom.Bi;rw [hrd,if_neg (by show ¬ (k:Int)=-1;omega)]
  have KF:=jH (U0 s w hs hrd);rw [hE];clear hE hrd hm;go_enter func11,ntmps11;go_wp2_with fail;refine KF.out.mono ?_;rintro e w2 ⟨rfl,hb2⟩;have B2:=jH hb2;clear hb2;go_wp2;go_ret2;exact Gs B2.out
 obtain ⟨hml,hfl⟩:=hm m hrd;have hE:Dom.Bi s.data.toList=if Fold.fold (ints m)=[] then (13,[]) else if 32<(Dom.cut (Fold.fold (ints m))).length then (2,[]) else (0,Dom.cut (Fold.fold (ints m))):=by unfold Dom.Bi;rw [hrd,if_pos rfl]
 obtain ⟨hr,-⟩:=Lab.Jf (s:=s.data.toList) (by rw [hrd]);rw [hrd] at hr;simp only at hr;have hF:=λW=>Rb s W hs hml hrd;rw [hE];have hR:=Dj hr;generalize Fold.fold (ints m)=L at hF hfl hR ⊢;clear hE hrd hm hr hml;obtain ⟨X,hX⟩:∃ X,X=Ae L:=⟨_,rfl⟩
 rw [<- hX] at hF;have hXl:X.length<=1680:=by rw [hX];have:=Db L;omega
 have hrd:A9 X=(L.map Int.toNat,-1):=by rw [hX];exact D4 hR
 have hKR:=λW=>E9 ⟨X.toArray⟩ W (by rw [C5];omega) (l:=L.map Int.toNat) (z:=-1) hrd;have hKL:∀ W,Calls prog 28 #[.string ⟨X.toArray⟩] W (Adh L W):=λW=>(hKR W).mono λe w' ⟨A,c,h1,h2,h3⟩=>⟨A,c,by rw [h1,jai],by rw [jai,(Ce hR).1] at h2;exact h2,h3⟩
 have KF:=jH hF;have KL:=jH hKL;have HR:=jH hR;clear hF hKR hKL hrd hR;obtain ⟨P,hP⟩:∃ P,P=(if L=[] then ((13:Int),([]:List (List Int))) else if 32<(Dom.cut L).length then (2,[]) else (0,Dom.cut L)):=⟨_,rfl⟩
 rw [<- hP];by_cases h0:L=[]
 ·have R:=jH (show P=(13,[]) by rw [hP,if_pos h0]);have hXe:X=[]:=by rw [hX,h0];rfl
  subst hXe;clear hP h0 hX KL hXl;go_enter func11,ntmps11;go_wp2_with fail;refine (KF.out w).mono ?_;rintro e w2 ⟨rfl,hb2⟩;have B2:=jH hb2;clear hb2;go_wp2;go_ret2;rw [R.out];exact Gs B2.out
 ·have hXe:X.isEmpty=false:=by
   rw [List.isEmpty_eq_false_iff,hX];intro e;exact h0 (Lab.Ga HR.out rfl e)
  have HP:=jH (show P=if 32<(Dom.cut L).length then (2,[]) else (0,Dom.cut L) by rw [hP,if_neg h0]);clear hP h0 hX;go_enter func11,ntmps11;go_wp2_with fail;refine (KF.out w).mono ?_;rintro e w2 ⟨rfl,hb2⟩;have B2:=jH hb2;clear hb2;go_wp2_with fail;refine (KL.out w2).mono ?_;rintro e w3 ⟨A,c,rfl,hv3,hb3⟩;have V3:=jH hv3;have B3:=jH (Aa B2.out hb3);obtain ⟨A',c',e',hcl,hx⟩:=hv3.form;injection e' with e1 e2 e3
  subst e1 e3;have HX:=jH hx;have hO:=Vs w3 w3.heap.size w3.heap.size rfl (jaa _) [[]] jD;have HO:=jH hO;have hcz:(L.length:Int)<=(c:Int):=jO
  clear hb3 hv3 hx hO;go_wp2;go_loopg [8,9,10,11] (L.length+1) (λgk s8 s9 _ _ wr=>∃ (k q g c':Nat),s8=.slice (some ⟨g,0,none⟩) (q+1) c'/\s9=.int .i64 k/\k<=L.length/\q<=k/\L.length - k<gk /\
   Hid ((Dom.cut (L.take k)).length=q+1/\Ej w3.heap.size (.slice (some ⟨g,0,none⟩) (q+1) c') ((Dom.cut (L.take k)).map Ae) wr/\Below w3.heap.size w3 wr))
  case atStart=>exact ⟨0,0,w3.heap.size,1,rfl,rfl,Nat.zero_le _,jaa _,by omega,⟨rfl,HO.out,Ac _ _⟩⟩
  case round =>
   obtain ⟨k,q,g,c',rfl,rfl,hk,hqk,hg,I⟩:=hrel;have BW:=jH (Aa B3.out I.out.2.2);by_cases hlt:k<L.length
   ·obtain ⟨ad,rfl,hab,hac⟩:=HX.out k hlt;have hcell:=(I.out.2.2.cell (by rw [Ah];exact hab)).trans hac;have hab':ad.block<wr.heap.size:=jas hab I.out.2.2.size;obtain ⟨x,hxe⟩:∃ x,x=L[k]!:=⟨_,rfl⟩
    rw [<- hxe] at hcell;have htk:L.take (k+1)=L.take k ++ [x]:=by rw [List.take_add_one,List.getElem?_eq_getElem hlt,hxe,getElem!_pos L k hlt];rfl
    have hrx:Ad [x]=true:=by
     have:=jar.1 (show L.all Ak=true from HR.out) x (by rw [hxe,getElem!_pos L k hlt];exact List.getElem_mem hlt);unfold Ad;rw [List.all_cons,this];rfl
    have hkz:(k:Int)<(L.length:Int):=jO
    have HT:=jH htk;clear hac hxe htk;cases hd:Dom.Cp x with
    | true =>
     have hN:=jH (show (Dom.cut (L.take (k+1))).length=q+1+1 by rw [HT.out,Dom.F7 hd,jab,I.out.1];rfl);have hM:=jH (show (Dom.cut (L.take (k+1))).map Ae=(Dom.cut (L.take k)).map Ae ++ [[]] by rw [HT.out,Dom.F7 hd,List.map_append];rfl);have hml:((Dom.cut (L.take k)).map Ae).length<=1000000:=by rw [jai,I.out.1];omega
     have HML:=jH hml;clear hml hrx;rcases Dom.Xr hd with rfl | rfl
     all_goals
      clear hd;go_wp2_with (at_builtin;refine Adm wr w3.heap.size _ _ I.out.2.1 I.out.2.2.size HML.out [] wr.heap.size rfl rfl _ _ rfl rfl rfl ?_;intro v5 w5 ho5 hb5;have O5:=jH ho5;obtain ⟨A5,c5,rfl,hs5⟩:=ho5.shape;obtain ⟨g5,rfl,-,-⟩:=hs5 jS;have hl5:((Dom.cut (L.take k)).map Ae ++ [[]]).length=q+1+1:=(by rw [jab,jai,I.out.1];rfl);have B5:=jH hb5;clear ho5 hs5 hb5);go_roundg (L.length - k)
      case measure=>omega
      case rel =>
       refine ⟨k+1,q+1,g5,c5,rfl,by go_num,by omega,by omega,by omega,⟨hN.out,?_,I.out.2.2.trans B5.out⟩⟩;rw [hM.out,<- hl5];exact O5.out
    | false =>
     have hN:=jH (show (Dom.cut (L.take (k+1))).length=q+1 by rw [HT.out,Dom.Lr hd _ q I.out.1,List.length_set,I.out.1]);obtain ⟨a,ha⟩:∃ a,a=Ae (Dom.cut (L.take k))[q]!:=⟨_,rfl⟩
     have hM:=jH (show (Dom.cut (L.take (k+1))).map Ae=((Dom.cut (L.take k)).map Ae).set q (a ++ Ae [x]) by
      rw [HT.out,Dom.Lr hd _ q I.out.1,List.map_set,ha];congr 1;unfold Ae;rw [List.flatMap_append])
     have hal:a.length<=1680:=by
      rw [ha];have h1:=Db (Dom.cut (L.take k))[q]!;have h2:=Dom.Zn (L.take k) (Dom.cut (L.take k))[q]! (by rw [getElem!_pos _ q (by rw [I.out.1];omega)];exact List.getElem_mem _);rw [jak] at h2;omega
     have hca:=I.out.2.1.cell q (by rw [jai,I.out.1];omega);have hfr:=I.out.2.1.free q;have hge:((Dom.cut (L.take k)).map Ae)[q]! = a:=by
      rw [ha,getElem!_pos _ q (by rw [jai,I.out.1];omega),getElem!_pos _ q (by rw [I.out.1];omega),List.getElem_map]
     rw [hge] at hca;have hrow:Runes (.slice (some (ad.add k)) 1 (c - k)) [x] wr:=by
      refine ⟨some (ad.add k),c - k,rfl,by simp;omega,λe=>(by cases e),λ_=>⟨_,rfl,by rw [Ah];exact hab',λj u hu=>?_⟩⟩;obtain ⟨hj,hu⟩:=List.getElem?_eq_some_iff.1 hu;obtain rfl:j=0:=by simp at hj;omega
      rw [<- hu,show (ad.add k).add 0=ad.add k by unfold Addr.add;rw [if_pos rfl]];exact hcell
     have hKS:=Ic _ [x] wr hrow jS (bs:=Ae [x]) (ok:=true) hrx (Gw hrx);have hbl:=Db [x];obtain ⟨b,hb⟩:∃ b,Ae [x]=b:=⟨_,rfl⟩
     rw [hb] at hKS hbl;have HBx:=jH hb;have KS:=jH hKS;have d1:(x == 46)=false:=by unfold Dom.Cp at hd;rw [Bool.or_eq_false_iff] at hd;exact hd.1
     have d2:(x == 12290)=false:=by unfold Dom.Cp at hd;rw [Bool.or_eq_false_iff] at hd;exact hd.2
     have HA:=jH ha;have hblen:b.length<=4:=hbl;clear hb hKS hbl hrow hge ha hrx hd;have hgl:w3.heap.size<=g/\g<wr.heap.size:=by
      obtain ⟨A6,c6,e6,h6⟩:=I.out.2.1.shape;injection e6 with e7 e8 e9
      obtain ⟨g6,e,hl1,hl2⟩:=h6 (by rw [jai,I.out.1];omega);rw [<- e7] at e;injection e with e
      injection e with e
      rw [e];exact ⟨hl1,hl2⟩
     have HGL:=jH hgl;go_wp2_with fail;refine KS.out.mono ?_;rintro e w4 ⟨rfl,hb4⟩;have HB4:=jH hb4;have hca4:=(hb4.cell (p:=⟨g,q,none⟩) hgl.2).trans hca;have hfr4:=(hb4.frozen (p:=⟨g,q,none⟩) hgl.2).trans hfr;clear hb4 hca hfr hcell hgl;go_wp2;go_roundg (L.length - k)
     case measure=>omega
     case rel =>
      refine ⟨k+1,q,g,c',rfl,by go_num,by omega,by omega,by omega,⟨hN.out,?_,(I.out.2.2.trans (HB4.out.mono I.out.2.2.size)).setCell (p:=⟨g,q,none⟩) HGL.out.1 _⟩⟩;rw [Lq,hM.out,HBx.out];exact (I.out.2.1.Af HB4.out).put q _
   ·obtain rfl:k=L.length:=jO
    have hkz:¬ (L.length:Int)<(L.length:Int):=jO
    have hN:=I.out;rw [List.take_length] at hN;have HN:=jH hN;by_cases h32:32<q+1
    ·have R:=jH (show P=(2,[]) by rw [HP.out,HN.out.1,if_pos h32]);have h32z:(32:Int)<((q+1:Nat):Int):=jO
     clear hN h32;go_wp2;go_ret2;rw [R.out];exact Gs BW.out
    ·have R:=jH (show P=(0,Dom.cut L) by rw [HP.out,HN.out.1,if_neg h32]);have h32z:((q+1:Nat):Int)<=32:=jO
     clear hN h32;go_wp2;go_ret2;rw [R.out];exact ⟨_,rfl,HN.out.2.1.strs,BW.out⟩
end
section
open Go.RowKit Utf
namespace Dom
theorem Fe {bs:List UInt8} (hm:∀ m,A9 bs=(m,-1)->(Fold.fold (ints m)).length<=420):(Bi bs).2.length<=32/\∀ p ∈ (Bi bs).2,Ad p=true/\p.length<=420/\Fold.fold p=p:=by
 unfold Bi;by_cases hz:(A9 bs).2=-1
 ·rw [if_pos hz];have h1:=hm (A9 bs).1 (by rw [<- hz]);have h2:=Dj (Lab.Jf hz).1;have hp:=Ae7 (ints (A9 bs).1);generalize Fold.fold (ints (A9 bs).1)=L at h1 h2 hp;split
  ·exact ⟨by decide,λp hp=>by cases hp⟩
  ·split
   · exact ⟨by decide,λp hp=>by cases hp⟩
   · exact ⟨by show (cut L).length<=32;omega,λp hq=>⟨Q1 h2 p hq,Nat.le_trans (Zn L p hq) h1,hp p hq⟩⟩
 ·rw [if_neg hz];exact ⟨by decide,λp hp=>by cases hp⟩
theorem Ya {p:List Int} (hr:Ad p=true) (h:Dc p=0):(Ar p).length<=63/\(Cc p).length<=252:=by
 have hb:Lab.Eh (Fold.fold p)=(0,Ar p,Cc p):=by
  rw [<- Lab.Ds hr,<- h];rfl
 obtain ⟨U,hu,-,-,-,-,-,-,-,l1,l2,-,-⟩:=Lab.clean (Dj hr) (Fold.F2 p) hb;have:=Db U;rw [hu];omega
theorem Ug {l:List (List UInt8)} (a:List UInt8) (h:l ≠ []):Bl (l ++ [a])=Bl l ++ [46] ++ a:=by
 rw [Qs h jS,jaq];rfl
theorem Aca {ps:List (List Int)} {k:Nat} (hk:k<ps.length) (h:∀ j,j<k->Dc ps[j]! = 0) (he:Dc ps[k]! ≠ 0):E7 ps=(Dc ps[k]!,[],[]):=by
 unfold E7;rw [Me (λp=>Dc p != 0) ps k hk (λj hj=>by rw [h j hj];rfl) (bne_iff_ne.2 he)]
theorem Agy {ps:List (List Int)} (h:∀ j,j<ps.length->Dc ps[j]! = 0):E7 ps=if 253<(Bl (ps.map Ar)).length then (5,[],[]) else (0,Bl (ps.map Ar),Bl (ps.map Cc)):=by
 unfold E7;rw [M9 (λp=>Dc p != 0) ps (λj hj=>by rw [h j hj];rfl)]
theorem Rw {ps:List (List Int)} {k:Nat} (hk:k<ps.length) (f:List Int->List UInt8):(ps.take (k+1)).map f=(ps.take k).map f ++ [f ps[k]!]:=by
 rw [List.take_add_one,List.getElem?_eq_getElem hk,getElem!_pos ps k hk,List.map_append];rfl
end Dom
theorem Qv (s:ByteArray) (w:World) (hs:s.size<=100000) (hm:∀ m,A9 s.data.toList=(m,-1)->m.length<=420/\(Fold.fold (ints m)).length<=420) :
  Calls prog 14 #[.string s] w (Ts (Dom.As s.data.toList) w):=by
 have KL:=Si s w hs hm;obtain ⟨hn32,hparts⟩:=Dom.Fe (bs:=s.data.toList) (λm h=>(hm m h).2);obtain ⟨⟨E,ps⟩,hE⟩:∃ p,Dom.Bi s.data.toList=p:=⟨_,rfl⟩
 obtain ⟨P,hP⟩:∃ P,P=Dom.As s.data.toList:=⟨_,rfl⟩
 rw [<- hP];unfold Dom.As at hP;rw [hE] at hP KL hn32 hparts;simp only at hP hn32 hparts;have KL:=jH KL;clear hE hm;by_cases hE0:E=0
 case neg =>
  have R:=jH (show P=(E,[],[]) by rw [hP,if_neg hE0]);have e0:(E == 0)=false:=by simpa using hE0
  clear hP hE0 hparts;go_enter func14,ntmps14;go_wp2_with fail;refine KL.out.mono ?_;rintro e w2 ⟨v,rfl,hv,hb⟩;obtain ⟨A,c,rfl,-,-⟩:=hv.form;have B2:=jH hb;clear hv hb;go_wp2;go_ret3;exact ⟨by rw [R.out];rfl,B2.out⟩
 have HP:=jH (show P=Dom.E7 ps by rw [hP,if_pos hE0]);subst hE0;have HPA:=jH hparts;clear hP hparts;go_enter func14,ntmps14;go_wp2_with fail;refine KL.out.mono ?_;rintro e w2 ⟨v,rfl,hv,hb⟩;obtain ⟨A,c,rfl,hcl,hx⟩:=hv.form;have B2:=jH hb;have HX:=jH hx;obtain ⟨n,hn⟩:∃ n,n=(ps.map Ae).length:=⟨_,rfl⟩
 rw [<- hn] at hcl ⊢;have hnp:n=ps.length:=by rw [hn,jai]
 have HN:=jH hn;have HNP:=jH hnp;rw [<- hnp] at hn32;clear hv hb hx hn hnp;go_wp2;go_loopg [7,8,9,10,11,12] (n+1) (λgk s7 s8 s9 _ _ _ wr=>∃ (k:Nat) (X Y:List UInt8),s7=.string ⟨X.toArray⟩/\s8=.string ⟨Y.toArray⟩/\s9=.int .i64 k/\k<=n/\X.length<=64*k/\Y.length<=256*k/\n - k<gk /\
  Hid (X=Dom.Bl ((ps.take k).map Dom.Ar)/\Y=Dom.Bl ((ps.take k).map Dom.Cc)/\(∀ j,j<k->Dom.Dc ps[j]! = 0)/\Below w2.heap.size w2 wr))
 case atStart=>exact ⟨0,[],[],rfl,rfl,rfl,Nat.zero_le _,by decide,by decide,by omega,⟨rfl,rfl,λj hj=>absurd hj (Nat.not_lt_zero _),jan _ _⟩⟩
 case round =>
  obtain ⟨k,X,Y,rfl,rfl,rfl,hk,hXl,hYl,hg,I⟩:=hrel;have BW:=jH (Aa B2.out I.out.2.2.2);by_cases hlt:k<n
  ·obtain ⟨ad,rfl,hab,hac⟩:=HX.out k (by have:=HN.out;omega);have hcell:=(I.out.2.2.2.cell (by rw [Ah];exact hab)).trans hac;have hkp:k<ps.length:=by have:=HNP.out;omega
   obtain ⟨p,hp⟩:∃ p,p=ps[k]!:=⟨_,rfl⟩
   have hge:(ps.map Ae)[k]! = Ae p:=by rw [hp,getElem!_pos _ k (by rw [jai];exact hkp),getElem!_pos ps k hkp,List.getElem_map]
   rw [hge] at hcell;obtain ⟨hpr,hpl,hpf⟩:=HPA.out p (by rw [hp,getElem!_pos ps k hkp];exact List.getElem_mem hkp);have hel:=Db p;have K8:=Ahg ⟨(Ae p).toArray⟩ wr (by rw [C5];omega) (λm' h=>by
    have h':A9 (Ae p)=(m',-1):=h;rw [D4 hpr] at h';injection h' with e1 e2
    rw [<- e1,jai,(Ce hpr).1,hpf];exact ⟨hpl,hpl⟩)
   change Calls _ _ _ wr (Ts (Dom.Dc p,Dom.Ar p,Dom.Cc p) wr) at K8;have hlen:=λh=>Dom.Ya hpr h;have hfirst:=λhe=>Dom.Aca hkp I.out.2.2.1 he;have hnext:=Dom.Rw hkp Dom.Ar;have hnextU:=Dom.Rw hkp Dom.Cc;have hall:Dom.Dc p=0->∀ j,j<k+1->Dom.Dc ps[j]! = 0:=λh j hj=>by
    by_cases e:j=k
    ·subst e;rw [<- hp];exact h
    ·exact I.out.2.2.1 j jO
   rw [<- hp] at hfirst hnext hnextU;have HK1:=jH (show k ≠ 0->(ps.take k).map Dom.Ar ≠ []/\(ps.take k).map Dom.Cc ≠ [] from λh=>by
    constructor<;>(intro e;have:=congrArg List.length e;rw [jai,jak] at this;simp only [List.length_nil] at this;omega))
   have hkz:(k:Int)<(n:Int):=jO
   generalize Dom.Dc p=E at K8 hlen hfirst hall;generalize Dom.Ar p=a at K8 hlen hnext;generalize Dom.Cc p=b at K8 hlen hnextU;have K8:=jH K8;have HLEN:=jH hlen;have HFIRST:=jH hfirst;have HNEXT:=jH hnext;have HNEXTU:=jH hnextU;have HALL:=jH hall;clear hac hge hpr hpl hpf hel hlen hfirst hnext hnextU hall hp hkp;by_cases hE:E=0
   case neg =>
    have R:=jH (show P=(E,[],[]) by rw [HP.out];exact HFIRST.out hE);have e0:(E == 0)=false:=by simpa using hE
    clear hE;go_wp2_with fail;refine K8.out.mono ?_;rintro e w4 ⟨rfl,hb4⟩;have B4:=jH (Aa BW.out hb4);clear hb4 hcell;go_wp2;go_ret3;exact ⟨by rw [R.out];rfl,B4.out⟩
   ·subst hE;obtain ⟨hla,hlb⟩:=HLEN.out rfl;by_cases hk0:k=0
    ·have HX0:=jH (show a=Dom.Bl ((ps.take (k+1)).map Dom.Ar) by rw [HNEXT.out,hk0];rfl);have HY0:=jH (show b=Dom.Bl ((ps.take (k+1)).map Dom.Cc) by rw [HNEXTU.out,hk0];rfl);have hX0:X=[]:=List.eq_nil_of_length_eq_zero jO;have hY0:Y=[]:=List.eq_nil_of_length_eq_zero jO;subst hX0 hY0;have hkz0:(k:Int)<=0:=jO
     clear hk0;go_wp2_with fail;refine K8.out.mono ?_;rintro e w4 ⟨rfl,hb4⟩;have B4:=jH (I.out.2.2.2.trans (hb4.mono I.out.2.2.2.size));clear hb4 hcell;go_wp2;go_roundg (n - k)
     case measure=>omega
     case rel =>
      refine ⟨k+1,a,b,?_,?_,by go_num,by omega,by omega,by omega,by omega,⟨HX0.out,HY0.out,HALL.out trivial,B4.out⟩⟩
      · exact congrArg Value.string ((Lq [] a).trans rfl)
      · exact congrArg Value.string ((Lq [] b).trans rfl)
    ·have HX0:=jH (show X ++ [46] ++ a=Dom.Bl ((ps.take (k+1)).map Dom.Ar) by rw [HNEXT.out,Dom.Ug _ (HK1.out hk0).1,I.out.1]);have HY0:=jH (show Y ++ [46] ++ b=Dom.Bl ((ps.take (k+1)).map Dom.Cc) by rw [HNEXTU.out,Dom.Ug _ (HK1.out hk0).2,I.out.2.1]);have hkz0:(0:Int)<(k:Int):=jO
     clear hk0;go_wp2_with fail;refine K8.out.mono ?_;rintro e w4 ⟨rfl,hb4⟩;have B4:=jH (I.out.2.2.2.trans (hb4.mono I.out.2.2.2.size));clear hb4 hcell;go_wp2;go_roundg (n - k)
     case measure=>omega
     case rel =>
      refine ⟨k+1,X ++ [46] ++ a,Y ++ [46] ++ b,?_,?_,by go_num,by omega,by simp only [jab,List.length_singleton];omega,by simp only [jab,List.length_singleton];omega,by omega,⟨HX0.out,HY0.out,HALL.out trivial,B4.out⟩⟩
      · rw [<- Lq,<- Lq]
      · rw [<- Lq,<- Lq]
  ·obtain rfl:k=n:=jO
   have hkz:¬ (k:Int)<(k:Int):=jO
   have hA:ps.take k=ps:=by rw [HNP.out,List.take_length]
   have hX:=I.out.1;have hY:=I.out.2.1;rw [hA] at hX hY;have hO:=Dom.Agy (ps:=ps) (λj hj=>I.out.2.2.1 j (by have:=HNP.out;omega));rw [<- hX,<- hY] at hO;have HO:=jH (HP.out.trans hO);clear hA hX hY hO;by_cases h253:253<X.length
   ·have R:=jH (show P=(5,[],[]) by rw [HO.out,if_pos h253]);have h253z:(253:Int)<(X.length:Int):=jO
    clear h253;go_wp2;go_ret3;exact ⟨by rw [R.out];rfl,BW.out⟩
   ·have R:=jH (show P=(0,X,Y) by rw [HO.out,if_neg h253]);have h253z:(X.length:Int)<=253:=jO
    clear h253;go_wp2;go_ret3;exact ⟨by rw [R.out];rfl,BW.out⟩
theorem Ahx (s:ByteArray) (w:World) (hs:s.size<=100000) (hm:∀ m,A9 s.data.toList=(m,-1)->m.length<=420/\(Fold.fold (ints m)).length<=420) :
  Calls prog 16 #[.string s] w λe w'=>e=.returned (.tuple #[.string ⟨(Dom.Jb s.data.toList).toArray⟩,.int .i64 (Dom.As s.data.toList).1])/\Below w.heap.size w w':=by
 have KB:=Qv s w hs hm;have KE:=λW=>Kz s W jO;obtain ⟨⟨E,a,u⟩,hE⟩:∃ p,Dom.As s.data.toList=p:=⟨_,rfl⟩
 have hd:Dom.Jb s.data.toList=if E=0/\Lab.Bp s.data.toList=true then s.data.toList else a:=by unfold Dom.Jb;rw [hE]
 rw [hd,hE];rw [hE] at KB;change Calls _ _ _ w λe w'=>e=.returned (.tuple #[.string ⟨a.toArray⟩,.string ⟨u.toArray⟩,.int .i64 E])/\Below w.heap.size w w' at KB;have KB:=jH KB;have hss:(⟨s.data.toList.toArray⟩:ByteArray)=s:=rfl;have HSS:=jH hss;clear hd hE hm hss;by_cases h0:E=0
 case neg =>
  rw [if_neg (λh=>h0 h.1)];have e0:(E == 0)=false:=by simpa using h0
  clear h0 KE;go_enter func16,ntmps16;go_wp2_with fail;refine KB.out.mono ?_;rintro e w2 ⟨rfl,hb⟩;have B2:=jH hb;clear hb;go_wp2;go_ret2;exact ⟨rfl,B2.out⟩
 subst h0;rcases Lab.D9 s.data.toList with ⟨ha,he⟩ | ⟨ha,he⟩
 ·rw [he] at KE;rw [if_pos ⟨rfl,ha⟩,HSS.out];have K:=jH KE;clear ha he KE;go_enter func16,ntmps16;go_wp2_with fail;refine KB.out.mono ?_;rintro e w2 ⟨rfl,hb⟩;have B2:=jH hb;clear hb;go_wp2_with fail;refine (K.out w2).mono ?_;rintro e w3 ⟨rfl,rfl⟩;go_wp2;go_ret2;exact ⟨rfl,B2.out⟩
 ·obtain ⟨ei,hei⟩:∃ ei,Ba s.data.toList=ei:=⟨_,rfl⟩
  rw [hei] at KE he;rw [if_neg (λh=>by rw [ha] at h;cases h.2)];have K:=jH KE;clear ha hei KE;go_enter func16,ntmps16;go_wp2_with fail;refine KB.out.mono ?_;rintro e w2 ⟨rfl,hb⟩;have B2:=jH hb;clear hb;go_wp2_with fail;refine (K.out w2).mono ?_;rintro e w3 ⟨rfl,rfl⟩;go_wp2;go_ret2;exact ⟨rfl,B2.out⟩
end
section
open Go.RowKit Utf
namespace Dom
def Ea (a b:List UInt8):Bool:=(As a).1 == 0 && (As b).1 == 0 && (As a).2.1 == (As b).2.1
end Dom
theorem Dm {s:ByteArray} (hs:s.size<=210):Bc s:=by
 refine ⟨by omega,λm hm=>?_⟩;obtain ⟨h1,h2⟩:=Lab.Jf (s:=s.data.toList) (by rw [hm]);rw [hm] at h1 h2;simp only at h1 h2;have h3:(Fold.fold (ints m)).length<=2*(Ae (ints m)).length:=Lab.U4 h1;have h4:s.data.toList=Ae (ints m):=h2;rw [<- h4] at h3;have e:s.data.toList.length=s.size:=by simp
 have hml:m.length<=210:=by have:=(Cu hm).2.1;simp at this;omega
 have hdw:=Lab.Pj ((ints m).map Fold.fo);rw [jai] at hdw;have hil:(ints m).length=m.length:=by simp [ints]
 exact ⟨⟨by omega,hm,by omega,by omega⟩,by omega⟩
theorem Tk {s:ByteArray} (hs:s.size<=210):∀ m,A9 s.data.toList=(m,-1)->m.length<=420/\(Fold.fold (ints m)).length<=420:=λm hm=>by
 have hml:m.length<=210:=by have:=(Cu hm).2.1;simp at this;omega
 exact ⟨by omega,((Dm hs).2 m hm).2⟩
theorem Agl {X:List Int} (hX:Ad X=true) (hf:Fold.fold X=X) (hl:X.length<=253):Bc ⟨(Ae X).toArray⟩:=by
 have hdw:=Lab.Pj (X.map Fold.fo);rw [jai] at hdw;exact Agv hX jO jO (by rw [hf];omega)
structure Hd:Prop where
 labels:∀ (t:Value) (s:ByteArray) (w:World),Table w t->Bc s->Calls prog 10 #[t,.string s] w (E4 (Dom.Bi s.data.toList) w)
 Bp:∀ (t:Value) (s:ByteArray) (w:World),Table w t->Bc s->Calls prog 12 #[t,.string s] w λe w'=>e=.returned (.tuple #[.string ⟨(Dom.As s.data.toList).2.1.toArray⟩,.int .i64 (Dom.As s.data.toList).1])/\Below w.heap.size w w'
 uni:∀ (t:Value) (s:ByteArray) (w:World),Table w t->Bc s->Calls prog 13 #[t,.string s] w λe w'=>e=.returned (.tuple #[.string ⟨(Dom.As s.data.toList).2.2.toArray⟩,.int .i64 (Dom.As s.data.toList).1])/\Below w.heap.size w w'
 same:∀ (t:Value) (a b:ByteArray) (w:World),Table w t->Bc a->Bc b->Calls prog 18 #[t,.string a,.string b] w λe w'=>e=.returned (.bool (Dom.Ea a.data.toList b.data.toList))/\Below w.heap.size w w'
 down:∀ (t:Value) (s:ByteArray) (w:World),Table w t->Bc s->Calls prog 15 #[t,.string s] w λe w'=>e=.returned (.tuple #[.string ⟨(Dom.Jb s.data.toList).toArray⟩,.int .i64 (Dom.As s.data.toList).1])/\Below w.heap.size w w'
theorem Hd.Az (B:Hd) (t:Value) (s:ByteArray) (w:World) (hT:Table w t) (hs:Bc s) {x:Int} {a u:List UInt8} (hx:Dom.As s.data.toList=(x,a,u)):Calls prog 12 #[t,.string s] w λe w'=>e=.returned (.tuple #[.string ⟨a.toArray⟩,.int .i64 x])/\Below w.heap.size w w':=by
 have:=B.Bp t s w hT hs;rwa [hx] at this
theorem Hd.Li (B:Hd) (t:Value) (s:ByteArray) (w:World) (hT:Table w t) (hs:Bc s) {x:Int} {a u:List UInt8} (hx:Dom.As s.data.toList=(x,a,u)):Calls prog 13 #[t,.string s] w λe w'=>e=.returned (.tuple #[.string ⟨u.toArray⟩,.int .i64 x])/\Below w.heap.size w w':=by
 have:=B.uni t s w hT hs;rwa [hx] at this
theorem Hd.Ci (B:Hd) (t:Value) (a b:ByteArray) (w:World) (hT:Table w t) (ha:Bc a) (hb:Bc b) {x:Bool} (hx:Dom.Ea a.data.toList b.data.toList=x):Calls prog 18 #[t,.string a,.string b] w λe w'=>e=.returned (.bool x)/\Below w.heap.size w w':=by
 have:=B.same t a b w hT ha hb;rwa [hx] at this
theorem Hd.Ki (B:Hd) (t:Value) (s:ByteArray) (w:World) (hT:Table w t) (hs:Bc s) {x:Int} {d:List UInt8} (hx:(Dom.As s.data.toList).1=x) (hd:Dom.Jb s.data.toList=d):Calls prog 15 #[t,.string s] w λe w'=>e=.returned (.tuple #[.string ⟨d.toArray⟩,.int .i64 x])/\Below w.heap.size w w':=by
 have:=B.down t s w hT hs;rwa [hx,hd] at this
theorem Hd.Dv (B:Hd) (t:Value) (s:ByteArray) (w:World) (hT:Table w t) (hs:Bc s) {p:Int × List (List Int)} (hx:Dom.Bi s.data.toList=p):Calls prog 10 #[t,.string s] w (E4 p w):=by
 have:=B.labels t s w hT hs;rwa [hx] at this
theorem Apo:Dom.As [65,46,98,195,188,99,104,101,114,227,128,130,99]=(0,[97,46,120,110,45,45,98,99,104,101,114,45,107,118,97,46,99],[97,46,98,195,188,99,104,101,114,46,99]):=by decide +kernel
theorem Apq:Dom.As [65,46,120,110,45,45,98,99,104,101,114,45,107,118,97]=(0,[97,46,120,110,45,45,98,99,104,101,114,45,107,118,97],[97,46,98,195,188,99,104,101,114]):=by decide +kernel
theorem Apr:Dom.As [97,46,46,98]=(13,[],[]):=by decide +kernel
theorem Aps:Dom.As []=(13,[],[]):=by decide +kernel
theorem Apt:(Dom.As [65,46,98]).1=0:=by decide +kernel
theorem Apn:Dom.Jb [65,46,98]=[65,46,98]:=by decide +kernel
theorem Apu:Dom.Bi [97,46,98]=(0,[[97],[98]]):=by decide +kernel
theorem Apv:Dom.Ea [98,195,156,99,104,101,114] [88,78,45,45,98,99,104,101,114,45,107,118,97]=true:=by decide +kernel
theorem Apw:Dom.Ea [97] [98]=false:=by decide +kernel
theorem Apx:Dom.Ea [] []=false:=by decide +kernel
theorem Av (B:Hd) (w:World):Calls prog 8 #[] w λe w'=>e=.returned (.bool true)/\Below w.heap.size w w':=by
 go_enter func8,ntmps8;go_wp2_with fail;refine (Dz _).mono ?_;rintro e w1 ⟨tt,rfl,hT,hb1⟩;have hT':=hT;obtain ⟨b0,b1,b2,b3,rfl,-,-,-,-⟩:=hT';have K0:=jH (Cs (b0:=b0) (b1:=b1) (b2:=b2) (b3:=b3) hb1 hT 28);obtain ⟨hS,c0,c1,c2,c3⟩:=K0.out.held;clear hT hb1;go_wp2_with fail;refine (B.Az (.agg #[.slice (some ⟨b0,0,none⟩) 74 74,.slice (some ⟨b1,0,none⟩) 10 10,.slice (some ⟨b2,0,none⟩) 11 11,.slice (some ⟨b3,0,none⟩) 42 42]) ⟨#[65,46,98,195,188,99,104,101,114,227,128,130,99]⟩ _ K0.out.table (Dm jD) (x:=0) (a:=[97,46,120,110,45,45,98,99,104,101,114,45,107,118,97,46,99]) (u:=[97,46,98,195,188,99,104,101,114,46,99]) Apo).mono ?_;rintro e w2 ⟨rfl,hb⟩;have K1:=jH (K0.out.next hb);clear hb K0 hS c0 c1 c2 c3;obtain ⟨hS,c0,c1,c2,c3⟩:=K1.out.held;go_wp2_with fail;refine (B.Li (.agg #[.slice (some ⟨b0,0,none⟩) 74 74,.slice (some ⟨b1,0,none⟩) 10 10,.slice (some ⟨b2,0,none⟩) 11 11,.slice (some ⟨b3,0,none⟩) 42 42]) ⟨#[65,46,120,110,45,45,98,99,104,101,114,45,107,118,97]⟩ _ K1.out.table (Dm jD) (x:=0) (a:=[97,46,120,110,45,45,98,99,104,101,114,45,107,118,97]) (u:=[97,46,98,195,188,99,104,101,114]) Apq).mono ?_;rintro e w3 ⟨rfl,hb⟩;have K2:=jH (K1.out.next hb);clear hb K1 hS c0 c1 c2 c3;obtain ⟨hS,c0,c1,c2,c3⟩:=K2.out.held;go_wp2_with fail;refine (B.Az (.agg #[.slice (some ⟨b0,0,none⟩) 74 74,.slice (some ⟨b1,0,none⟩) 10 10,.slice (some ⟨b2,0,none⟩) 11 11,.slice (some ⟨b3,0,none⟩) 42 42]) ⟨#[97,46,46,98]⟩ _ K2.out.table (Dm jD) (x:=13) (a:=[]) (u:=[]) Apr).mono ?_
 rintro e w4 ⟨rfl,hb⟩;have K3:=jH (K2.out.next hb);clear hb K2 hS c0 c1 c2 c3;obtain ⟨hS,c0,c1,c2,c3⟩:=K3.out.held;go_wp2_with fail;refine (B.Az (.agg #[.slice (some ⟨b0,0,none⟩) 74 74,.slice (some ⟨b1,0,none⟩) 10 10,.slice (some ⟨b2,0,none⟩) 11 11,.slice (some ⟨b3,0,none⟩) 42 42]) ⟨#[]⟩ _ K3.out.table (Dm jD) (x:=13) (a:=[]) (u:=[]) Aps).mono ?_;rintro e w5 ⟨rfl,hb⟩;have K4:=jH (K3.out.next hb);clear hb K3 hS c0 c1 c2 c3;obtain ⟨hS,c0,c1,c2,c3⟩:=K4.out.held;go_wp2_with fail;refine (B.Ki (.agg #[.slice (some ⟨b0,0,none⟩) 74 74,.slice (some ⟨b1,0,none⟩) 10 10,.slice (some ⟨b2,0,none⟩) 11 11,.slice (some ⟨b3,0,none⟩) 42 42]) ⟨#[65,46,98]⟩ _ K4.out.table (Dm jD) (x:=0) (d:=[65,46,98]) Apt Apn).mono ?_;rintro e w6 ⟨rfl,hb⟩;have K5:=jH (K4.out.next hb);clear hb K4 hS c0 c1 c2 c3;obtain ⟨hS,c0,c1,c2,c3⟩:=K5.out.held;go_wp2_with fail;refine (B.Dv (.agg #[.slice (some ⟨b0,0,none⟩) 74 74,.slice (some ⟨b1,0,none⟩) 10 10,.slice (some ⟨b2,0,none⟩) 11 11,.slice (some ⟨b3,0,none⟩) 42 42]) ⟨#[97,46,98]⟩ _ K5.out.table (Dm jD) Apu).mono ?_;rintro e w7 ⟨v,rfl,hv,hb⟩;obtain ⟨A,c,rfl,-,hx⟩:=hv.form;obtain ⟨ad,rfl,-,hcell⟩:=hx 1 jD;have hcell:w7.cell? ⟨ad.block,ad.off+1,none⟩=some (.string ⟨#[98]⟩):=by rw [<- show ad.add 1=⟨ad.block,ad.off+1,none⟩ by unfold Addr.add;rw [if_neg jD]];exact hcell
 rw [show ((([[97],[98]]:List (List Int)).map Ae).length)=2 from rfl];have K6:=jH (K5.out.next hb);clear hb K5 hS c0 c1 c2 c3 hv hx;obtain ⟨hS,c0,c1,c2,c3⟩:=K6.out.held;go_wp2_with fail;refine (B.Ci (.agg #[.slice (some ⟨b0,0,none⟩) 74 74,.slice (some ⟨b1,0,none⟩) 10 10,.slice (some ⟨b2,0,none⟩) 11 11,.slice (some ⟨b3,0,none⟩) 42 42]) ⟨#[98,195,156,99,104,101,114]⟩ ⟨#[88,78,45,45,98,99,104,101,114,45,107,118,97]⟩ _ K6.out.table (Dm jD) (Dm jD) (x:=true) Apv).mono ?_;rintro e w8 ⟨rfl,hb⟩;have K7:=jH (K6.out.next hb);clear hb K6 hS c0 c1 c2 c3 hcell;obtain ⟨hS,c0,c1,c2,c3⟩:=K7.out.held;go_wp2_with fail;refine (B.Ci (.agg #[.slice (some ⟨b0,0,none⟩) 74 74,.slice (some ⟨b1,0,none⟩) 10 10,.slice (some ⟨b2,0,none⟩) 11 11,.slice (some ⟨b3,0,none⟩) 42 42]) ⟨#[97]⟩ ⟨#[98]⟩ _ K7.out.table (Dm jD) (Dm jD) (x:=false) Apw).mono ?_;rintro e w9 ⟨rfl,hb⟩;have K8:=jH (K7.out.next hb);clear hb K7 hS c0 c1 c2 c3;obtain ⟨hS,c0,c1,c2,c3⟩:=K8.out.held;go_wp2_with fail;refine (B.Ci (.agg #[.slice (some ⟨b0,0,none⟩) 74 74,.slice (some ⟨b1,0,none⟩) 10 10,.slice (some ⟨b2,0,none⟩) 11 11,.slice (some ⟨b3,0,none⟩) 42 42]) ⟨#[]⟩ ⟨#[]⟩ _ K8.out.table (Dm jD) (Dm jD) (x:=false) Apx).mono ?_;rintro e w10 ⟨rfl,hb⟩;have K9:=jH (K8.out.next hb);clear hb K8 hS c0 c1 c2 c3;obtain ⟨hS,c0,c1,c2,c3⟩:=K9.out.held;go_wp2;go_ret;exact ⟨rfl,K9.out.below⟩
end
