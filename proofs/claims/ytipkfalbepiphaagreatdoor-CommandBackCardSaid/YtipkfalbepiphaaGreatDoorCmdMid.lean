import Derived.Test.YtipkfalbepiphaaGreatDoorCmdA
set_option maxRecDepth 100000
set_option maxHeartbeats 8000000
namespace Go.Proofs.YtipkfalbepiphaaGreatDoor
open Tryz
section
open Go.RowKit Utf
namespace Cmd
def Afi (m:Nat):Int:=if m=1 then 34 else if m=2 then 93 else 0
theorem Ac7 {s:ByteArray} {i:Nat} (h:i<s.size):s.data.toList.drop i=s[i]::s.data.toList.drop (i+1):=by
 have hl:i<s.data.toList.length:=by simpa using h
 rw [List.drop_eq_getElem_cons hl];simp;rfl
def Iz (s:ByteArray) (i m:Nat):Prop:=ends 0 s.data.toList=(ends m (s.data.toList.drop i)).map (·+i)
theorem Ayv {s:ByteArray} {i m m' k:Nat} (h:Iz s i m) (e:ends m (s.data.toList.drop i)=(ends m' (s.data.toList.drop (i+k))).map (·+k)):Iz s (i+k) m':=by
 unfold Iz at h ⊢;rw [h,e,Ja,Nat.add_comm]
theorem A3g {s:ByteArray} {i m:Nat} (h:Iz s i m) (hi:s.size<=i):ends 0 s.data.toList=none:=by
 unfold Iz at h;rw [h,List.drop_eq_nil_of_le (by simpa using hi),ends];rfl
end Cmd
theorem Au4 (s:ByteArray) (w:World) (hs:s.size<=100000):Calls prog 78 #[.string s] w λr w'=>r=.returned (.int .i64 (match Cmd.ends 0 s.data.toList with | none=>-1 | some n=>(n:Int)))/\w=w':=by
 obtain ⟨R,hR⟩:∃ R:Int,R=(match Cmd.ends 0 s.data.toList with | none=>-1 | some n=>(n:Int)):=⟨_,rfl⟩
 rw [<- hR];have HR:=jH hR;clear hR;go_enter func78,ntmps78;go_wp2;go_loopg [3,4] (s.size+2) (λgk s3 s4 wr=>∃ (i m:Nat),s3=.int .u8 (Cmd.Afi m)/\s4=.int .i64 i/\i<=s.size+1/\m<=2/\s.size+1 - i<gk/\wr=w/\Hid (Cmd.Iz s i m))
 case atStart=>exact ⟨0,0,rfl,by go_num,by omega,by omega,by omega,rfl,jH (by unfold Cmd.Iz;rw [List.drop_zero];exact (Option.map_id' ..).symm)⟩
 case round =>
  obtain ⟨i,m,rfl,rfl,hi,hm,hg,rfl,I⟩:=hrel;by_cases hlt:i<s.size
  ·have hiz:(i:Int)<(s.size:Int):=jO
   have hdrop:=Cmd.Ac7 hlt;have hsz:s.size<=100000:=hs;obtain ⟨b,hb⟩:∃ b,s[i]=b:=⟨_,rfl⟩
   rw [hb] at hdrop;have h3:m=0\/m=1\/m=2:=jO
   have fin:∀ k m',Cmd.ends m (s.data.toList.drop i)=(Cmd.ends m' (s.data.toList.drop (i+k))).map (·+k)->Hid (Cmd.Iz s (i+k) m'):=λk m' e=>jH (Cmd.Ayv I.out e);have hend:Cmd.ends m (s.data.toList.drop i)=some 1->R=((i+1:Nat):Int):=λe=>by
    have h0:=I.out;unfold Cmd.Iz at h0;rw [HR.out,h0,e];show ((1+i:Nat):Int)=_;omega
   rcases h3 with rfl | rfl | rfl
   ·show _;rw [show Cmd.Afi 0=0 from rfl];by_cases c34:b.toNat=34
    ·have N:=fin 1 1 (by rw [hdrop,Cmd.ends.eq_def];simp [c34]);have c34z:((b.toNat:Int) == 34)=true:=by simp [c34]
     clear fin hend hdrop I hm;go_wp2;go_roundg (s.size+1 - i)
     case measure=>omega
     case rel=>exact ⟨i+1,1,rfl,by go_num,by omega,by omega,by omega,rfl,N⟩
    have c34z:((b.toNat:Int) == 34)=false:=by simpa using (by omega:¬ (b.toNat:Int)=34)
    by_cases c91:b.toNat=91
    ·have N:=fin 1 2 (by rw [hdrop,Cmd.ends.eq_def];simp [c91]);have c91z:((b.toNat:Int) == 91)=true:=by simp [c91]
     clear fin hend hdrop I hm;go_wp2;go_roundg (s.size+1 - i)
     case measure=>omega
     case rel=>exact ⟨i+1,2,rfl,by go_num,by omega,by omega,by omega,rfl,N⟩
    have c91z:((b.toNat:Int) == 91)=false:=by simpa using (by omega:¬ (b.toNat:Int)=91)
    by_cases c62:b.toNat=62
    ·have E:=jH (hend (by rw [hdrop,Cmd.ends.eq_def];simp [c62]));have c62z:((b.toNat:Int) == 62)=true:=by simp [c62]
     clear fin hend hdrop I hm;go_wp2;go_ret;exact ⟨by rw [E.out];rfl,rfl⟩
    ·have N:=fin 1 0 (by rw [hdrop,Cmd.ends.eq_def];simp [c34,c91,c62]);have c62z:((b.toNat:Int) == 62)=false:=by simpa using (by omega:¬ (b.toNat:Int)=62)
     clear fin hend hdrop I hm;go_wp2;go_roundg (s.size+1 - i)
     case measure=>omega
     case rel=>exact ⟨i+1,0,rfl,by go_num,by omega,by omega,by omega,rfl,N⟩
   ·rw [show Cmd.Afi 1=34 from rfl];by_cases c92:b.toNat=92
    ·have c92z:((b.toNat:Int) == 92)=true:=by simp [c92]
     have N:=fin 2 1 (by
      rw [hdrop,Cmd.ends.eq_def];by_cases h2:i+1<s.size
      ·rw [Cmd.Ac7 h2];simp [c92]
      ·rw [List.drop_eq_nil_of_le (by simp;omega),List.drop_eq_nil_of_le (by simp;omega)];simp [c92,Cmd.ends])
     clear fin hend hdrop I hm;go_wp2;go_roundg (s.size+1 - i)
     case measure=>omega
     case rel=>exact ⟨i+2,1,rfl,by go_num,by omega,by omega,by omega,rfl,N⟩
    have c92z:((b.toNat:Int) == 92)=false:=by simpa using (by omega:¬ (b.toNat:Int)=92)
    by_cases c34:b.toNat=34
    ·have N:=fin 1 0 (by rw [hdrop,Cmd.ends.eq_def];simp [c34]);have c34z:((b.toNat:Int) == 34)=true:=by simp [c34]
     clear fin hend hdrop I hm;go_wp2;go_roundg (s.size+1 - i)
     case measure=>omega
     case rel=>exact ⟨i+1,0,rfl,by go_num,by omega,by omega,by omega,rfl,N⟩
    ·have N:=fin 1 1 (by rw [hdrop,Cmd.ends.eq_def];simp [c34,c92]);have c34z:((b.toNat:Int) == 34)=false:=by simpa using (by omega:¬ (b.toNat:Int)=34)
     clear fin hend hdrop I hm;go_wp2;go_roundg (s.size+1 - i)
     case measure=>omega
     case rel=>exact ⟨i+1,1,rfl,by go_num,by omega,by omega,by omega,rfl,N⟩
   ·rw [show Cmd.Afi 2=93 from rfl];by_cases c93:b.toNat=93
    ·have N:=fin 1 0 (by rw [hdrop,Cmd.ends.eq_def];simp [c93]);have c93z:((b.toNat:Int) == 93)=true:=by simp [c93]
     clear fin hend hdrop I hm;go_wp2;go_roundg (s.size+1 - i)
     case measure=>omega
     case rel=>exact ⟨i+1,0,rfl,by go_num,by omega,by omega,by omega,rfl,N⟩
    ·have N:=fin 1 2 (by rw [hdrop,Cmd.ends.eq_def];simp [c93]);have c93z:((b.toNat:Int) == 93)=false:=by simpa using (by omega:¬ (b.toNat:Int)=93)
     clear fin hend hdrop I hm;go_wp2;go_roundg (s.size+1 - i)
     case measure=>omega
     case rel=>exact ⟨i+1,2,rfl,by go_num,by omega,by omega,by omega,rfl,N⟩
  ·have hiz:¬ (i:Int)<(s.size:Int):=jO
   have E:=jH (show R=-1 by rw [HR.out,Cmd.A3g I.out jO]);go_wp2;go_ret;exact ⟨by rw [E.out];rfl,rfl⟩
theorem Acp (s b:ByteArray) (w:World) (hb:b.size<=100000) :
  Calls prog 37 #[.string s,.string b] w λr w'=>r=.returned (if (s.data.toList.take b.size).map Af=b.data.toList.map Af then .tuple #[.string ⟨(s.data.toList.drop b.size).toArray⟩,.bool true] else .tuple #[.string ⟨#[]⟩,.bool false])/\Below w.heap.size w w':=by
 have hsl:s.data.toList.length=s.size:=by simp
 have hbl:b.data.toList.length=b.size:=by simp
 by_cases hlt:s.size<b.size
 ·have E:=jH (show ¬ (s.data.toList.take b.size).map Af=b.data.toList.map Af from λh=>by
   have:=congrArg List.length h;rw [jai,jai,jak] at this;omega)
  have hz:(s.size:Int)<(b.size:Int):=jO
  rw [if_neg E.out];clear hsl hbl E;go_enter func37,ntmps37;go_wp2;go_ret2;exact ⟨rfl,jan _ _⟩
 ·have hz:¬ (s.size:Int)<(b.size:Int):=jO
  have hz2:(b.size:Int)<=(s.size:Int):=jO
  obtain ⟨X,hX⟩:∃ X:ByteArray,X=s.extract 0 b.size:=⟨_,rfl⟩
  have hXl:X.data.toList=s.data.toList.take b.size:=by
   rw [hX];have:=Lex.J5 s 0 b.size;rw [List.drop_zero,Nat.sub_zero] at this;exact this
  have hXs:X.size<=100000:=by
   have h1:X.data.toList.length=X.size:=by simp
   rw [<- h1,hXl,jak];omega
  have e2:(⟨(s.data.toList.drop b.size).toArray⟩:ByteArray)=s.extract b.size s.size:=by rw [<- Lex.Oz s b.size,Lex.Gn]
  obtain ⟨U,hU⟩:∃ U:ByteArray,U=⟨(X.data.toList.map Af).toArray⟩:=⟨_,rfl⟩
  obtain ⟨V,hV⟩:∃ V:ByteArray,V=⟨(b.data.toList.map Af).toArray⟩:=⟨_,rfl⟩
  have KX:=λW=>Hm X W hXs;have KB:=λW=>Hm b W hb;rw [e2,<- hXl];simp only [<- hU] at KX;simp only [<- hV] at KB;rw [hX] at KX;have hq:(X.data.toList.map Af=b.data.toList.map Af)=(U.toList=V.toList):=by rw [hU,hV,ByteArray.toList_eq,ByteArray.toList_eq]
  simp only [hq];have KX:=jH KX;have KB:=jH KB;clear hX hXl hXs hU hV hsl hbl hlt e2 hq hb;by_cases hUV:U.toList=V.toList
  ·have h1:(U.toList == V.toList)=true:=by simpa using hUV
   have h2:(U.toList != V.toList)=false:=by simpa using hUV
   rw [if_pos hUV];clear hUV;go_enter func37,ntmps37;go_wp2_with fail;refine (KX.out _).mono ?_;rintro r w1 ⟨rfl,hb1⟩;have BB:=jH hb1;clear hb1;go_wp2_with fail;refine (KB.out _).mono ?_;rintro r w2 ⟨rfl,hb1⟩;replace BB:=jH (Aa BB.out hb1);clear hb1;go_wp2;go_ret2;exact ⟨rfl,BB.out⟩
  ·have h1:(U.toList == V.toList)=false:=by simpa using hUV
   have h2:(U.toList != V.toList)=true:=by simpa using hUV
   rw [if_neg hUV];clear hUV;go_enter func37,ntmps37;go_wp2_with fail;refine (KX.out _).mono ?_;rintro r w1 ⟨rfl,hb1⟩;have BB:=jH hb1;clear hb1;go_wp2_with fail;refine (KB.out _).mono ?_;rintro r w2 ⟨rfl,hb1⟩;replace BB:=jH (Aa BB.out hb1);clear hb1;go_wp2;go_ret2;exact ⟨rfl,BB.out⟩
namespace Cmd
theorem Aeu {s:L} (h:¬ (4<=s.length/\(s.length=4\/s[4]? = some 32))):Fk s=none:=if_neg h
theorem Aw1 {s:L} (h:4<=s.length/\(s.length=4\/s[4]? = some 32)):Fk s=Hp.findIdx? (· == (s.take 4).map Af):=if_pos h
theorem Nr {i:Nat} (h:i<8):(F6[i]'h).map Af=Hp[i]'h/\(F6[i]'h).length=4:=by
 match i,h with
 | 0,_ | 1,_ | 2,_ | 3,_ | 4,_ | 5,_ | 6,_ | 7,_=>exact ⟨rfl,rfl⟩
def Abi (s:L):Value:=match Fk s with
 | none=>.tuple #[.int .i64 0,.string ⟨#[]⟩,.bool false]
 | some v=>.tuple #[.int .i64 (v:Int),.string ⟨(s.drop 4).toArray⟩,.bool true]
end Cmd
theorem A2j {i:Nat} (h:i<8) (W:World):(Instr.index 64 (.agg #[.string ⟨#[69,72,76,79]⟩,.string ⟨#[72,69,76,79]⟩,.string ⟨#[77,65,73,76]⟩,.string ⟨#[82,67,80,84]⟩,.string ⟨#[68,65,84,65]⟩,.string ⟨#[82,83,69,84]⟩,.string ⟨#[78,79,79,80]⟩,.string ⟨#[81,85,73,84]⟩]) (.int .i64 (i:Int))).run prog W=.ok (.string ⟨(Cmd.F6[i]'h).toArray⟩) W:=by
 have hc:i=0\/i=1\/i=2\/i=3\/i=4\/i=5\/i=6\/i=7:=jO
 rcases hc with rfl | rfl | rfl | rfl | rfl | rfl | rfl | rfl
 all_goals (revert W;intro W;exact rfl)
theorem Acq (s:ByteArray) (w:World) (hC:Ha w):Calls prog 25 #[.string s] w λr w'=>r=.returned (Cmd.Abi s.data.toList)/\Below w.heap.size w w':=by
 obtain ⟨R,hR⟩:∃ R,R=Cmd.Abi s.data.toList:=⟨_,rfl⟩
 rw [<- hR];have hsl:s.data.toList.length=s.size:=by simp
 by_cases h4:s.size<4
 ·have HR:=jH (show R=.tuple #[.int .i64 0,.string ⟨#[]⟩,.bool false] by rw [hR,Cmd.Abi,Cmd.Aeu jO]);have h4z:(s.size:Int)<4:=jO
  clear hR hsl h4 hC;go_enter func25,ntmps25;go_wp2;go_ret3;exact ⟨by rw [HR.out];rfl,jan _ _⟩
 have h4n:¬ (s.size:Int)<4:=jO
 by_cases h5:s.size=4\/s.data.toList[4]? = some 32
 case neg =>
  have HR:=jH (show R=.tuple #[.int .i64 0,.string ⟨#[]⟩,.bool false] by rw [hR,Cmd.Abi,Cmd.Aeu (λh=>h5 (by rw [hsl] at h;exact h.2))]);have h4z:(4:Int)<(s.size:Int):=by have:s.size ≠ 4:=λh=>h5 (.inl h);omega
  have h5z:(5:Int)<=(s.size:Int):=jO
  have hx:(s.extract 4 5).data.toList ≠ [32]:=λe=>h5 (.inr (by
   have h1:=Lex.J5 s 4 5;rw [e] at h1;have h2:=congrArg (λl=>l[0]?) h1;simp only [List.getElem?_cons_zero,List.getElem?_take,List.getElem?_drop] at h2;simpa using h2.symm))
  have q1:((s.extract 4 5).toList == [32])=false:=by
   rw [ByteArray.toList_eq,beq_eq_false_iff_ne];exact hx
  clear hR hsl h4 hC h5 hx;go_enter func25,ntmps25;go_wp2;go_ret3;exact ⟨by rw [HR.out];rfl,jan _ _⟩
 have hv:=Cmd.Aw1 (s:=s.data.toList) ⟨by omega,by rw [hsl];exact h5⟩;unfold Cmd.Abi at hR;rw [hv] at hR;have KC:=jH (λ(i:Nat) (h:i<8) (W:World)=>by
  have h1:=Acp s ⟨(Cmd.F6[i]'h).toArray⟩ W (by show (Cmd.F6[i]'h).toArray.size<=_;rw [List.size_toArray,(Cmd.Nr h).2];omega);rw [show (⟨(Cmd.F6[i]'h).toArray⟩:ByteArray).size=4 from (List.size_toArray ..).trans (Cmd.Nr h).2,show (⟨(Cmd.F6[i]'h).toArray⟩:ByteArray).data.toList.map Af=Cmd.Hp[i]'h from (Cmd.Nr h).1] at h1;exact h1)
 have fin:∀ (i:Nat) (h:i<8),(∀ (j:Nat) (h:j<8),j<i->¬ (s.data.toList.take 4).map Af=Cmd.Hp[j]'h)->(s.data.toList.take 4).map Af=Cmd.Hp[i]'h->R=.tuple #[.int .i64 (i:Int),.string ⟨(s.data.toList.drop 4).toArray⟩,.bool true]:=λi h h1 h2=>by
  have:Cmd.Hp.findIdx? (· == (s.data.toList.take 4).map Af)=some i:=by
   rw [List.findIdx?_eq_some_iff_getElem];refine ⟨h,by rw [h2];exact beq_self_eq_true _,λj hj=>?_⟩;rw [beq_eq_false_iff_ne.2 λe=>h1 j jO hj e.symm];decide
  rw [hR,this]
 have out:(∀ (j:Nat) (h:j<8),¬ (s.data.toList.take 4).map Af=Cmd.Hp[j]'h)->R=.tuple #[.int .i64 0,.string ⟨#[]⟩,.bool false]:=λh1=>by
  have:Cmd.Hp.findIdx? (· == (s.data.toList.take 4).map Af)=none:=by
   rw [List.findIdx?_eq_none_iff];intro x hx;obtain ⟨j,hj,rfl⟩:=List.getElem_of_mem hx;exact beq_eq_false_iff_ne.2 λe=>h1 j hj e.symm
  rw [hR,this]
 have HF:=jH fin;have HO:=jH out;have c0:w.cell? ⟨0,0,none⟩=some (.string ⟨#[69,72,76,79]⟩):=hC.words 0 jD;have c1:w.cell? ⟨0,1,none⟩=some (.string ⟨#[72,69,76,79]⟩):=hC.words 1 jD;have c2:w.cell? ⟨0,2,none⟩=some (.string ⟨#[77,65,73,76]⟩):=hC.words 2 jD;have c3:w.cell? ⟨0,3,none⟩=some (.string ⟨#[82,67,80,84]⟩):=hC.words 3 jD;have c4:w.cell? ⟨0,4,none⟩=some (.string ⟨#[68,65,84,65]⟩):=hC.words 4 jD;have c5:w.cell? ⟨0,5,none⟩=some (.string ⟨#[82,83,69,84]⟩):=hC.words 5 jD;have c6:w.cell? ⟨0,6,none⟩=some (.string ⟨#[78,79,79,80]⟩):=hC.words 6 jD;have c7:w.cell? ⟨0,7,none⟩=some (.string ⟨#[81,85,73,84]⟩):=hC.words 7 jD;have h5':s.size=4\/(4<s.size/\(s.extract 4 5).data.toList=[32]):=by
  rcases h5 with h | h
  ·exact .inl h
  ·obtain ⟨h1,h2⟩:=List.getElem?_eq_some_iff.1 h;refine .inr ⟨by omega,?_⟩;rw [Lex.J5 s 4 5,List.drop_eq_getElem_cons h1,h2];rfl
 generalize (s.data.toList.take 4).map Af=A at KC HF HO;generalize (⟨(s.data.toList.drop 4).toArray⟩:ByteArray)=D at KC HF HO;clear hR hsl hC h5 hv fin out h4;have start:(s.size=4/\¬ (4:Int)<(s.size:Int))\/((4:Int)<(s.size:Int)/\(5:Int)<=(s.size:Int)/\((s.extract 4 5).toList == [32])=true):=by
  rcases h5' with h | ⟨h1,h2⟩
  ·exact .inl ⟨h,by omega⟩
  ·exact .inr ⟨by omega,by omega,by rw [ByteArray.toList_eq,h2];rfl⟩
 clear h5';rcases start with ⟨-,z1⟩ | ⟨z1,z2,z3⟩
 all_goals
  go_enter func25,ntmps25;go_wp2;clear c0 c1 c2 c3 c4 c5 c6 c7;go_loopg [23] 9 (λgk s23 wr=>∃ i:Nat,s23=.int .i64 i/\i<=8/\8 - i<gk/\Hid (Below w.heap.size w wr/\∀ j (h:j<8),j<i->¬ A=Cmd.Hp[j]'h))
  case atStart=>exact ⟨0,by go_num,by omega,by omega,jH ⟨jan _ _,λj _ h=>absurd h (Nat.not_lt_zero _)⟩⟩
  case round =>
   obtain ⟨i,rfl,hi,hg,I⟩:=hrel;by_cases hlt:i<8
   ·have K:=KC.out i hlt wr;have hix:=λW=>A2j hlt W;have hiz:(i:Int)<8:=jO
    obtain ⟨D1,hD1⟩:∃ D1:ByteArray,D1=⟨(Cmd.F6[i]'hlt).toArray⟩:=⟨_,rfl⟩
    rw [<- hD1] at K;simp only [<- hD1] at hix;clear hD1;by_cases hA:A=Cmd.Hp[i]'hlt
    ·have E:=jH (HF.out i hlt I.out.2 hA);rw [if_pos hA] at K;replace K:=jH K;clear hA hi hg hlt;go_wp2_with fail;refine K.out.mono ?_;rintro r w1 ⟨rfl,hb⟩;have BB:=jH (I.out.1.trans (hb.mono I.out.1.size));clear hb;go_wp2;go_ret3;exact ⟨by rw [E.out];rfl,BB.out⟩
    ·rw [if_neg hA] at K;have N:Hid (∀ j (h:j<8),j<i+1->¬ A=Cmd.Hp[j]'h):=jH λj h hj=>by
      by_cases hji:j<i
      ·exact I.out.2 j h hji
      ·obtain rfl:j=i:=jO
       exact hA
     replace K:=jH K;clear hA;go_wp2_with fail;refine K.out.mono ?_;rintro r w1 ⟨rfl,hb⟩;have BB:=jH (I.out.1.trans (hb.mono I.out.1.size));clear hb;go_wp2;go_roundg (8 - i)
     case measure=>omega
     case rel=>exact ⟨i+1,by go_num,by omega,by omega,jH ⟨BB.out,N.out⟩⟩
   ·obtain rfl:i=8:=jO
    have E:=jH (HO.out λj h=>I.out.2 j h h);go_wp2;go_ret3;exact ⟨by rw [E.out];rfl,I.out.1⟩
end
section
open Go.RowKit Utf
section
variable {C:Nat} {v z:Int} {nm x y:ByteArray} {k e d:Bool} {W W':World}
theorem Ai.Awc (H:Ai C v nm k x y z e d W) (u:ByteArray):Ai C v u k x y z e d (W.setCell ⟨C,1,none⟩ (.string u)):=⟨by have:=H.blk;simp [World.setCell,Array.getElem?_modify,this]⟩
theorem Ai.A7c (H:Ai C v nm k x y z e d W) (u:Int):Ai C v nm k x y u e d (W.setCell ⟨C,5,none⟩ (.int .i64 u)):=⟨by have:=H.blk;simp [World.setCell,Array.getElem?_modify,this]⟩
theorem Ai.A7d (H:Ai C v nm k x y z e d W) (u:Bool):Ai C v nm k x y z u d (W.setCell ⟨C,6,none⟩ (.bool u)):=⟨by have:=H.blk;simp [World.setCell,Array.getElem?_modify,this]⟩
theorem Ai.A7e (H:Ai C v nm k x y z e d W) (u:Bool):Ai C v nm k x y z e u (W.setCell ⟨C,7,none⟩ (.bool u)):=⟨by have:=H.blk;simp [World.setCell,Array.getElem?_modify,this]⟩
theorem Ai.A7f (H:Ai C v nm k x y z e d W) (k':Bool) (x' y':ByteArray):Ai C v nm k' x' y' z e d (((W.setCell ⟨C,2,none⟩ (.bool k')).setCell ⟨C,3,none⟩ (.string x')).setCell ⟨C,4,none⟩ (.string y')):=⟨by have:=H.blk;simp [World.setCell,Array.getElem?_modify,this]⟩
end
def CI (C:Nat) (c:Cmd.Com) (W:World):Prop:=Ai C c.verb ⟨c.name.toArray⟩ c.null ⟨c.loc.toArray⟩ ⟨c.dom.toArray⟩ c.size c.eight c.wide W
def G9 (C:Nat) (r:Int × Cmd.Com) (w:World) (e:Ending) (w':World):Prop:=e=.returned (.int .i64 r.1)/\Az C w w'/\(r.1=0->CI C r.2 w')
theorem Bx {C:Nat} {r:Int × Cmd.Com} {w w':World} {z:Int} (h:r.1=z) (hz:z ≠ 0) (b:Az C w w'):G9 C r w (.returned (.int .i64 z)) w':=⟨by rw [h],b,λe=>absurd (h.symm.trans e) hz⟩
theorem Apd (C:Nat) (c:Cmd.Com) (v:ByteArray) (w:World) (hC:CI C c w):Calls prog 111 #[.pointer (some ⟨C,0,none⟩),.string v] w (G9 C (Cmd.Eh c v.data.toList) w):=by
 have hvl:v.data.toList.length=v.size:=by simp
 obtain ⟨r,hr⟩:∃ r,r=Cmd.Eh c v.data.toList:=⟨_,rfl⟩
 rw [<- hr];unfold Cmd.Eh at hr;have KD:=A26 v w;cases hn:Cmd.number v.data.toList with
 | none =>
  rw [hn] at hr;have HR:=jH (show r.1=501 by rw [hr]);have hc:=Cmd.Akk hn;clear hr hn hC;by_cases h0:v.size=0
  ·obtain rfl:=Fw h0;clear hc hvl h0 KD;go_enter func111,ntmps111;go_wp2;go_ret;exact Bx HR.out jD (Az.refl _ _)
  obtain ⟨e1,e2,e3⟩:=Fc h0;by_cases h8:8<v.size
  ·have h8z:(8:Int)<(v.size:Int):=jO
   clear hc hvl h0 KD h8 e3;go_enter func111,ntmps111;go_wp2;go_ret;exact Bx HR.out jD (Az.refl _ _)
  ·have h8z:¬ (8:Int)<(v.size:Int):=jO
   have ha:v.data.toList.all Cmd.Cm=false:=by
    rcases hc with h | h | h
    · exact absurd h (Nw h0)
    · omega
    · exact h
   rw [ha] at KD;have KD:=jH KD;clear hc hvl h0 h8 e3 ha;go_enter func111,ntmps111;go_wp2_with fail;refine KD.out.mono ?_;rintro e w1 ⟨rfl,hb⟩;have BB:=jH (Az.of (g:=C) hb);clear hb;go_wp2;go_ret;exact Bx HR.out jD BB.out
 | some n =>
  rw [hn] at hr;obtain ⟨-,h8,hv,ha,hnb⟩:=Cmd.Ahu hn;have h0:¬ v.size=0:=λh=>hv (by rw [Fw h]);obtain ⟨e1,e2,e3⟩:=Fc h0;have h8z:¬ (8:Int)<(v.size:Int):=jO
  rw [ha] at KD;have KD:=jH KD;have KA:=jH (λW=>A5f v n W hn);have CA:=jH hC;clear hn h8 hv ha h0 e3 hvl hC;by_cases hbig:16777216<n
  ·have HR:=jH (show r.1=552 by rw [hr];show (if 16777216<n then _ else _:Int × Cmd.Com).1=_;rw [if_pos hbig]);have hz:(16777216:Int)<(n:Int):=jO
   clear hr hbig;go_enter func111,ntmps111;go_wp2_with fail;refine KD.out.mono ?_;rintro e w1 ⟨rfl,hb⟩;have BB:=jH (Az.of (g:=C) hb);clear hb;go_wp2_with fail;refine (KA.out _).mono ?_;rintro e w2 ⟨rfl,hb⟩;replace BB:=jH (BB.out.then (hb.mono BB.out.size));clear hb;go_wp2;go_ret;exact Bx HR.out jD BB.out
  ·have HR:=jH (show r=(0,{ c with size:=(n:Int) }) by rw [hr];show (if 16777216<n then _ else _:Int × Cmd.Com)=_;rw [if_neg hbig]);have hz:¬ (16777216:Int)<(n:Int):=jO
   clear hr hbig;go_enter func111,ntmps111;go_wp2_with fail;refine KD.out.mono ?_;rintro e w1 ⟨rfl,hb⟩;have BB:=jH (Az.of (g:=C) hb);replace CA:=jH (Ai.Ac CA.out hb);clear hb;go_wp2_with fail;refine (KA.out _).mono ?_;rintro e w2 ⟨rfl,hb⟩;replace BB:=jH (BB.out.then (hb.mono BB.out.size));replace CA:=jH (Ai.Ac CA.out hb);obtain ⟨c0,c1,c2,c3,c4,c5,c6,c7⟩:=CA.out.all;have f5:=CA.out.fr 5;clear hb;go_wp2;go_ret;refine ⟨by rw [HR.out];rfl,BB.out.set _ _,λ_=>?_⟩;rw [HR.out];exact CA.out.A7c _
theorem Ak6 (C:Nat) (c:Cmd.Com) (x k v:ByteArray) (w:World) (hC:CI C c w):Calls prog 83 #[.pointer (some ⟨C,0,none⟩),.string x,.string k,.string v] w (G9 C (Cmd.Qa c x.data.toList k.data.toList v.data.toList) w):=by
 obtain ⟨r,hr⟩:∃ r,r=Cmd.Qa c x.data.toList k.data.toList v.data.toList:=⟨_,rfl⟩
 rw [<- hr];unfold Cmd.Qa at hr;have eqs:∀ (u:ByteArray) (l:List UInt8),(u.toList == l)=decide (u.data.toList=l):=λu l=>by rw [ByteArray.toList_eq,Bool.eq_iff_iff];simp
 have CA:=jH hC;have KS:=jH (Apd C c v w hC);clear hC;by_cases hk:k.data.toList=Cmd.Kl
 ·rw [if_pos hk] at hr;rw [<- hr] at KS;have q1:(k.toList == [115,105,122,101])=true:=by rw [eqs];exact decide_eq_true hk
  clear hr hk eqs;go_enter func83,ntmps83;go_wp2_with fail;refine KS.out.mono ?_;rintro e w1 ⟨rfl,h2,h3⟩;have H2:=jH h2;have H3:=jH h3;clear h2 h3;go_wp2;go_ret;exact ⟨rfl,H2.out,H3.out⟩
 rw [if_neg hk] at hr;have q1:(k.toList == [115,105,122,101])=false:=by rw [eqs];exact decide_eq_false hk
 clear KS hk;by_cases h8:x.data.toList=Cmd.Vt
 ·rw [if_pos h8] at hr;have q2:(x.toList == [98,111,100,121,61,56,98,105,116,109,105,109,101])=true:=by rw [eqs];exact decide_eq_true h8
  have HR:=jH hr;obtain ⟨c0,c1,c2,c3,c4,c5,c6,c7⟩:=CA.out.all;have f6:=CA.out.fr 6;clear hr h8 eqs;go_enter func83,ntmps83;go_wp2;go_ret;refine ⟨by rw [HR.out];rfl,(Az.refl _ _).set _ _,λ_=>?_⟩;rw [HR.out];exact CA.out.A7d _
 rw [if_neg h8] at hr;have q2:(x.toList == [98,111,100,121,61,56,98,105,116,109,105,109,101])=false:=by rw [eqs];exact decide_eq_false h8
 clear h8;by_cases hw:x.data.toList=Cmd.Kn
 ·rw [if_pos hw] at hr;have q3:(x.toList == [115,109,116,112,117,116,102,56])=true:=by rw [eqs];exact decide_eq_true hw
  have HR:=jH hr;obtain ⟨c0,c1,c2,c3,c4,c5,c6,c7⟩:=CA.out.all;have f7:=CA.out.fr 7;clear hr hw eqs;go_enter func83,ntmps83;go_wp2;go_ret;refine ⟨by rw [HR.out];rfl,(Az.refl _ _).set _ _,λ_=>?_⟩;rw [HR.out];exact CA.out.A7e _
 rw [if_neg hw] at hr;have q3:(x.toList == [115,109,116,112,117,116,102,56])=false:=by rw [eqs];exact decide_eq_false hw
 clear hw;by_cases h7:x.data.toList=Cmd.Ax2
 ·rw [if_pos h7] at hr;have q4:(x.toList == [98,111,100,121,61,55,98,105,116])=true:=by rw [eqs];exact decide_eq_true h7
  have HR:=jH hr;clear hr h7 eqs;go_enter func83,ntmps83;go_wp2;go_ret;refine ⟨by rw [HR.out];rfl,Az.refl _ _,λ_=>?_⟩;rw [HR.out];exact CA.out
 ·rw [if_neg h7] at hr;have q4:(x.toList == [98,111,100,121,61,55,98,105,116])=false:=by rw [eqs];exact decide_eq_false h7
  have HR:=jH (show r.1=501 by rw [hr]);clear hr h7 eqs CA;go_enter func83,ntmps83;go_wp2;go_ret;exact Bx HR.out jD (Az.refl _ _)
theorem Kr (t:Value) (C:Nat) (c:Cmd.Com) (s:ByteArray) (w:World) (hT:Table w t) (hC:CI C c w):Calls prog 41 #[t,.pointer (some ⟨C,0,none⟩),.string s] w (G9 C (if s.data.toList=[] then (0,c) else (501,Cmd.zero)) w):=by
 obtain ⟨b0,b1,b2,b3,rfl,-,-,-,-⟩:=hT;have B0:=Ab w (.cells #[.slice (some ⟨b0,0,none⟩) 74 74,.slice (some ⟨b1,0,none⟩) 10 10,.slice (some ⟨b2,0,none⟩) 11 11,.slice (some ⟨b3,0,none⟩) 42 42] 35);have BB:=jH (Az.of (g:=C) B0);have CA:=jH (Ai.Ac hC B0);clear hC B0;obtain ⟨r,hr⟩:∃ r,r=(if s.data.toList=[] then (0,c) else (501,Cmd.zero):Int × Cmd.Com):=⟨_,rfl⟩
 rw [<- hr];by_cases h0:s.size=0
 ·obtain rfl:=Fw h0;have HR:=jH (show r=(0,c) from hr);clear h0 hr;go_enter func41,ntmps41;go_wp2;go_ret;exact ⟨by rw [HR.out];rfl,BB.out,λ_=>by rw [HR.out];exact CA.out⟩
 ·obtain ⟨e1,e2,e3⟩:=Fc h0;have HR:=jH (show r.1=501 by rw [hr,if_neg (Nw h0)]);clear h0 e3 CA hr;go_enter func41,ntmps41;go_wp2;go_ret;exact Bx HR.out jD BB.out
theorem Z6 (t:Value) (C:Nat) (c:Cmd.Com) (s:ByteArray) (w:World) (hT:Table w t) (hC:CI C c w):Calls prog 42 #[t,.pointer (some ⟨C,0,none⟩),.string s] w (G9 C (0,c) w):=by
 obtain ⟨b0,b1,b2,b3,rfl,-,-,-,-⟩:=hT;have B0:=Ab w (.cells #[.slice (some ⟨b0,0,none⟩) 74 74,.slice (some ⟨b1,0,none⟩) 10 10,.slice (some ⟨b2,0,none⟩) 11 11,.slice (some ⟨b3,0,none⟩) 42 42] 35);have BB:=jH (Az.of (g:=C) B0);have CA:=jH (Ai.Ac hC B0);clear hC B0;go_enter func42,ntmps42;go_wp2;go_ret;exact ⟨rfl,BB.out,λ_=>CA.out⟩
theorem Z4 (t:Value) (C v:Nat) (s:ByteArray) (w:World) (hT:Table w t) (hC:CI C { Cmd.zero with verb:=v } w) (hv:v=0\/v=1) (hs:s.size<=100000) (hr:s.data.toList=[]\/∃ u,s.data.toList=32::u) :
  Calls prog 38 #[t,.pointer (some ⟨C,0,none⟩),.string s] w (G9 C (Cmd.Jr v s.data.toList) w):=by
 obtain ⟨b0,b1,b2,b3,rfl,-,-,-,-⟩:=hT;have B0:=Ab w (.cells #[.slice (some ⟨b0,0,none⟩) 74 74,.slice (some ⟨b1,0,none⟩) 10 10,.slice (some ⟨b2,0,none⟩) 11 11,.slice (some ⟨b3,0,none⟩) 42 42] 35);have BB:=jH (Az.of (g:=C) B0);have CA:=jH (Ai.Ac hC B0);obtain ⟨X,hX⟩:∃ X:ByteArray,X=⟨(Lib.trimPrefix s.data.toList [32]).toArray⟩:=⟨_,rfl⟩
 have hXl:X.data.toList=s.data.toList.drop 1:=by
  rw [hX];show Lib.trimPrefix s.data.toList [32]=_;unfold Lib.trimPrefix Lib.hasPrefix;rcases hr with h | ⟨u,h⟩
  ·rw [h];rfl
  ·rw [h];have:([32]:List UInt8).isPrefixOf (32::u)=true:=by simp [List.isPrefixOf]
   rw [if_pos this];rfl
 have hXs:X.size<=100000:=by
  have h1:X.data.toList.length=X.size:=by simp
  have h2:s.data.toList.length=s.size:=by simp
  rw [<- h1,hXl,jaj];omega
 have KT:=A6l s;simp only [<- hX] at KT;have KT:=jH KT;have KC:=jH (λW=>De X W hXs);have KN:=λW=>V8 v X false ⟨#[]⟩ ⟨#[]⟩ (-1) false false W;have hn:Cmd.N5 v X.data.toList=Cmd.Jv X.data.toList:=by
  unfold Cmd.N5;rw [if_pos (by rcases hv with rfl | rfl<;>rfl)]
 simp only [hn] at KN;obtain ⟨q,hq⟩:∃ q,q=Cmd.Jr v s.data.toList:=⟨_,rfl⟩
 rw [<- hq];unfold Cmd.Jr at hq;rw [<- hXl] at hq;have hq2:(Cmd.Jv X.data.toList=false/\q.1=501)\/(Cmd.Jv X.data.toList=true/\q=(0,{ Cmd.zero with verb:=v,name:=X.data.toList })):=by
  cases h:Cmd.Jv X.data.toList
  ·exact .inl ⟨rfl,by rw [hq,if_pos (.inr h)]⟩
  ·refine .inr ⟨rfl,?_⟩;rw [hq,if_neg];rintro (g | g)
   · rw [hXl,g] at h;cases h
   · rw [g] at h;cases h
 generalize Cmd.Jv X.data.toList=a at hq2 KN;have KN:=jH KN;clear hq hX hXl hXs hn hr hs B0 hv hC;rcases hq2 with ⟨rfl,hq⟩ | ⟨rfl,hq⟩
 all_goals
  have HQ:=jH hq;clear hq;go_enter func38,ntmps38;go_wp2_with fail;refine (KT.out _).mono ?_;rintro e w1 ⟨rfl,rfl⟩;go_wp2_with fail;refine (KC.out _).mono ?_;rintro e w2 ⟨rfl,hb⟩;replace BB:=jH (BB.out.then (hb.mono BB.out.size));replace CA:=jH (Ai.Ac CA.out hb);obtain ⟨c0,c1,c2,c3,c4,c5,c6,c7⟩:=CA.out.all;have f1:=CA.out.fr 1;have CS:=jH (CA.out.Awc X);obtain ⟨d0,d1,d2,d3,d4,d5,d6,d7⟩:=CS.out.all;replace BB:=jH (BB.out.set 1 (.string X));clear hb;go_wp2_with fail;refine (KN.out _).mono ?_;rintro e w3 ⟨rfl,hb⟩;replace BB:=jH (BB.out.then (hb.mono BB.out.size));replace CS:=jH (CS.out.Ac hb);clear hb c0 c1 c2 c3 c4 c5 c6 c7 f1 d0 d1 d2 d3 d4 d5 d6 d7;go_wp2;go_ret
  first
   | exact Bx HQ.out jD BB.out
   | exact ⟨by rw [HQ.out];rfl,BB.out,λ_=>by rw [HQ.out];exact CS.out⟩
end
section
open Go.RowKit Utf
namespace Cmd
structure Aqp where
 code:Int
 said:L
 behind:L
 null:Bool
 loc:L
 dom:L
def Asp (e:Int):Aqp:=⟨e,[],[],false,[],[]⟩
def Ar8 (u:L):Aqp:=match ends 0 u with
 | none=>Asp 501
 | some q=>if (Pth.Bc (u.take q)).1 ≠ 0 then Asp 553 else ⟨0,u.take q,u.drop q,(Pth.Bc (u.take q)).2.1,(Pth.Bc (u.take q)).2.2.1,(Pth.Bc (u.take q)).2.2.2⟩
def Ij (kk r:L):Aqp:=if (r.take kk.length).map Af=kk then Ar8 (r.drop kk.length) else Asp 501
theorem Arr (m:Bool) (r:L):Mo m r=(if (Ij (if m then Hd else toK) r).code ≠ 0 then ((Ij (if m then Hd else toK) r).code,zero)
  else if m=false/\(Ij (if m then Hd else toK) r).null=true then (553,zero)
  else tail m (Ij (if m then Hd else toK) r).said (Ij (if m then Hd else toK) r).behind (start m (Ij (if m then Hd else toK) r).null (Ij (if m then Hd else toK) r).loc (Ij (if m then Hd else toK) r).dom)):=by
 have hl:(if m then Hd else toK).length=if m then 6 else 4:=by cases m<;>rfl
 unfold Mo Ij;rw [hl];generalize (if m=true then 6 else 4)=w;generalize (if m=true then Hd else toK)=wk;by_cases h:(r.take w).map Af=wk
 ·rw [if_neg (by simpa using h),if_pos h];unfold behind Ar8;cases ends 0 (r.drop w) with
  | none=>rfl
  | some q =>
   show Ip m ((r.drop w).take q) ((r.drop w).drop q)=_;unfold Ip;simp only;by_cases h1:(Pth.Bc ((r.drop w).take q)).1 ≠ 0
   ·rw [if_pos (.inl h1),if_pos h1];rfl
   ·rw [if_neg h1];by_cases h2:m=false/\(Pth.Bc ((r.drop w).take q)).2.1=true
    ·rw [if_pos (.inr h2)];rw [if_neg jS,if_pos h2]
    ·rw [if_neg (λg=>g.elim h1 h2),if_neg jS,if_neg h2]
 ·rw [if_pos (by simpa using h),if_neg h];rfl
theorem Afs:∀ (m:Nat) (u:L) {q:Nat},ends m u=some q->q<=u.length
 | _,[],q,h=>by rw [ends] at h;cases h
 | m,[c],q,h=>by
  rw [ends.eq_def] at h;simp only [ends,Option.map] at h;simp only [List.length_singleton]
  repeat' split at h
  all_goals (cases h)
  all_goals omega
 | m,c::d::r,q,h=>by
  rw [ends.eq_def] at h;simp only at h;simp only [jac]
  repeat' split at h
  all_goals first
   | (obtain ⟨p,hp,rfl⟩:=Option.map_eq_some_iff.1 h;have:=Afs _ (d::r) hp;simp only [jac] at this;omega)
   | (obtain ⟨p,hp,rfl⟩:=Option.map_eq_some_iff.1 h;have:=Afs _ r hp;omega)
   | (injection h with h;omega)
theorem Z7 (kk r:L):(Ij kk r).said.length<=r.length/\(Ij kk r).behind.length<=r.length:=by
 unfold Ij;split
 ·unfold Ar8;split
  ·exact ⟨Nat.zero_le _,Nat.zero_le _⟩
  ·split
   ·exact ⟨Nat.zero_le _,Nat.zero_le _⟩
   ·simp only [jak,jaj];omega
 ·exact ⟨Nat.zero_le _,Nat.zero_le _⟩
end Cmd
structure Vo (w:World) (C:Nat) (c:Cmd.Com) (B b0 b1 b2 b3:Nat) (W:World):Prop where
 table:Table W (.agg #[.slice (some ⟨b0,0,none⟩) 74 74,.slice (some ⟨b1,0,none⟩) 10 10,.slice (some ⟨b2,0,none⟩) 11 11,.slice (some ⟨b3,0,none⟩) 42 42])
 box:TAt B b0 b1 b2 b3 W
 com:CI C c W
 below:Below w.heap.size w W
theorem Vo.next {w:World} {C:Nat} {c:Cmd.Com} {B b0 b1 b2 b3:Nat} {W W':World} (h:Vo w C c B b0 b1 b2 b3 W) (hb:Below W.heap.size W W'):Vo w C c B b0 b1 b2 b3 W':=⟨h.table.below hb,h.box.Ac hb,Ai.Ac h.com hb,Aa h.below hb⟩
theorem Vo.drew {w:World} {C:Nat} {c:Cmd.Com} {B b0 b1 b2 b3:Nat} {W:World} (h:Vo w C c B b0 b1 b2 b3 W):Vo w C c B b0 b1 b2 b3 W.drew:=h.next ((jan _ W).drew)
def Xo (C:Nat) (c:Cmd.Com) (q:Cmd.Aqp) (w:World) (e:Ending) (w':World):Prop :=
 e=.returned (.tuple #[.string ⟨q.said.toArray⟩,.string ⟨q.behind.toArray⟩,.int .i64 q.code])/\Az C w w'/\(q.code=0->CI C { c with null:=q.null,loc:=q.loc,dom:=q.dom } w')
theorem Z5 (t:Value) (C:Nat) (c:Cmd.Com) (s key K:ByteArray) (w:World) (hT:Table w t) (hC:CI C c w) (hs:s.size<=510) (hK:K.size<=100) (hadd:∀ W,(Op.stringOp .add ⟨#[32]⟩ key).run prog W=.ok (.string K) W) :
  Calls prog 56 #[t,.pointer (some ⟨C,0,none⟩),.string s,.string key] w (Xo C c (Cmd.Ij (K.data.toList.map Af) s.data.toList) w):=by
 obtain ⟨Q,hQ⟩:∃ Q,Q=Cmd.Ij (K.data.toList.map Af) s.data.toList:=⟨_,rfl⟩
 rw [<- hQ];have hkl:(K.data.toList.map Af).length=K.size:=by simp
 have hsl:s.data.toList.length=s.size:=by simp
 unfold Cmd.Ij at hQ;rw [hkl] at hQ;have KF:=λW=>Acp s K W jO;have hT0:=hT;obtain ⟨b0,b1,b2,b3,rfl,-,-,-,-⟩:=hT0;have B0:=Ab w (.cells #[.slice (some ⟨b0,0,none⟩) 74 74,.slice (some ⟨b1,0,none⟩) 10 10,.slice (some ⟨b2,0,none⟩) 11 11,.slice (some ⟨b3,0,none⟩) 42 42] 35);obtain ⟨W0,hW0⟩:∃ W0,W0=w.alloc (.cells #[.slice (some ⟨b0,0,none⟩) 74 74,.slice (some ⟨b1,0,none⟩) 10 10,.slice (some ⟨b2,0,none⟩) 11 11,.slice (some ⟨b3,0,none⟩) 42 42] 35):=⟨_,rfl⟩
 have T0:TAt w.heap.size b0 b1 b2 b3 W0:=by rw [hW0];exact TAt.new w b0 b1 b2 b3
 rw [<- hW0] at B0;have HW0:=jH hW0.symm;have TT:=jH T0;have BB:=jH B0;have CA:=jH (Ai.Ac hC B0);obtain ⟨B,hB⟩:∃ B,w.heap.size=B:=⟨_,rfl⟩
 rw [hB] at TT;have HT:=jH (λW (h:Below w.heap.size w W)=>hT.below h);clear hW0 T0 B0 hC hT;by_cases hm:(s.data.toList.take K.size).map Af=K.data.toList.map Af
 case neg =>
  rw [if_neg hm] at hQ;have HQ:=jH hQ;simp only [if_neg hm] at KF;have KF:=jH KF;clear hQ hm hkl hsl hs hK;go_enter func56,ntmps56;go_wp2_with fail;rw [HW0.out];refine (KF.out _).mono ?_;rintro r w1 ⟨rfl,hb⟩;replace BB:=jH (Aa BB.out hb);clear hb;go_wp2;go_ret3;exact ⟨by rw [HQ.out];rfl,Az.of BB.out,λh=>by rw [HQ.out] at h;cases h⟩
 rw [if_pos hm] at hQ;simp only [if_pos hm] at KF;obtain ⟨U,hU⟩:∃ U:ByteArray,U=⟨(s.data.toList.drop K.size).toArray⟩:=⟨_,rfl⟩
 simp only [<- hU] at KF;have hUl:U.data.toList=s.data.toList.drop K.size:=by rw [hU]
 have hUs:U.size<=510:=by
  have h1:U.data.toList.length=U.size:=by simp
  rw [<- h1,hUl,jaj];omega
 rw [<- hUl] at hQ;have KF:=jH KF;have KE:=λW=>Au4 U W jO;unfold Cmd.Ar8 at hQ;clear hU hUl hm hkl hsl hs hK;cases he:Cmd.ends 0 U.data.toList with
 | none =>
  rw [he] at hQ;simp only [he] at KE;have HQ:=jH (show Q=Cmd.Asp 501 from hQ);have KE:=jH KE;clear hQ he hUs;go_enter func56,ntmps56;go_wp2_with fail;rw [HW0.out];refine (KF.out _).mono ?_;rintro r w1 ⟨rfl,hb⟩;replace BB:=jH (Aa BB.out hb);clear hb;go_wp2_with fail;refine (KE.out _).mono ?_;rintro r w2 ⟨rfl,rfl⟩;go_wp2;go_ret3;exact ⟨by rw [HQ.out];rfl,Az.of BB.out,λh=>by rw [HQ.out] at h;cases h⟩
 | some n =>
  rw [he] at hQ;simp only [he] at KE;have KE:=jH KE;have hn:=Cmd.Afs _ _ he;have hul:U.data.toList.length=U.size:=by simp
  have hnz:(n:Int)<=(U.size:Int):=jO
  have hn0:¬ (n:Int)<0:=jO
  obtain ⟨P,hP⟩:∃ P:ByteArray,P=U.extract 0 n:=⟨_,rfl⟩
  have hPl:P.data.toList=U.data.toList.take n:=by
   rw [hP];have:=Lex.J5 U 0 n;rw [List.drop_zero,Nat.sub_zero] at this;exact this
  have hPs:P.size<=510:=by
   have h1:P.data.toList.length=P.size:=by simp
   rw [<- h1,hPl,jak];omega
  have hD:(⟨(U.data.toList.drop n).toArray⟩:ByteArray)=U.extract n U.size:=by rw [<- Lex.Oz U n,Lex.Gn]
  obtain ⟨⟨E,k',x',y'⟩,hp⟩:∃ q,Pth.Bc P.data.toList=q:=⟨_,rfl⟩
  have KP:=jH (λW (h:Table W (.agg #[.slice (some ⟨b0,0,none⟩) 74 74,.slice (some ⟨b1,0,none⟩) 10 10,.slice (some ⟨b2,0,none⟩) 11 11,.slice (some ⟨b3,0,none⟩) 42 42]))=>Agk _ P W h hPs hp);have hQ2:Q=if E ≠ 0 then Cmd.Asp 553 else ⟨0,P.data.toList,U.data.toList.drop n,k',x',y'⟩:=by
   rw [hQ];show (if (Pth.Bc (U.data.toList.take n)).1 ≠ 0 then _ else _)=_;rw [<- hPl,hp]
  rw [hP] at KP;have HQ:=jH hQ2;clear hQ hQ2 he hn hul hUs hPl hPs hp;go_enter func56,ntmps56;go_wp2_with fail;rw [HW0.out];refine (KF.out _).mono ?_;rintro r w1 ⟨rfl,hb⟩;replace BB:=jH (Aa BB.out hb);replace TT:=jH (TT.out.Ac hb);replace CA:=jH (Ai.Ac CA.out hb);clear hb;go_wp2_with fail;refine (KE.out _).mono ?_;rintro r w2 ⟨rfl,rfl⟩;obtain ⟨t0,t1,t2,t3⟩:=TT.out.all;have K:=jH (show Vo w C c B b0 b1 b2 b3 w1 from ⟨HT.out _ BB.out,TT.out,CA.out,BB.out⟩);clear HT TT CA BB;go_upto_region 7 with (fail)
  go_cut [14,15] (λs14 s15 wx=>∃ N,s14=.pointer (some ⟨N,0,none⟩)/\s15=.int .i64 E/\Hid (PAt N k' ⟨x'.toArray⟩ ⟨y'.toArray⟩ wx/\Vo w C c B b0 b1 b2 b3 wx))
  case first =>
   replace t0:(World.drew w1).cell? ⟨B,0,none⟩=some (.slice (some ⟨b0,0,none⟩) 74 74):=t0;replace t1:(World.drew w1).cell? ⟨B,1,none⟩=some (.slice (some ⟨b1,0,none⟩) 10 10):=t1;replace t2:(World.drew w1).cell? ⟨B,2,none⟩=some (.slice (some ⟨b2,0,none⟩) 11 11):=t2;replace t3:(World.drew w1).cell? ⟨B,3,none⟩=some (.slice (some ⟨b3,0,none⟩) 42 42):=t3;replace K:=jH K.out.drew;refine wp_region_held_drew (S:=(λw':World=>w'.cell? ⟨B,0,none⟩=some (.slice (some ⟨b0,0,none⟩) 74 74)/\w'.cell? ⟨B,1,none⟩=some (.slice (some ⟨b1,0,none⟩) 10 10)/\w'.cell? ⟨B,2,none⟩=some (.slice (some ⟨b2,0,none⟩) 11 11)/\w'.cell? ⟨B,3,none⟩=some (.slice (some ⟨b3,0,none⟩) 42 42))) jK ?_ (λhHeld=>?_)
   ·exact ⟨t0,t1,t2,t3⟩
   generalize hwd:(World.drew w1)=d2 at t0 t1 t2 t3 K hHeld ⊢;clear hwd;refine Ay 0 30 (v:=?_) rfl rfl jK jK jK (λ_ _ _ h=>h) (Or.inl ⟨by rfl,?_⟩) jA ?_;rotate_left
   ·intro w hSw
    (try dsimp only at hSw)
    go_simp
    first | done | with_reducible rfl
   simp only [Act.put,jad,jae,jaf];refine Ay 1 31 (v:=?_) rfl rfl jK jK jK (λ_ _ _ h=>h) (Or.inl ⟨by rfl,?_⟩) jA ?_;rotate_left
   ·intro w hSw
    (try dsimp only at hSw)
    go_simp
    first | done | with_reducible rfl
   simp only [Act.put,jad,jae,jaf];refine Ay 2 32 (v:=?_) rfl rfl jK jK jK (λ_ _ _ h=>h) (Or.inl ⟨by rfl,?_⟩) jA ?_;rotate_left
   ·intro w hSw
    (try dsimp only at hSw)
    go_simp
    first | done | with_reducible rfl
   simp only [Act.put,jad,jae,jaf];refine Ay 3 33 (v:=?_) rfl rfl jK jK jK (λ_ _ _ h=>h) (Or.inl ⟨by rfl,?_⟩) jA ?_;rotate_left
   ·intro w hSw
    (try dsimp only at hSw)
    go_simp
    first | done | with_reducible rfl
   simp only [Act.put,jad,jae,jaf];refine wpAnyH_ready (rs:=[4,8]) jK jS ?_;refine AllReadyH.cons (o:={ dst:=some 34,op:=.call { callee:=.value (.func 79),args:=#[.tmp 30,.tmp 33],argTypes:=#[35,9] },type:=_,pos := "command.go:224", after:=_,guard:=none }) rfl (λK_ hK=>?_) (AllReadyH.cons (o:={ dst:=some 14,op:=.alloc 25,type:=_,pos := "command.go:224", after:=_,guard:=none }) rfl (λK_ hK=>?_) AllReadyH.nil)
   ·skip
    (try go_simp)
    go_at_call 79;refine (KP.out _ K.out.table).mono ?_;rintro e w3 ⟨rfl,hb⟩;replace t0:=Kc hb t0;replace t1:=Kc hb t1;replace t2:=Kc hb t2;replace t3:=Kc hb t3;replace K:=jH (K.out.next hb);clear hb;go_wp2_with fail;clear hHeld;refine hK.out _ _ ?_ (λhHeld=>?_)
    ·exact ⟨t0,t1,t2,t3⟩
    clear hK K_;refine Ay 5 29 (v:=?_) rfl rfl jK jK jK (λ_ _ _ h=>h) (Or.inl ⟨by rfl,?_⟩) jA ?_;rotate_left
    ·intro w hSw
     (try dsimp only at hSw)
     go_simp
     first | done | with_reducible rfl
    simp only [Act.put,jad,jae,jaf];refine Ay 6 35 (v:=?_) rfl rfl jK jK jK (λ_ _ _ h=>h) (Or.inl ⟨by rfl,?_⟩) jA ?_;rotate_left
    ·intro w hSw
     (try dsimp only at hSw)
     go_simp
     first | done | with_reducible rfl
    simp only [Act.put,jad,jae,jaf];refine Ay 7 36 (v:=?_) rfl rfl jK jK jK (λ_ _ _ h=>h) (Or.inl ⟨by rfl,?_⟩) jA ?_;rotate_left
    ·intro w hSw
     (try dsimp only at hSw)
     go_simp
     first | done | with_reducible rfl
    simp only [Act.put,jad,jae,jaf];refine wpAnyH_ready (rs:=[8]) jK jS ?_;refine AllReadyH.cons (o:={ dst:=some 14,op:=.alloc 25,type:=_,pos := "command.go:224", after:=_,guard:=none }) rfl (λK_ hK=>?_) AllReadyH.nil
    (try go_simp)
    go_wp2_with fail;obtain ⟨N,hN⟩:∃ N,w3.heap.size=N:=⟨_,rfl⟩
    have ltNB:B<N:=by have h_:=jam _ _ t0;simp only [hN] at h_;exact h_
    have YN:=K;have hb:=Ab w3 (.cells #[.bool false,.string ⟨#[]⟩,.string ⟨#[]⟩] 25);replace t0:=Kc hb t0;replace t1:=Kc hb t1;replace t2:=Kc hb t2;replace t3:=Kc hb t3;replace K:=jH (K.out.next hb);have ZN:=jH hb;clear hb;have CN:=jH (show PAt N false ⟨#[]⟩ ⟨#[]⟩ (w3.alloc (.cells #[.bool false,.string ⟨#[]⟩,.string ⟨#[]⟩] 25)) from hN ▸ PAt.new w3 false ⟨#[]⟩ ⟨#[]⟩);clear hHeld;refine hK.out _ _ ?_ (λhHeld=>?_)
    ·exact ⟨t0,t1,t2,t3⟩
    clear hK K_;refine wpAnyH_ready (rs:=[9]) jK jS ?_;refine AllReadyH.cons (o:={ dst:=none,op:=.store 25 (.tmp 14) (.tmp 35),type:=_,pos := "command.go:224", after:=_,guard:=none }) rfl (λK_ hK=>?_) AllReadyH.nil
    obtain ⟨a0,a1,a2⟩:=CN.out.all;obtain ⟨a3,a4,a5⟩:=CN.out.fr
    (try go_simp)
    go_wp2_with fail;clear a0 a1 a2 a3 a4 a5;have hb:=Ab w3 (.cells #[.bool k',.string ⟨x'.toArray⟩,.string ⟨y'.toArray⟩] 25);have hb0:=Ab w3 (.cells #[.bool false,.string ⟨#[]⟩,.string ⟨#[]⟩] 25);replace t0:=(hb.cell (p:=⟨B,0,none⟩) (show B<w3.heap.size by rw [hN];exact ltNB)).trans (((hb0.cell (p:=⟨B,0,none⟩) (show B<w3.heap.size by rw [hN];exact ltNB)).symm).trans t0);replace t1:=(hb.cell (p:=⟨B,1,none⟩) (show B<w3.heap.size by rw [hN];exact ltNB)).trans (((hb0.cell (p:=⟨B,1,none⟩) (show B<w3.heap.size by rw [hN];exact ltNB)).symm).trans t1);replace t2:=(hb.cell (p:=⟨B,2,none⟩) (show B<w3.heap.size by rw [hN];exact ltNB)).trans (((hb0.cell (p:=⟨B,2,none⟩) (show B<w3.heap.size by rw [hN];exact ltNB)).symm).trans t2);replace t3:=(hb.cell (p:=⟨B,3,none⟩) (show B<w3.heap.size by rw [hN];exact ltNB)).trans (((hb0.cell (p:=⟨B,3,none⟩) (show B<w3.heap.size by rw [hN];exact ltNB)).symm).trans t3);replace CN:=jH (show PAt N k' ⟨x'.toArray⟩ ⟨y'.toArray⟩ (w3.alloc (.cells #[.bool k',.string ⟨x'.toArray⟩,.string ⟨y'.toArray⟩] 25)) from hN ▸ PAt.new w3 k' ⟨x'.toArray⟩ ⟨y'.toArray⟩);replace K:=jH (YN.out.next hb);clear hb hb0 ZN;clear hHeld;refine hK.out _ _ ?_ (λhHeld=>?_)
    ·exact ⟨t0,t1,t2,t3⟩
    clear hK K_;refine Ay 10 15 (v:=?_) rfl rfl jK jK jK (λ_ _ _ h=>h) (Or.inl ⟨by rfl,?_⟩) jA ?_;rotate_left
    ·intro w hSw
     (try dsimp only at hSw)
     go_simp
     first | done | with_reducible rfl
    simp only [Act.put,jad,jae,jaf];refine wpAnyH_done jK ?_ _;go_wp2_with fail;go_meet;exact ⟨N,rfl,rfl,jH ⟨CN.out,K.out⟩⟩
   ·skip
    (try go_simp)
    go_wp2_with fail;obtain ⟨N,hN⟩:∃ N,d2.heap.size=N:=⟨_,rfl⟩
    have ltNB:B<N:=by have h_:=jam _ _ t0;simp only [hN] at h_;exact h_
    have YN:=K;have hb:=Ab d2 (.cells #[.bool false,.string ⟨#[]⟩,.string ⟨#[]⟩] 25);replace t0:=Kc hb t0;replace t1:=Kc hb t1;replace t2:=Kc hb t2;replace t3:=Kc hb t3;replace K:=jH (K.out.next hb);have ZN:=jH hb;clear hb;have CN:=jH (show PAt N false ⟨#[]⟩ ⟨#[]⟩ (d2.alloc (.cells #[.bool false,.string ⟨#[]⟩,.string ⟨#[]⟩] 25)) from hN ▸ PAt.new d2 false ⟨#[]⟩ ⟨#[]⟩);clear hHeld;refine hK.out _ _ ?_ (λhHeld=>?_)
    ·exact ⟨t0,t1,t2,t3⟩
    clear hK K_;refine wpAnyH_ready (rs:=[4]) jK jS ?_;refine AllReadyH.cons (o:={ dst:=some 34,op:=.call { callee:=.value (.func 79),args:=#[.tmp 30,.tmp 33],argTypes:=#[35,9] },type:=_,pos := "command.go:224", after:=_,guard:=none }) rfl (λK_ hK=>?_) AllReadyH.nil
    (try go_simp)
    go_at_call 79;refine (KP.out _ K.out.table).mono ?_;rintro e w3 ⟨rfl,hb⟩;replace t0:=Kc hb t0;replace t1:=Kc hb t1;replace t2:=Kc hb t2;replace t3:=Kc hb t3;replace CN:=jH (CN.out.Ac hb);replace ZN:=jH (Aa ZN.out hb);replace K:=jH (K.out.next hb);clear hb;go_wp2_with fail;clear hHeld;refine hK.out _ _ ?_ (λhHeld=>?_)
    ·exact ⟨t0,t1,t2,t3⟩
    clear hK K_;refine Ay 5 29 (v:=?_) rfl rfl jK jK jK (λ_ _ _ h=>h) (Or.inl ⟨by rfl,?_⟩) jA ?_;rotate_left
    ·intro w hSw
     (try dsimp only at hSw)
     go_simp
     first | done | with_reducible rfl
    simp only [Act.put,jad,jae,jaf];refine Ay 6 35 (v:=?_) rfl rfl jK jK jK (λ_ _ _ h=>h) (Or.inl ⟨by rfl,?_⟩) jA ?_;rotate_left
    ·intro w hSw
     (try dsimp only at hSw)
     go_simp
     first | done | with_reducible rfl
    simp only [Act.put,jad,jae,jaf];refine Ay 7 36 (v:=?_) rfl rfl jK jK jK (λ_ _ _ h=>h) (Or.inl ⟨by rfl,?_⟩) jA ?_;rotate_left
    ·intro w hSw
     (try dsimp only at hSw)
     go_simp
     first | done | with_reducible rfl
    simp only [Act.put,jad,jae,jaf];refine wpAnyH_ready (rs:=[9]) jK jS ?_;refine AllReadyH.cons (o:={ dst:=none,op:=.store 25 (.tmp 14) (.tmp 35),type:=_,pos := "command.go:224", after:=_,guard:=none }) rfl (λK_ hK=>?_) AllReadyH.nil
    obtain ⟨a0,a1,a2⟩:=CN.out.all;obtain ⟨a3,a4,a5⟩:=CN.out.fr
    (try go_simp)
    go_wp2_with fail;clear a0 a1 a2 a3 a4 a5;replace t0:=(Er (k:=2) (z:=.string ⟨y'.toArray⟩) (Nat.ne_of_lt ltNB)).trans ((Er (k:=1) (z:=.string ⟨x'.toArray⟩) (Nat.ne_of_lt ltNB)).trans ((Er (k:=0) (z:=.bool k') (Nat.ne_of_lt ltNB)).trans (t0)));replace t1:=(Er (k:=2) (z:=.string ⟨y'.toArray⟩) (Nat.ne_of_lt ltNB)).trans ((Er (k:=1) (z:=.string ⟨x'.toArray⟩) (Nat.ne_of_lt ltNB)).trans ((Er (k:=0) (z:=.bool k') (Nat.ne_of_lt ltNB)).trans (t1)));replace t2:=(Er (k:=2) (z:=.string ⟨y'.toArray⟩) (Nat.ne_of_lt ltNB)).trans ((Er (k:=1) (z:=.string ⟨x'.toArray⟩) (Nat.ne_of_lt ltNB)).trans ((Er (k:=0) (z:=.bool k') (Nat.ne_of_lt ltNB)).trans (t2)));replace t3:=(Er (k:=2) (z:=.string ⟨y'.toArray⟩) (Nat.ne_of_lt ltNB)).trans ((Er (k:=1) (z:=.string ⟨x'.toArray⟩) (Nat.ne_of_lt ltNB)).trans ((Er (k:=0) (z:=.bool k') (Nat.ne_of_lt ltNB)).trans (t3)));replace CN:=jH (CN.out.set k' ⟨x'.toArray⟩ ⟨y'.toArray⟩);replace ZN:=jH (((ZN.out.setCell (p:=⟨N,0,none⟩) (show _<=N by omega) (.bool k')).setCell (p:=⟨N,1,none⟩) (show _<=N by omega) (.string ⟨x'.toArray⟩)).setCell (p:=⟨N,2,none⟩) (show _<=N by omega) (.string ⟨y'.toArray⟩));replace K:=jH (YN.out.next ZN.out);clear ZN;clear hHeld;refine hK.out _ _ ?_ (λhHeld=>?_)
    ·exact ⟨t0,t1,t2,t3⟩
    clear hK K_;refine Ay 10 15 (v:=?_) rfl rfl jK jK jK (λ_ _ _ h=>h) (Or.inl ⟨by rfl,?_⟩) jA ?_;rotate_left
    ·intro w hSw
     (try dsimp only at hSw)
     go_simp
     first | done | with_reducible rfl
    simp only [Act.put,jad,jae,jaf];refine wpAnyH_done jK ?_ _;go_wp2_with fail;go_meet;exact ⟨N,rfl,rfl,jH ⟨CN.out,K.out⟩⟩
  case rest =>
   obtain ⟨N,rfl,rfl,HX⟩:=hcut;clear t0 t1 t2 t3 K;by_cases hE:E=0
   case neg =>
    have HQ3:=jH (show Q=Cmd.Asp 553 by rw [HQ.out,if_pos hE]);have hEz:(E == 0)=false:=beq_eq_false_iff_ne.2 hE;clear hE;go_wp2;go_ret3;exact ⟨by rw [HQ3.out];rfl,Az.of HX.out.2.below,λh=>by rw [HQ3.out] at h;cases h⟩
   subst hE;have HQ3:=jH (show Q=⟨0,P.data.toList,U.data.toList.drop n,k',x',y'⟩ by rw [HQ.out,if_neg jD]);obtain ⟨p0,p1,p2⟩:=HX.out.1.all;have CC:=jH HX.out.2.com;obtain ⟨c0,c1,c2,c3,c4,c5,c6,c7⟩:=CC.out.all;have f2:=CC.out.fr 2;have f3:=CC.out.fr 3;have f4:=CC.out.fr 4;have CS:=jH (CC.out.A7f k' ⟨x'.toArray⟩ ⟨y'.toArray⟩);have OO:=jH ((((Az.of (g:=C) HX.out.2.below).set 2 (.bool k')).set 3 (.string ⟨x'.toArray⟩)).set 4 (.string ⟨y'.toArray⟩));go_wp2_with fail;go_quiet (fail);go_wp2_with fail;go_ret3;refine ⟨?_,OO.out.then (below_drewN (jan _ _) nq),λ_=>?_⟩
   ·rw [HQ3.out];show _=Ending.returned (.tuple #[.string ⟨P.data.toList.toArray⟩,.string ⟨(U.data.toList.drop n).toArray⟩,.int .i64 0]);rw [Lex.Gn,hP,hD];rfl
   ·rw [HQ3.out];exact CS.out.Ac (below_drewN (jan _ _) nq)
end
section
open Go.RowKit Utf Go.Shelf
attribute [local go_sem] Oper.semAt_some
theorem Lex.Yb (d:UInt8):∀ l:List UInt8,(Lex.Gq d l).length<=l.length+1
 | []=>jaa _
 | c::t=>by
  have ih:=Yb d t;rw [Lex.Gq];split
  ·rw [jac,jac];omega
  ·cases h:Lex.Gq d t with
   | nil=>simp
   | cons a r=>rw [h] at ih;simp only [jac] at ih ⊢;omega
namespace Cmd
theorem Qj:∀ l:L,Lex.Gq 32 l=Bk l
 | []=>rfl
 | c::t=>by
  rw [Lex.Gq,Bk,Qj t];by_cases h:c=32
  ·rw [if_pos h,if_pos (by rw [h];rfl)]
  ·rw [if_neg h,if_neg (show ¬ c.toNat=32 from λe=>h (UInt8.toNat_inj.1 e))];cases Bk t<;>rfl
def Aux (c:Com):L->Int × Com
 | []=>(0,c)
 | b::t=>if b.toNat ≠ 32 then (501,zero) else params [] (Bk t) c
def Ab4 (l:List L) (c0:Com) (pre:List L) (c:Com):Prop:=∃ had,params [] l c0=params had (l.drop pre.length) c/\∀ k,k ∈ had ↔ k ∈ pre.map Bj
theorem A3n (l:List L) (c:Com):Ab4 l c [] c:=⟨[],by rw [List.length_nil,List.drop_zero],λk=>by simp⟩
theorem Ato {l:List L} {c0 c:Com} (h:Ab4 l c0 l c):params [] l c0=(0,c):=by
 obtain ⟨had,h1,-⟩:=h;rw [h1,List.drop_length];rfl
theorem Ay8 {l pre:List L} {x:L} {c0 c:Com} (h:Ab4 l c0 pre c) (hp:pre ++ [x] <+: l) (hx:Lex.sl x=x) :
  ((Bj x ≠ Kl/\Bj x ≠ Rq/\Bj x ≠ Kn)->(params [] l c0).1=555) /\
  (¬ (Bj x ≠ Kl/\Bj x ≠ Rq/\Bj x ≠ Kn)->Bj x ∈ pre.map Bj->(params [] l c0).1=501) /\
  (¬ (Bj x ≠ Kl/\Bj x ≠ Rq/\Bj x ≠ Kn)->Bj x ∉ pre.map Bj->((Qa c x (Bj x) (Om x)).1 ≠ 0->(params [] l c0).1=(Qa c x (Bj x) (Om x)).1)/\((Qa c x (Bj x) (Om x)).1=0->Ab4 l c0 (pre ++ [x]) (Qa c x (Bj x) (Om x)).2)):=by
 obtain ⟨had,h1,h2⟩:=h;obtain ⟨r,hr⟩:=hp;have hd:l.drop pre.length=x::r:=by rw [<- hr,jaq,List.drop_left' rfl];rfl
 have hd2:l.drop (pre ++ [x]).length=r:=by rw [<- hr,List.drop_left' rfl]
 rw [hd,params] at h1;have ho:=Q0 hx had c;refine ⟨λg=>?_,λg m=>?_,λg m=>?_⟩
 ·rw [if_pos g] at ho;rw [h1,ho];rfl
 ·rw [if_neg g,if_pos ((h2 _).2 m)] at ho;rw [h1,ho];rfl
 ·rw [if_neg g,if_neg (λk=>m ((h2 _).1 k))] at ho;rw [ho] at h1;refine ⟨λe=>by rw [h1,if_pos e],λe=>⟨Bj x::had,?_,λk=>?_⟩⟩
  ·rw [if_neg (λk=>k e),Azn hx] at h1;rw [h1,hd2]
  ·rw [List.map_append,jap,jal,h2];simp only [List.map_cons,List.map_nil,List.mem_singleton];exact Or.comm
end Cmd
def A2o (w:World) (C R NR:Nat) (c0:Cmd.Com) (l pre:List (List UInt8)) (W:World):Prop :=
 ((∃ v,Go.Boxed W (R+1+1) 120 v/\W.ownsRow NR 9 1 v (pre.map Cmd.Bj).length ((pre.map Cmd.Bj).map J9))/\Go.Boxed W R 61 (.pointer (some ⟨C,0,none⟩))/\Go.Boxed W (R+1) 3 (.int .i64 0)) /\
 (∃ c,CI C c W/\Cmd.Ab4 l c0 pre c)/\Az C w W/\NR<=W.heap.size
def A5a (w:World) (C R:Nat) (E:Int) (_:List (List UInt8)) (W:World):Prop:=Go.Boxed W (R+1) 3 (.int .i64 E)/\Az C w W/\R+3<=W.heap.size
theorem Acm {W W':World} {row:Option Nat} {C:Nat} {c:Cmd.Com} (h:CI C c W) (hg:W.grownBy W' row) (hr:∀ r,row=some r->∃ o:Obj,W.heap[r]? = some o/\o.isCells=false):CI C c W' :=
 ⟨(hg.block C (Ai.lt h) (λe=>by obtain ⟨o,ho,hc⟩:=hr C e.symm;rw [h.blk] at ho;cases ho;cases hc)).trans h.blk⟩
theorem Mu {w W W':World} {row:Option Nat} {C B:Nat} (h:Az C w W) (hB:w.heap.size<=B) (hg:W.grownBy W' row) (hr:∀ r,row=some r->B<=r):Az C w W' :=
 ⟨hg.os.trans h.os,hg.tape.trans h.tape,hg.output.trans h.output,Nat.le_trans h.size hg.size,λk hk hne=>(hg.block k (jas hk h.size) (λe=>by have:=hr k e.symm;omega)).trans (h.block k hk hne)⟩
theorem A0p (w:World) (C R NR B:Nat) (c0:Cmd.Com) (l:List (List UInt8)) (hB:w.heap.size<=B):OwnFrom B (A2o w C R NR c0 l):=λs X Y row hs hg hr=>by
 obtain ⟨⟨h0,h1,h2⟩,⟨c,h3,h4⟩,h5,h6⟩:=hs;refine ⟨⟨?_,Cv h1 hg λr e=>(hr r e).2,Cv h2 hg λr e=>(hr r e).2⟩,⟨c,Acm h3 hg λr e=>(hr r e).2,h4⟩,Mu h5 hB hg λr e=>(hr r e).1,Nat.le_trans h6 hg.size⟩;obtain ⟨v,a1,a2,-⟩:=holdsRow_own NR (R+1+1) 120 9 1 (λpre:List (List UInt8)=>(pre.map Cmd.Bj).length) (λpre=>(pre.map Cmd.Bj).map J9) (λ_ _=>True) s X Y row (by obtain ⟨v,a1,a2⟩:=h0;exact ⟨v,a1,a2,trivial⟩) hg λr e=>(hr r e).2;exact ⟨v,a1,a2⟩
theorem A0q (w:World) (C R B:Nat) (E:Int) (hB:w.heap.size<=B):OwnFrom B (A5a w C R E):=λ_ _ _ _ hs hg hr =>
 ⟨Cv hs.1 hg λr e=>(hr r e).2,Mu hs.2.1 hB hg λr e=>(hr r e).1,Nat.le_trans hs.2.2 hg.size⟩
theorem Ji {C N:Nat} {w W:World} (h:Az C w W) (hN:w.heap.size<=N) (v:Value):Az C w (W.setCell ⟨N,0,none⟩ v) :=
 ⟨h.os,h.tape,h.output,by simpa using h.size,λk hk hne=>(Below.heap_setCell _ _ _ _ (show k ≠ N by omega)).trans (h.block k hk hne)⟩
theorem Aib {C N:Nat} {c:Cmd.Com} {W:World} (h:CI C c W) (hN:C ≠ N) (v:Value):CI C c (W.setCell ⟨N,0,none⟩ v):=⟨(Below.heap_setCell _ _ _ _ hN).trans h.blk⟩
theorem Agg (w:World) (C R NR N:Nat) (c0:Cmd.Com) (l:List (List UInt8)) (hN:w.heap.size<=N) (h1:R+2<N) (h2:C<N) (h3:N<NR):Ka N (A2o w C R NR c0 l):=λ_ _ v hs=>by
 obtain ⟨⟨⟨u,h01,h02⟩,h1',h2'⟩,⟨c,h3',h4⟩,h5,h6⟩:=hs;exact ⟨⟨⟨u,Ca h01 jO v,U9 h02 h3⟩,Ca h1' jO v,Ca h2' jO v⟩,⟨c,Aib h3' jO v,h4⟩,Ji h5 hN v,by simpa using h6⟩
theorem Agh (w:World) (C R N:Nat) (E:Int) (hN:w.heap.size<=N) (h1:R+2<N):Ka N (A5a w C R E):=λ_ _ v hs=>⟨Ca hs.1 jO v,Ji hs.2.1 hN v,by simpa using hs.2.2⟩
theorem V5 {C:Nat} {c:Cmd.Com} {V V':World} (hC:CI C c V) (h:Az C V V'):KeepsOthers V V' :=
 ⟨h.size,λk o hk ho=>(h.block k (Array.getElem?_eq_some_iff.1 hk).1 (λe=>by subst e;rw [hC.blk] at hk;cases hk;cases ho)).trans hk⟩
theorem Af1 {C N:Nat} {V V':World} (h:Az C V V') (hN:N+2<V.heap.size) (hC:C<N):F0 N V V':=λj hj=>h.block _ jO jO
end
section
open Go.RowKit Utf Go.Shelf
attribute [local go_sem] Oper.semAt_some
theorem A01 {W w1:World} {B N B0:Nat} {v v':Value} {k m:Nat} {xs ys:List Value} {tmp:Obj} (hv:Go.Boxed W B 120 v) (hrow:W.ownsRow N 9 1 v k xs) (hown':w1.ownsRow N 9 1 v' m ys) (hgrow:(W.alloc tmp).grownBy w1 v.ownBlock)
  (h0:B0<=N) (h1:B0<=B) (hN:N<=W.heap.size):∀ Bs,Bs<N->Bs<W.heap.size->Bs ≠ B->(w1.setCell ⟨B,0,none⟩ v').heap[Bs]? = W.heap[Bs]?:=λBs hsN hsW hne =>
 (Ao9 (Bs:=Bs) (B0:=B0) hv hrow hown' hgrow hsN hsW hne h0 h1 hN).2.2.2.2.1
structure Abb (w:World) (C NR:Nat) (ks:List (List UInt8)) (v:Value) (c:Cmd.Com) (W:World):Prop where
 row:Go.Boxed W (w.heap.size+1+1) 120 v
 own:W.ownsRow NR 9 1 v ks.length (ks.map J9)
 ptr:Go.Boxed W w.heap.size 61 (.pointer (some ⟨C,0,none⟩))
 res:Go.Boxed W (w.heap.size+1) 3 (.int .i64 0)
 com:CI C c W
 only:Az C w W
 size:NR<=W.heap.size
theorem Abb.Ac {w:World} {C NR:Nat} {ks:List (List UInt8)} {v:Value} {c:Cmd.Com} {W W':World} (h:Abb w C NR ks v c W) (hb:Below W.heap.size W W'):Abb w C NR ks v c W' :=
 ⟨E9 h.row hb,Ck.Ac (base:=NR) (v:=v) (l:=ks) h.own hb,E9 h.ptr hb,E9 h.res hb,Ai.Ac h.com hb,h.only.then (hb.mono h.only.size),Nat.le_trans h.size hb.size⟩
theorem Abs {base n:Nat} {E:TypeId} {v:Value} {xs:List Value} {w w':World} (h:w.ownsRow base E 1 v n xs) (hk:∀ k,base<=k->k<w.heap.size->w'.heap[k]? = w.heap[k]?):w'.ownsRow base E 1 v n xs:=by
 obtain ⟨h1,h2⟩:=h;refine ⟨h1,?_⟩;rcases h2 with h2 | ⟨g,cap,cur,e,hb,hg,r⟩
 · exact .inl h2
 · exact .inr ⟨g,cap,cur,e,hb,(hk g hb (Array.getElem?_eq_some_iff.1 hg).1).trans hg,r⟩
theorem Jo {W W':World} {C B:Nat} {t:TypeId} {v:Value} (h:Go.Boxed W B t v) (ho:Az C W W') (hne:B ≠ C):Go.Boxed W' B t v:=(ho.block B h.lt hne).trans h
theorem Abb.told {w:World} {C NR:Nat} {ks:List (List UInt8)} {v:Value} {c c':Cmd.Com} {W W':World} (h:Abb w C NR ks v c W) (hC:C<w.heap.size) (hNR:w.heap.size<=NR) (ho:Az C W W') (hc:CI C c' W'):Abb w C NR ks v c' W':=by
 refine ⟨Jo h.row ho jO,?_,Jo h.ptr ho jO,Jo h.res ho jO,hc,h.only.trans ho,Nat.le_trans h.size ho.size⟩;exact Abs h.own λk hk hk2=>ho.block k hk2 jO
theorem Abb.push {w:World} {C NR:Nat} {ks:List (List UInt8)} {v v':Value} {c:Cmd.Com} {W w1:World} {tmp:Obj} {x:List UInt8} (h:Abb w C NR ks v c W) (hC:C<w.heap.size) (hNR:w.heap.size+3<=NR)
  (hown':w1.ownsRow NR 9 1 v' (ks.length+1) (ks.map J9 ++ [J9 x])) (hgrow:(W.alloc tmp).grownBy w1 v.ownBlock) :
  Abb w C NR (ks ++ [x]) v' c (w1.setCell ⟨w.heap.size+1+1,0,none⟩ v')/\KeepsOthers W (w1.setCell ⟨w.heap.size+1+1,0,none⟩ v')/\(∀ Bs,w.heap.size+3<=Bs->Bs<NR->(w1.setCell ⟨w.heap.size+1+1,0,none⟩ v').heap[Bs]? = W.heap[Bs]?) /\
   w1.cell? ⟨w.heap.size+1+1,0,none⟩=some v/\w1.frozen? ⟨w.heap.size+1+1,0,none⟩=false:=by
 have hs:=h.size;obtain ⟨p1,p2,p3,p4,-,p6,p7⟩:=Ao9 (Bs:=w.heap.size) (B0:=w.heap.size) h.row h.own hown' hgrow jO (by have:=h.ptr.lt;omega) jO jO jO hs;refine ⟨⟨p2,by rw [jab,List.map_append];exact p3,p7 _ _ _ jD jO h.ptr,p7 _ _ _ jD jO h.res,⟨(p6.block C hC).trans h.com.blk⟩,?_,Nat.le_trans hs p6.size⟩,p4,λBs h1 h2=>?_,p1.cell,p1.frozen⟩
 ·exact ⟨p6.os.trans h.only.os,p6.tape.trans h.only.tape,p6.output.trans h.only.output,Nat.le_trans h.only.size p6.size,λk hk hne=>(p6.block k hk).trans (h.only.block k hk hne)⟩
 ·exact A01 (B0:=w.heap.size) h.row h.own hown' hgrow jO jO hs Bs h2 jO jO
theorem Abt (C:Nat) (c:Cmd.Com) (w:World) (hC:CI C c w):Calls prog 57 #[.pointer (some ⟨C,0,none⟩),.string ⟨#[]⟩] w (G9 C (0,c) w):=by
 have hb:Below w.heap.size w ((w.alloc (.cells #[.pointer (some ⟨C,0,none⟩)] 61)).alloc (.cells #[.int .i64 0] 3)):=Bl _ _ _;have CA:=jH (Ai.Ac hC hb);have BB:=jH hb;clear hC hb;obtain ⟨W,hW⟩:∃ W,(w.alloc (.cells #[.pointer (some ⟨C,0,none⟩)] 61)).alloc (.cells #[.int .i64 0] 3)=W:=⟨_,rfl⟩
 have c0:=(Go.Boxed.new (w.alloc (.cells #[.pointer (some ⟨C,0,none⟩)] 61)) 3 (.int .i64 0)).cell;rw [World.size_alloc,hW] at c0;rw [hW] at CA BB;have HW:=jH hW;clear hW;go_enter func57,ntmps57;go_wp2;rw [HW.out];exact bodyPost_ret (v:=.int .i64 0) (by simp [results,results57,go_sem,c0]) rfl ⟨rfl,Az.of BB.out,λ_=>CA.out⟩
theorem Abu (C:Nat) (c:Cmd.Com) (A:ByteArray) (w:World) (hC:CI C c w) (hA:A.size<=1000):Calls prog 57 #[.pointer (some ⟨C,0,none⟩),.string ((⟨#[32]⟩:ByteArray) ++ A)] w (G9 C (Cmd.params [] (Cmd.Bk A.data.toList) c) w):=by
 obtain ⟨S,hS⟩:∃ S:ByteArray,S=(⟨#[32]⟩:ByteArray) ++ A:=⟨_,rfl⟩
 rw [<- hS];have hSl:S.data.toList=32::A.data.toList:=by rw [hS];simp [ByteArray.data_append]
 have KC:=λW=>Ayd S W;have hpre:Lib.hasPrefix S.data.toList [32]=true:=by rw [hSl];simp [Lib.hasPrefix,List.isPrefixOf]
 have htrim:(⟨(Lib.trimPrefix S.data.toList [32]).toArray⟩:ByteArray)=A:=by
  unfold Lib.trimPrefix;rw [if_pos hpre,hSl];rfl
 simp only [hpre,htrim] at KC;have hne:¬ S.size=0:=λh=>by
  have h1:S.data.toList.length=S.size:=by simp
  rw [hSl,jac] at h1;omega
 obtain ⟨e1,e2,-⟩:=Fc hne;obtain ⟨X,hX⟩:∃ X:ByteArray,X=⟨(A.data.toList.map Af).toArray⟩:=⟨_,rfl⟩
 have KF:=λW=>Hm A W jO;simp only [<- hX] at KF;have hXl:X.data.toList=Lex.sl A.data.toList:=by rw [hX]
 have hXs:X.size<=1000:=by
  have h1:X.data.toList.length=X.size:=by simp
  have h2:A.data.toList.length=A.size:=by simp
  rw [<- h1,hXl,jai];omega
 obtain ⟨l,hl⟩:∃ l,l=Lex.Gq 32 X.data.toList:=⟨_,rfl⟩
 have hlow:∀ x ∈ l,Lex.sl x=x:=by rw [hl,Cmd.Qj,hXl];exact Cmd.Ax1 _
 have hr:Cmd.params [] (Cmd.Bk A.data.toList) c=Cmd.params [] l c:=by rw [hl,Cmd.Qj,hXl,Cmd.Agj]
 have hfew:∀ x ∈ l,x.length<=1000:=λx hx=>by
  rw [hl] at hx;have:=Lex.Yd 32 _ _ hx;have h1:X.data.toList.length=X.size:=by simp
  omega
 rw [hr];have KC:=jH KC;have KF:=jH KF;clear hr hX hXl hpre htrim hne hSl hS;refine (callsIn_wide (n:=6)).1 ?_;refine callsIn_of_wp_marks func57 rfl trivial ?_ rfl;simp only [ntmps57,List.size_toArray,jac,List.length_nil,Nat.reduceAdd,Nat.reduceSub,Array.replicate_succ,Array.replicate_zero,List.push_toArray,List.append_toArray,List.nil_append,jah]
 gi_wp2_with (first
  | (refine ⟨trivial,?_⟩;gi_at_call 80;refine (callsIn_wide.2 (KC.out _)).mono ?_;rintro e w' ⟨rfl,rfl⟩)
  | (refine ⟨trivial,?_⟩;gi_at_call 13;refine (callsIn_wide.2 (KF.out _)).mono ?_;rintro e w2 ⟨rfl,hb⟩;have HB:=jH hb;clear hb)
  | (refine ⟨trivial,?_⟩;gi_at_call 58;refine (Ali 32 _ jO X _).mono ?_;rintro e w' ⟨rfl,rfl⟩))
 obtain ⟨W0,hW0⟩:∃ W0,W0=(((w2.alloc (.cells #[.string X] 9)).alloc (.cells #[.string ⟨#[32]⟩] 9)).alloc (.cells #[.int .i64 0] 3)):=⟨_,rfl⟩
 obtain ⟨Wb,hWb⟩:∃ Wb,Wb=(((w.alloc (.cells #[.pointer (some ⟨C,0,none⟩)] 61)).alloc (.cells #[.int .i64 0] 3)).alloc (.cells #[.slice none 0 0] 120)):=⟨_,rfl⟩
 rw [<- hWb] at HB;have hbs:Wb.heap.size=w.heap.size+3:=by rw [hWb];simp
 have hBb:Below w.heap.size w Wb:=by rw [hWb];exact Dh _ _ _ _
 have x0:Go.Boxed Wb w.heap.size 61 (.pointer (some ⟨C,0,none⟩)):=by rw [hWb];exact ((Go.Boxed.new w 61 (.pointer (some ⟨C,0,none⟩))).alloc _).alloc _
 have x1:Go.Boxed Wb (w.heap.size+1) 3 (.int .i64 0):=by
  have h:=(Go.Boxed.new (w.alloc (.cells #[.pointer (some ⟨C,0,none⟩)] 61)) 3 (.int .i64 0)).alloc (.cells #[.slice none 0 0] 120);rw [World.size_alloc] at h;rw [hWb];exact h
 have x2:Go.Boxed Wb (w.heap.size+1+1) 120 (.slice none 0 0):=by
  have h:=Go.Boxed.new ((w.alloc (.cells #[.pointer (some ⟨C,0,none⟩)] 61)).alloc (.cells #[.int .i64 0] 3)) 120 (.slice none 0 0);rw [World.size_alloc,World.size_alloc] at h;rw [hWb];exact h
 have hCw:C<w.heap.size:=Ai.lt hC;have hb2:=HB.out;have hb0:Below Wb.heap.size Wb W0:=by rw [hW0];exact Aa hb2 (Dh _ _ _ _)
 have hSt:Iu 32 w2.heap.size X W0:=by
  rw [hW0];have s1:=((Go.Boxed.new w2 9 (.string X)).alloc (.cells #[.string ⟨#[32]⟩] 9)).alloc (.cells #[.int .i64 0] 3);have s2:=(Go.Boxed.new (w2.alloc (.cells #[.string X] 9)) 9 (.string ⟨#[32]⟩)).alloc (.cells #[.int .i64 0] 3);have s3:=Go.Boxed.new ((w2.alloc (.cells #[.string X] 9)).alloc (.cells #[.string ⟨#[32]⟩] 9)) 3 (.int .i64 0);rw [World.size_alloc] at s2;rw [World.size_alloc,World.size_alloc] at s3;exact ⟨s1,s2,s3⟩
 have h2s:w.heap.size+3<=w2.heap.size:=by have:=hb2.size;omega
 have hsz:W0.heap.size=w2.heap.size+3:=by rw [hW0];simp
 have HI:=jH (show A2o w C w.heap.size W0.heap.size c l [] W0 from ⟨⟨⟨_,E9 x2 hb0,World.ownsRow_nil _ _ _ _⟩,E9 x0 hb0,E9 x1 hb0⟩,⟨c,Ai.Ac hC (Aa hBb hb0),Cmd.A3n l c⟩,Az.of (Aa hBb hb0),jaa _⟩);rw [<- hW0];obtain ⟨NR,hNR⟩:∃ NR,NR=W0.heap.size:=⟨_,rfl⟩
 rw [<- hNR] at HI hsz;clear hW0 hWb hbs hBb x0 x1 x2 hb2 hb0 HB KC KF hC;obtain ⟨E,hE⟩:∃ E,E=(Cmd.params [] l c).1:=⟨_,rfl⟩
 obtain ⟨i0,hi,hz0,hz1,hz2⟩:=info_parts Lh;refine V7 w2.heap.size jO rfl jO (gf:=112) (lb:=#[.pointer (some ⟨w2.heap.size+1,0,none⟩),.pointer (some ⟨w2.heap.size,0,none⟩),.pointer (some ⟨w2.heap.size+1+1,0,none⟩)]) rfl trivial (enters_of func112 jK rfl)
  (enc:=λx=>#[.string ⟨x.toArray⟩]) (L:=l) (St:=Iu 32 w2.heap.size X)
  (λq J Jx W hS hJ _ hY h0=>by rw [hl] at hY ⊢;exact Wc 32 _ jO q w2.heap.size X jO J Jx W hJ hY hS h0)
  (λo1 o2=>(hSt.alloc o1).alloc o2) (λ_=>rfl) (A2o w C w.heap.size NR c l) (λpre W=>E ≠ 0/\A5a w C w.heap.size E pre W)
  (A0p w C w.heap.size NR _ c l jO) (λs X Y row hs hg hr=>⟨hs.1,A0q w C w.heap.size _ E jO s X Y row hs.2 hg hr⟩) (Agg w C w.heap.size NR _ c l jO jO jO jO) (λs V v hs=>⟨hs.1,Agh w C w.heap.size _ E jO jO s V v hs.2⟩) HI.out
  (λx=>{ tmps:=#[.pointer (some ⟨C,0,none⟩),.string S,.pointer (some ⟨w.heap.size,0,none⟩),undef,.pointer (some ⟨w.heap.size+1,0,none⟩),.string A,.bool true,.pointer (some ⟨w.heap.size+1+1,0,none⟩),.string ⟨x.toArray⟩,undef,undef,undef,undef,.string S,.bool false,.tuple #[.string A,.bool true],.string S,.tuple #[.string A,.bool true],.string A,.bool true,.bool true,.bool false,.string A,.string X,
   .func (.func 112) #[] #[.pointer (some ⟨w2.heap.size+1,0,none⟩),.pointer (some ⟨w2.heap.size,0,none⟩),.pointer (some ⟨w2.heap.size+1+1,0,none⟩)],.string ⟨x.toArray⟩,undef,undef,undef,undef,undef,undef,undef,undef,undef,undef,undef,undef,undef,undef,undef,undef,undef,undef,undef,undef,undef,undef,undef,undef,undef,undef,undef,undef,undef,undef,undef,undef,undef],defers:=[] }) ?assign ?body ?done ?stop
 case assign =>
  intro q x W K hK
  gi_wp2
  exact hK
 case body =>
  rintro l' pre x W ⟨⟨⟨v,hv,hrow⟩,y1,y2⟩,⟨c',hc,hgo⟩,hO,hN⟩ hpx;have K0:=jH (show Abb w C NR (pre.map Cmd.Bj) v c' W from ⟨hv,hrow,y1,y2,hc,hO,hN⟩);have hxl:x ∈ l:=by
   obtain ⟨r,hr⟩:=hpx;rw [<- hr];simp
  obtain ⟨g1,g2,g3⟩:=Cmd.Ay8 hgo hpx (hlow x hxl);have hx:=hfew x hxl;have KX:=A6s ⟨x.toArray⟩ W (by show x.toArray.size<=_;rw [List.size_toArray];omega);rw [show (⟨x.toArray⟩:ByteArray).data.toList=x from rfl] at KX;have KP:=λW (h:CI C c' W)=>Ak6 C c' ⟨x.toArray⟩ ⟨(Cmd.Bj x).toArray⟩ ⟨(Cmd.Om x).toArray⟩ W h;dsimp only at KP;have hkl:=Cmd.Azm x;have hpl:pre.length<=1000:=by
   have h1:=hpx.length_le;rw [jab,List.length_singleton] at h1;have h2:=Lex.Yb 32 X.data.toList;rw [<- hl] at h2;have h3:X.data.toList.length=X.size:=by simp
   omega
  have KH:=λv W (h:W.ownsRow NR 9 1 v (pre.map Cmd.Bj).length ((pre.map Cmd.Bj).map J9))=>A6x NR v (pre.map Cmd.Bj) ⟨(Cmd.Bj x).toArray⟩ W h (by rw [jai];omega);rw [show (⟨(Cmd.Bj x).toArray⟩:ByteArray).data.toList=Cmd.Bj x from rfl] at KH;rw [<- hE] at g1 g2 g3;have eqs:∀ (u:ByteArray) (m:List UInt8),(u.toList == m)=decide (u.data.toList=m):=λu m=>by rw [ByteArray.toList_eq,Bool.eq_iff_iff];simp
  obtain ⟨KT,hKT⟩:∃ u:ByteArray,u=⟨(Cmd.Bj x).toArray⟩:=⟨_,rfl⟩
  obtain ⟨VT,hVT⟩:∃ u:ByteArray,u=⟨(Cmd.Om x).toArray⟩:=⟨_,rfl⟩
  have q1:=eqs KT [115,105,122,101];have q2:=eqs KT [98,111,100,121];have q3:=eqs KT [115,109,116,112,117,116,102,56];rw [show KT.data.toList=Cmd.Bj x by rw [hKT]] at q1 q2 q3;rw [<- hKT,<- hVT] at KX;simp only [<- hKT,<- hVT] at KP;rw [<- hKT] at KH;have hsv:J9 (Cmd.Bj x)=.string KT:=by rw [hKT];rfl
  clear hv hrow y1 y2 hc hO hN hgo hx hkl eqs hKT hVT;have KX:=jH KX;have KP:=jH KP;have KH':=jH KH;clear KH;by_cases hk:Cmd.Bj x ≠ Cmd.Kl/\Cmd.Bj x ≠ Cmd.Rq/\Cmd.Bj x ≠ Cmd.Kn
  case pos =>
   have HE:=jH (g1 hk);rw [decide_eq_false (show ¬ Cmd.Bj x=[115,105,122,101] from hk.1)] at q1;rw [decide_eq_false (show ¬ Cmd.Bj x=[98,111,100,121] from hk.2.1)] at q2;rw [decide_eq_false (show ¬ Cmd.Bj x=[115,109,116,112,117,116,102,56] from hk.2.2)] at q3;clear hk g1 g2 g3 KP KH' hE hl hlow hfew hxl hpx hSt
   gi_wp2_with (refine ⟨trivial,?_⟩;gi_at_call 81;refine (CallsIn.inRound l' (callsIn_wide.2 KX.out)).mono ?_;rintro e w3 ⟨b,rfl,hb3⟩;have HB3:=jH hb3;have K3:=jH (K0.out.Ac hb3);have c4:=K3.out.res.cell;have f4:=K3.out.res.frozen;clear hb3)
   refine ⟨(Dd HB3.out).trans (KeepsOthers.setCell _ _ _),rfl,?_,?_⟩
   ·rw [HE.out];decide
   ·rw [HE.out];exact ⟨K3.out.res.set _,Ji K3.out.only jO _,by have:=K3.out.size;simp;omega⟩
  have hk3:(decide (Cmd.Bj x=[115,105,122,101])=true/\True)\/(decide (Cmd.Bj x=[115,105,122,101])=false/\decide (Cmd.Bj x=[98,111,100,121])=true)\/(decide (Cmd.Bj x=[115,105,122,101])=false/\decide (Cmd.Bj x=[98,111,100,121])=false/\decide (Cmd.Bj x=[115,109,116,112,117,116,102,56])=true):=by
   by_cases a1:Cmd.Bj x=[115,105,122,101]
   ·exact .inl ⟨decide_eq_true a1,trivial⟩
   ·by_cases a2:Cmd.Bj x=[98,111,100,121]
    ·exact .inr (.inl ⟨decide_eq_false a1,decide_eq_true a2⟩)
    ·by_cases a3:Cmd.Bj x=[115,109,116,112,117,116,102,56]
     · exact .inr (.inr ⟨decide_eq_false a1,decide_eq_false a2,decide_eq_true a3⟩)
     · exact absurd ⟨a1,a2,a3⟩ hk
  have g2:=g2 hk;have g3:=g3 hk;generalize decide (Cmd.Bj x=[115,105,122,101])=d1 at q1 hk3;generalize decide (Cmd.Bj x=[98,111,100,121])=d2 at q2 hk3;generalize decide (Cmd.Bj x=[115,109,116,112,117,116,102,56])=d3 at q3 hk3;clear g1 hk;by_cases hm:Cmd.Bj x ∈ pre.map Cmd.Bj
  ·have HE:=jH (g2 hm);simp only [decide_eq_true hm] at KH';clear g2 g3 KP hE hl hlow hfew hxl hpx hSt hm;rcases hk3 with ⟨rfl,-⟩ | ⟨rfl,rfl⟩ | ⟨rfl,rfl,rfl⟩
   all_goals
    gi_wp2_with (first
     | (refine ⟨trivial,?_⟩;gi_at_call 81;refine (CallsIn.inRound l' (callsIn_wide.2 KX.out)).mono ?_;rintro e w3 ⟨b,rfl,hb3⟩;have HB3:=jH hb3;have K3:=jH (K0.out.Ac hb3);have c7:=K3.out.row.cell;clear hb3)
     | (refine ⟨trivial,?_⟩;gi_at_call 82;refine (CallsIn.inRound l' (callsIn_wide.2 (KH'.out _ _ K3.out.own))).mono ?_;rintro e w4 ⟨rfl,hb4⟩;have HB4:=jH hb4;have K4:=jH (K3.out.Ac hb4);have c4:=K4.out.res.cell;have f4:=K4.out.res.frozen;clear hb4 c7))
    refine ⟨((Dd HB3.out).trans (Dd HB4.out)).trans (KeepsOthers.setCell _ _ _),rfl,?_,?_⟩
    ·rw [HE.out];decide
    ·rw [HE.out];exact ⟨K4.out.res.set _,Ji K4.out.only jO _,by have:=K4.out.size;simp;omega⟩
  have g3:=g3 hm;simp only [decide_eq_false hm] at KH';obtain ⟨⟨F,c''⟩,hF⟩:∃ q,q=Cmd.Qa c' x (Cmd.Bj x) (Cmd.Om x):=⟨_,rfl⟩
  rw [<- hF] at g3 KP;unfold G9 at KP;simp only at g3 KP;obtain ⟨A0,n0,rfl,-⟩:=Ck.shape (base:=NR) (l:=pre.map Cmd.Bj) K0.out.own;have hml:(pre.map Cmd.Bj).length<=1000:=by rw [jai];exact hpl
  rw [jai] at K0 KH';have HG:=jH g3;clear g2 g3 hl hlow hfew hxl hE hSt hm hF;by_cases hF0:F=0
  case neg =>
   have hFz:(F != 0)=true:=by simpa using hF0
   have HE:=jH (show E ≠ 0/\E=F from ⟨λh=>hF0 ((HG.out.1 hF0).symm.trans h),HG.out.1 hF0⟩);clear hF0;rcases hk3 with ⟨rfl,-⟩ | ⟨rfl,rfl⟩ | ⟨rfl,rfl,rfl⟩
   all_goals
    gi_wp2_with (first
    | (refine ⟨trivial,?_⟩;gi_at_call 81;refine (CallsIn.inRound l' (callsIn_wide.2 KX.out)).mono ?_;rintro e w3 ⟨b,rfl,hb3⟩;have HB3:=jH hb3;have K3:=jH (K0.out.Ac hb3);have c7:=K3.out.row.cell;clear hb3)
    | (refine ⟨trivial,?_⟩;gi_at_call 82;refine (CallsIn.inRound l' (callsIn_wide.2 (KH'.out _ _ (by have h:=K3.out.own;rwa [jai] at h)))).mono ?_;rintro e w4 ⟨rfl,hb4⟩;have HB4:=jH hb4;have K4:=jH (K3.out.Ac hb4);have z4:=K4.out.size;clear c7;have c7:=K4.out.row.cell;clear hb4)
    | (gi_at_builtin;refine wpListIn_append_own _ rfl _ _ 120 rfl NR 9 i0 (.string ⟨#[]⟩) 1 16 underlying120 hi hz0 hz1 hz2 rfl jD _ _ _ rfl (K4.out.own.alloc _) ⟨w4.heap.size,0,none⟩ 1 1 [.string KT] rfl rfl (Agf _ _ _) (λu hu=>by rw [List.mem_singleton.1 hu];rfl) (by simp only [maxLen];omega) jO (by simp;omega) ?_;intro v' w5 hown' hgrow _;obtain ⟨g',cap',rfl⟩:=ownsRow_succ hown';obtain ⟨p1,p2,p3,p4,p5⟩:=K4.out.push hCw jO (by rw [hsv];exact hown') hgrow;simp only [jai] at p1 p2 p3;have K5:=jH p1;have P2:=jH p2;have P3:=jH p3;have c2:=p1.ptr.cell;clear hown' hgrow p1 p2 p3 c7)
    | (refine ⟨trivial,?_⟩;gi_at_call 83;refine (CallsIn.inRound l' (callsIn_wide.2 (KP.out _ K5.out.com))).mono ?_;rintro e w6 ⟨rfl,ho6,hc6⟩;have HO6:=jH ho6;have HC6:=jH hc6;have X6:=jH (Jo K5.out.res ho6 jO);have c4:=X6.out.cell;have f4:=X6.out.frozen;clear ho6 hc6 p4 p5 c2))
    refine ⟨((((Dd HB3.out).trans (Dd HB4.out)).trans P2.out).trans (V5 K5.out.com HO6.out)).trans (KeepsOthers.setCell _ _ _),rfl,HE.out.1,?_⟩;rw [HE.out.2];exact ⟨X6.out.set _,Ji (K5.out.only.trans HO6.out) jO _,by have:=K5.out.size;have:=HO6.out.size;simp;omega⟩
  subst hF0;rcases hk3 with ⟨rfl,-⟩ | ⟨rfl,rfl⟩ | ⟨rfl,rfl,rfl⟩
  all_goals
   gi_wp2_with (first
    | (refine ⟨trivial,?_⟩;gi_at_call 81;refine (CallsIn.inRound l' (callsIn_wide.2 KX.out)).mono ?_;rintro e w3 ⟨b,rfl,hb3⟩;have HB3:=jH hb3;have K3:=jH (K0.out.Ac hb3);have c7:=K3.out.row.cell;clear hb3)
    | (refine ⟨trivial,?_⟩;gi_at_call 82;refine (CallsIn.inRound l' (callsIn_wide.2 (KH'.out _ _ (by have h:=K3.out.own;rwa [jai] at h)))).mono ?_;rintro e w4 ⟨rfl,hb4⟩;have HB4:=jH hb4;have K4:=jH (K3.out.Ac hb4);have z4:=K4.out.size;clear c7;have c7:=K4.out.row.cell;clear hb4)
    | (gi_at_builtin;refine wpListIn_append_own _ rfl _ _ 120 rfl NR 9 i0 (.string ⟨#[]⟩) 1 16 underlying120 hi hz0 hz1 hz2 rfl jD _ _ _ rfl (K4.out.own.alloc _) ⟨w4.heap.size,0,none⟩ 1 1 [.string KT] rfl rfl (Agf _ _ _) (λu hu=>by rw [List.mem_singleton.1 hu];rfl) (by simp only [maxLen];omega) jO (by simp;omega) ?_;intro v' w5 hown' hgrow _;obtain ⟨g',cap',rfl⟩:=ownsRow_succ hown';obtain ⟨p1,p2,p3,p4,p5⟩:=K4.out.push hCw jO (by rw [hsv];exact hown') hgrow;simp only [jai] at p1 p2 p3;have K5:=jH p1;have P2:=jH p2;have P3:=jH p3;have c2:=p1.ptr.cell;clear hown' hgrow p1 p2 p3 c7)
    | (refine ⟨trivial,?_⟩;gi_at_call 83;refine (CallsIn.inRound l' (callsIn_wide.2 (KP.out _ K5.out.com))).mono ?_;rintro e w6 ⟨rfl,ho6,hc6⟩;have HO6:=jH ho6;have HC6:=jH hc6;have X6:=jH (Jo K5.out.res ho6 jO);have c4:=X6.out.cell;have f4:=X6.out.frozen;clear ho6 hc6 p4 p5 c2))
   have K6:=K5.out.told hCw jO HO6.out (HC6.out (by trivial));refine ⟨(((Dd HB3.out).trans (Dd HB4.out)).trans P2.out).trans (V5 K5.out.com HO6.out),?_,⟨⟨_,K6.row,by rw [List.map_append];exact K6.own⟩,K6.ptr,K6.res⟩,⟨c'',K6.com,HG.out.2 (by trivial)⟩,K6.only,K6.size⟩;have s0:=K0.out.size;have s3:=HB3.out.size;have s4:=HB4.out.size;have s5:=K5.out.size;exact (((Kq jO HB3.out).trans (Kq jO HB4.out)).trans (λj hj=>P3.out _ jO jO)).trans (Af1 HO6.out jO jO)
 case done =>
  rintro D W ⟨⟨⟨v,hv,hrow⟩,y1,y2⟩,⟨c',hc,hgo⟩,hO,hN⟩ hK hD;have c4:=y2.cell;have f4:=y2.frozen;have HR:=jH (Cmd.Ato hgo);have HO:=jH hO;have HC:=jH hc;have H2:=jH y2;have hCl:=Ai.lt hc;clear hSt hv hrow y1 y2 hc hgo hO hl hlow hfew
  gi_wp2
  have hK':=(KeepsOthers.setCell W ⟨w.heap.size+1,0,none⟩ (.int .i64 0)).same D _ hK rfl;refine ⟨by simp,.inl ⟨_,_,rfl,run_takeDeferred hK',?_⟩⟩;have e4:=((H2.out.set (.int .i64 0)).kept (grownBy_putObj' _ D (.deferred none)) (λe=>by injection e;omega)).cell;have hrow:∀ r,some D=some r->∃ o:Obj,(W.setCell ⟨w.heap.size+1,0,none⟩ (.int .i64 0)).heap[r]? = some o/\o.isCells=false:=λr e=>by cases e;exact ⟨_,hK',rfl⟩
  refine ⟨.int .i64 0,?_,?_⟩
  ·simp [results,results57,go_sem,e4]
  ·rw [HR.out];exact ⟨rfl,Mu (B:=w.heap.size) (Ji HO.out jO _) (jaa _) (grownBy_putObj' _ D (.deferred none)) (λr e=>by cases e;omega),λ_=>Acm (Aib HC.out jO _) (grownBy_putObj' _ D (.deferred none)) hrow⟩
 case stop =>
  rintro D pre W _ ⟨hE0,h1,h2,h3⟩ hK hD;have HE:=jH (And.intro hE0 (And.intro hE (And.intro h1 h2)));clear hSt hE0 h1 h2 hl hlow hfew hE
  gi_wp2
  refine ⟨by simp,.inl ⟨_,_,rfl,run_takeDeferred hK,?_⟩⟩;have e4:=(HE.out.2.2.1.kept (grownBy_putObj' _ D (.deferred none)) (λe=>by injection e;omega)).cell;refine ⟨.int .i64 E,?_,?_⟩
  ·simp [results,results57,go_sem,e4]
  ·exact Bx HE.out.2.1.symm HE.out.1 (Mu (B:=w.heap.size) HE.out.2.2.2 (jaa _) (grownBy_putObj' _ D (.deferred none)) (λr e=>by cases e;omega))
end
section
open Go.RowKit Utf
theorem Agi (C:Nat) (c:Cmd.Com) (S:ByteArray) (w:World) (h0:¬ S.size=0) (hp:Lib.hasPrefix S.data.toList [32]=false):Calls prog 57 #[.pointer (some ⟨C,0,none⟩),.string S] w (G9 C (501,c) w):=by
 have hb:Below w.heap.size w ((w.alloc (.cells #[.pointer (some ⟨C,0,none⟩)] 61)).alloc (.cells #[.int .i64 0] 3)):=Bl _ _ _;obtain ⟨W,hW⟩:∃ W,(w.alloc (.cells #[.pointer (some ⟨C,0,none⟩)] 61)).alloc (.cells #[.int .i64 0] 3)=W:=⟨_,rfl⟩
 have x1:=Go.Boxed.new (w.alloc (.cells #[.pointer (some ⟨C,0,none⟩)] 61)) 3 (.int .i64 0);rw [World.size_alloc,hW] at x1;rw [hW] at hb;have e4:=(x1.set (.int .i64 501)).cell;have c4:=x1.cell;have f4:=x1.frozen;have HB:=jH (hb.setCell (p:=⟨w.heap.size+1,0,none⟩) (by show w.heap.size<=w.heap.size+1;omega) (.int .i64 501));have HW:=jH hW;obtain ⟨e1,e2,-⟩:=Fc h0;have KC:=λW=>Ayd S W;simp only [hp] at KC;have KC:=jH KC;clear hb hW x1 h0 hp;go_enter func57,ntmps57;go_wp2_with fail;rw [HW.out];refine (KC.out _).mono ?_;rintro e w1 ⟨rfl,rfl⟩;go_wp2;exact bodyPost_ret (v:=.int .i64 501) (by simp [results,results57,go_sem,e4]) rfl (Bx rfl jD (Az.of HB.out))
theorem Agq (C:Nat) (c:Cmd.Com) (S:ByteArray) (w:World) (hC:CI C c w) (hS:S.size<=1000):Calls prog 57 #[.pointer (some ⟨C,0,none⟩),.string S] w (G9 C (Cmd.Aux c S.data.toList) w):=by
 have hsl:S.data.toList.length=S.size:=by simp
 cases h:S.data.toList with
 | nil =>
  rw [h] at hsl;obtain rfl:=Fw hsl.symm;exact Abt C c w hC
 | cons b t =>
  rw [h,jac] at hsl;by_cases hb:b=32
  ·subst hb;have hts:(⟨t.toArray⟩:ByteArray).size=t.length:=by show t.toArray.size=_;simp
   have hSA:S=(⟨#[32]⟩:ByteArray) ++ ⟨t.toArray⟩:=ByteArray.ext (Array.toList_inj.1 (by rw [h];simp [ByteArray.data_append]));have K:=Abu C c ⟨t.toArray⟩ w hC jO;rw [<- hSA] at K;refine K.mono λe w' hr=>?_;show G9 C (if (32:UInt8).toNat ≠ 32 then (501,Cmd.zero) else Cmd.params [] (Cmd.Bk t) c) w e w';rw [if_neg jD];exact hr
  ·refine (Agi C c S w jO (by rw [h];simp [Lib.hasPrefix,List.isPrefixOf];exact λg=>hb g.symm)).mono λe w' hr=>?_;show G9 C (if b.toNat ≠ 32 then (501,Cmd.zero) else Cmd.params [] (Cmd.Bk t) c) w e w';rw [if_pos (show b.toNat ≠ 32 from λg=>hb (UInt8.toNat_inj.1 g))];exact ⟨hr.1,hr.2.1,λg=>by cases g⟩
namespace Cmd
theorem Awq (p q:L) (c:Com):tail true p q c=if (Aux c q).1 ≠ 0 then Aux c q else low p (Aux c q).2:=by
 cases q with
 | nil=>rfl
 | cons b t =>
  unfold tail Aux;simp only [Bool.true_eq_false,if_false];by_cases hb:b.toNat ≠ 32
  · rw [if_pos hb,if_pos hb];rfl
  · rw [if_neg hb,if_neg hb]
end Cmd
theorem Acb (key K:ByteArray) (h:K=(⟨#[32]⟩:ByteArray) ++ key) (hk:key.size<=100) (W:World):(Op.stringOp .add ⟨#[32]⟩ key).run prog W=.ok (.string K) W:=by
 rw [h];exact run_string_add_sum W _ _ (by show 1+key.size<=_;omega)
theorem Apc (t:Value) (C:Nat) (s:ByteArray) (w:World) (hT:Table w t) (hC:CI C { Cmd.zero with verb:=3 } w) (hs:s.size<=510) :
  Calls prog 40 #[t,.pointer (some ⟨C,0,none⟩),.string s] w (G9 C (Cmd.Mo false s.data.toList) w):=by
 obtain ⟨r,hr⟩:∃ r,r=Cmd.Mo false s.data.toList:=⟨_,rfl⟩
 rw [<- hr];rw [Cmd.Arr] at hr;simp only [Bool.false_eq_true,if_false] at hr;have hT0:=hT;obtain ⟨b0,b1,b2,b3,rfl,-,-,-,-⟩:=hT0;obtain ⟨W0,hW0⟩:∃ W0,W0=w.alloc (.cells #[.slice (some ⟨b0,0,none⟩) 74 74,.slice (some ⟨b1,0,none⟩) 10 10,.slice (some ⟨b2,0,none⟩) 11 11,.slice (some ⟨b3,0,none⟩) 42 42] 35):=⟨_,rfl⟩
 have B0:Below w.heap.size w W0:=by rw [hW0];exact Ab _ _
 have KR:=Z5 _ C _ s ⟨#[84,79,58]⟩ ⟨#[32,84,79,58]⟩ W0 (hT.below B0) (Ai.Ac hC B0) hs jD (Acb _ _ (ByteArray.ext (by simp [ByteArray.data_append])) jD);rw [show (⟨#[32,84,79,58]⟩:ByteArray).data.toList.map Af=Cmd.toK from rfl] at KR;have HW0:=jH hW0.symm;have OO:=jH (Az.of (g:=C) B0);generalize Cmd.Ij Cmd.toK s.data.toList=Q at KR hr;obtain ⟨E,p,q,k,x,y⟩:=Q;unfold Xo at KR;simp only at KR hr;have KR:=jH KR;clear hT hC B0 hW0 hs;by_cases hE:E=0
 case neg =>
  have HR:=jH (show r.1=E by rw [hr,if_pos hE]);have HN:=jH hE;have hEz:(E != 0)=true:=by simpa using hE
  clear hr hE;go_enter func40,ntmps40;go_wp2_with fail;rw [HW0.out];refine KR.out.mono ?_;rintro e w1 ⟨rfl,ho,-⟩;replace OO:=jH (OO.out.trans ho);clear ho;go_wp2;go_ret;exact Bx HR.out HN.out OO.out
 subst hE;rw [if_neg jD] at hr;cases k
 case true =>
  have HR:=jH (show r.1=553 by rw [hr];simp);clear hr;go_enter func40,ntmps40;go_wp2_with fail;rw [HW0.out];refine KR.out.mono ?_;rintro e w1 ⟨rfl,ho,hc⟩;replace OO:=jH (OO.out.trans ho);obtain ⟨-,-,c2,-⟩:=Ai.all (hc trivial);clear ho hc;go_wp2;go_ret;exact Bx HR.out jD OO.out
 rw [if_neg jS] at hr;by_cases hq:q=[]
 ·subst hq;have HR:=jH (show r=(0,Cmd.start false false x y) from hr);clear hr;go_enter func40,ntmps40;go_wp2_with fail;rw [HW0.out];refine KR.out.mono ?_;rintro e w1 ⟨rfl,ho,hc⟩;replace OO:=jH (OO.out.trans ho);have HC:=jH (hc trivial);obtain ⟨-,-,c2,-⟩:=Ai.all (hc trivial);clear ho hc;go_wp2;go_ret;exact ⟨by rw [HR.out];rfl,OO.out,λ_=>by rw [HR.out];exact HC.out⟩
 ·have HR:=jH (show r.1=555 by
   rw [hr];cases q with
   | nil=>exact absurd rfl hq
   | cons b u=>rfl)
  obtain ⟨BQ,hBQ⟩:∃ u:ByteArray,u=⟨q.toArray⟩:=⟨_,rfl⟩
  have hbz:¬ BQ.size=0:=λh=>hq (by
   have h1:=congrArg (λu:ByteArray=>u.data.toList) ((Fw h).symm.trans hBQ);exact h1.symm)
  obtain ⟨e1,e2,-⟩:=Fc hbz;rw [<- hBQ] at KR;clear hr hq hBQ hbz;go_enter func40,ntmps40;go_wp2_with fail;rw [HW0.out];refine KR.out.mono ?_;rintro e w1 ⟨rfl,ho,hc⟩;replace OO:=jH (OO.out.trans ho);obtain ⟨-,-,c2,-⟩:=Ai.all (hc trivial);clear ho hc;go_wp2;go_ret;exact Bx HR.out jD OO.out
theorem Apb (t:Value) (C:Nat) (s:ByteArray) (w:World) (hT:Table w t) (hC:CI C { Cmd.zero with verb:=2 } w) (hs:s.size<=510) :
  Calls prog 39 #[t,.pointer (some ⟨C,0,none⟩),.string s] w (G9 C (Cmd.Mo true s.data.toList) w):=by
 obtain ⟨r,hr⟩:∃ r,r=Cmd.Mo true s.data.toList:=⟨_,rfl⟩
 rw [<- hr];rw [Cmd.Arr] at hr;simp only [if_true] at hr;have hT0:=hT;obtain ⟨b0,b1,b2,b3,rfl,-,-,-,-⟩:=hT0;obtain ⟨W0,hW0⟩:∃ W0,W0=w.alloc (.cells #[.slice (some ⟨b0,0,none⟩) 74 74,.slice (some ⟨b1,0,none⟩) 10 10,.slice (some ⟨b2,0,none⟩) 11 11,.slice (some ⟨b3,0,none⟩) 42 42] 35):=⟨_,rfl⟩
 have B0:Below w.heap.size w W0:=by rw [hW0];exact Ab _ _
 have KR:=Z5 _ C _ s ⟨#[70,82,79,77,58]⟩ ⟨#[32,70,82,79,77,58]⟩ W0 (hT.below B0) (Ai.Ac hC B0) hs jD (Acb _ _ (ByteArray.ext (by simp [ByteArray.data_append])) jD);rw [show (⟨#[32,70,82,79,77,58]⟩:ByteArray).data.toList.map Af=Cmd.Hd from rfl] at KR;have HW0:=jH hW0.symm;have OO:=jH (Az.of (g:=C) B0);have hlen:=Cmd.Z7 Cmd.Hd s.data.toList;have hsl:s.data.toList.length=s.size:=by simp
 generalize Cmd.Ij Cmd.Hd s.data.toList=Q at KR hr hlen;obtain ⟨E,p,q,k,x,y⟩:=Q;unfold Xo at KR;simp only at KR hr hlen;have KR:=jH KR;clear hT hC B0 hW0;by_cases hE:E=0
 case neg =>
  have HR:=jH (show r.1=E by rw [hr,if_pos hE]);have HN:=jH hE;have hEz:(E != 0)=true:=by simpa using hE
  clear hr hE hlen hsl hs;go_enter func39,ntmps39;go_wp2_with fail;rw [HW0.out];refine KR.out.mono ?_;rintro e w1 ⟨rfl,ho,-⟩;replace OO:=jH (OO.out.trans ho);clear ho;go_wp2;go_ret;exact Bx HR.out HN.out OO.out
 subst hE;rw [if_neg jD,if_neg jS,Cmd.Awq] at hr;obtain ⟨BP,hBP⟩:∃ u:ByteArray,u=⟨p.toArray⟩:=⟨_,rfl⟩
 obtain ⟨BQ,hBQ⟩:∃ u:ByteArray,u=⟨q.toArray⟩:=⟨_,rfl⟩
 have hqs:BQ.size<=1000:=by rw [hBQ];show q.toArray.size<=_;rw [List.size_toArray];omega
 have hps:BP.size<=1000:=by rw [hBP];show p.toArray.size<=_;rw [List.size_toArray];omega
 have KP:=λW (h:CI C (Cmd.start true k x y) W)=>Agq C _ BQ W h hqs;rw [show BQ.data.toList=q by rw [hBQ]] at KP;have KE:=λW=>Hi BP W jO;rw [show BP.data.toList=p by rw [hBP]] at KE;rw [<- hBP,<- hBQ] at KR;generalize Cmd.Aux (Cmd.start true k x y) q=R at KP hr;obtain ⟨F,c2⟩:=R;unfold G9 at KP;simp only at KP hr;have KP:=jH KP;clear hBP hBQ hqs hps hlen hsl hs;by_cases hF:F=0
 case neg =>
  have HR:=jH (show r.1=F by rw [hr,if_pos hF]);have HN:=jH hF;have hFz:(F != 0)=true:=by simpa using hF
  clear hr hF KE;go_enter func39,ntmps39;go_wp2_with fail;rw [HW0.out];refine KR.out.mono ?_;rintro e w1 ⟨rfl,ho,hc⟩;replace OO:=jH (OO.out.trans ho);have HC:=jH (hc trivial);clear ho hc;go_wp2_with fail;refine (KP.out _ HC.out).mono ?_;rintro e w2 ⟨rfl,ho,-⟩;replace OO:=jH (OO.out.trans ho);clear ho;go_wp2;go_ret;exact Bx HR.out HN.out OO.out
 subst hF;rw [if_neg jD] at hr;unfold Cmd.low at hr;generalize hg:Ao p=g at KE hr;have hgc:(g=-1/\(0<=g)=False)\/(g ≠ -1/\0<=g):=by
  rcases Lab.Gg p with ⟨-,h⟩ | ⟨-,h⟩
  ·exact .inl ⟨hg.symm.trans h,by rw [<- hg,h];simp⟩
  ·exact .inr ⟨by omega,by omega⟩
 have KE:=jH KE;clear hg;have hfin:(0<=g/\c2.wide=false/\r.1=553)\/(0<=g/\c2.wide=true/\r=(0,c2))\/(¬ 0<=g/\r=(0,c2)):=by
  rcases hgc with ⟨h1,h2⟩ | ⟨h1,h2⟩
  ·refine .inr (.inr ⟨by rw [h2];exact id,?_⟩);rw [hr,if_neg];rintro ⟨-,h⟩;exact h h1
  ·cases hw:c2.wide
   ·refine .inl ⟨h2,rfl,?_⟩;rw [hr,if_pos ⟨hw,h1⟩]
   ·refine .inr (.inl ⟨h2,rfl,?_⟩);rw [hr,if_neg];rintro ⟨h,-⟩;rw [hw] at h;cases h
 clear hr hgc;rcases hfin with ⟨g0,hw,hr⟩ | ⟨g0,hw,hr⟩ | ⟨g0,hr⟩
 all_goals
  have HR:=jH hr;clear hr;go_enter func39,ntmps39;go_wp2_with fail;rw [HW0.out];refine KR.out.mono ?_;rintro e w1 ⟨rfl,ho,hc⟩;replace OO:=jH (OO.out.trans ho);have HC:=jH (hc trivial);clear ho hc;go_wp2_with fail;refine (KP.out _ HC.out).mono ?_;rintro e w2 ⟨rfl,ho,hc⟩;replace OO:=jH (OO.out.trans ho);replace HC:=jH (hc trivial);obtain ⟨-,-,-,-,-,-,-,c7⟩:=Ai.all (hc trivial)
  try rw [hw] at c7
  clear ho hc;go_wp2_with fail;refine (KE.out _).mono ?_;rintro e w3 ⟨rfl,rfl⟩;go_wp2;go_ret
  first
   | exact Bx HR.out jD OO.out
   | exact ⟨by rw [HR.out];rfl,OO.out,λ_=>by rw [HR.out];exact HC.out⟩
theorem Va {P:Program} {w:World} {a:Addr} {m:Mode} (f:Fn) (u v:Array Value):(store a (.func f u v) m).run P w=stored P w a (.func f u v) m:=run_store P w a _ m rfl
attribute [local go_sem] Va
theorem Avn (w:World):Calls prog 27 #[] w λr w'=>r=.returned (.agg #[.func (.func 38) #[] #[],.func (.func 38) #[] #[],.func (.func 39) #[] #[],.func (.func 40) #[] #[],.func (.func 41) #[] #[],.func (.func 41) #[] #[],.func (.func 42) #[] #[],.func (.func 41) #[] #[]])/\Below w.heap.size w w':=by
 obtain ⟨W,hW⟩:∃ W,w.alloc (.cells #[.func (.func 38) #[] #[],.func (.func 38) #[] #[],.func (.func 39) #[] #[],.func (.func 40) #[] #[],.func (.func 41) #[] #[],.func (.func 41) #[] #[],.func (.func 42) #[] #[],.func (.func 41) #[] #[]] 59)=W:=⟨_,rfl⟩
 have B0:=Ab w (.cells #[.func (.func 38) #[] #[],.func (.func 38) #[] #[],.func (.func 39) #[] #[],.func (.func 40) #[] #[],.func (.func 41) #[] #[],.func (.func 41) #[] #[],.func (.func 42) #[] #[],.func (.func 41) #[] #[]] 59);have hb:(w.alloc (.cells #[.func (.func 38) #[] #[],.func (.func 38) #[] #[],.func (.func 39) #[] #[],.func (.func 40) #[] #[],.func (.func 41) #[] #[],.func (.func 41) #[] #[],.func (.func 42) #[] #[],.func (.func 41) #[] #[]] 59)).heap[w.heap.size]? = some (.cells #[.func (.func 38) #[] #[],.func (.func 38) #[] #[],.func (.func 39) #[] #[],.func (.func 40) #[] #[],.func (.func 41) #[] #[],.func (.func 41) #[] #[],.func (.func 42) #[] #[],.func (.func 41) #[] #[]] 59 (0,0)):=heap_alloc_new w _;rw [hW] at B0 hb;have c0:W.cell? ⟨w.heap.size,0,none⟩=some (.func (.func 38) #[] #[]):=by simp [World.cell?,hb]
 have c1:W.cell? ⟨w.heap.size,1,none⟩=some (.func (.func 38) #[] #[]):=by simp [World.cell?,hb]
 have c2:W.cell? ⟨w.heap.size,2,none⟩=some (.func (.func 39) #[] #[]):=by simp [World.cell?,hb]
 have c3:W.cell? ⟨w.heap.size,3,none⟩=some (.func (.func 40) #[] #[]):=by simp [World.cell?,hb]
 have c4:W.cell? ⟨w.heap.size,4,none⟩=some (.func (.func 41) #[] #[]):=by simp [World.cell?,hb]
 have c5:W.cell? ⟨w.heap.size,5,none⟩=some (.func (.func 41) #[] #[]):=by simp [World.cell?,hb]
 have c6:W.cell? ⟨w.heap.size,6,none⟩=some (.func (.func 42) #[] #[]):=by simp [World.cell?,hb]
 have c7:W.cell? ⟨w.heap.size,7,none⟩=some (.func (.func 41) #[] #[]):=by simp [World.cell?,hb]
 have BB:=jH B0;have HW:=jH hW;clear B0 hW hb;go_enter func27,ntmps27;go_wp2;rw [HW.out];exact bodyPost_ret (v:=.agg #[.func (.func 38) #[] #[],.func (.func 38) #[] #[],.func (.func 39) #[] #[],.func (.func 40) #[] #[],.func (.func 41) #[] #[],.func (.func 41) #[] #[],.func (.func 42) #[] #[],.func (.func 41) #[] #[]]) (by simp [results,results27,go_sem,c0,c1,c2,c3,c4,c5,c6,c7]) rfl ⟨rfl,BB.out⟩
end
