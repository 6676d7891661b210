import Derived.Test.YtickpkccpafjaaaGreatDoorLexA
import Derived.Test.YtickpkccpafjaaaGreatDoorDomMid
set_option maxRecDepth 100000
set_option maxHeartbeats 4000000
namespace Go.Proofs.YtickpkccpafjaaaGreatDoor
open Tryz
section
open Go.RowKit Utf
namespace Lex
theorem Yn (r:Cut) (x y:List UInt8) (a b:Nat):(r.on x a).on y b=r.on (y ++ x) (a+b):=by
 cases r<;>simp [Cut.on,Nat.add_assoc]
theorem Amx (r:Cut):r.on [] 0=r:=by cases r<;>rfl
def told (k:Nat):Cut->Value
 | .fine x n=>.tuple #[.string ⟨x.toArray⟩,.int .i64 ((k+n:Nat):Int),.int .i64 0]
 | .bad i=>.tuple #[.string ⟨#[]⟩,.int .i64 ((k+i:Nat):Int),.int .i64 4]
 | .deep i=>.tuple #[.string ⟨#[]⟩,.int .i64 ((k+i:Nat):Int),.int .i64 6]
 | .gap=>.tuple #[.string ⟨#[]⟩,.int .i64 (k:Int),.int .i64 4]
theorem Oj {s:ByteArray} {a j:Nat} (h1:a<=j) (h2:j<s.size):(s.data.toList.drop a).take (j+1 - a)=(s.data.toList.drop a).take (j - a) ++ [s[j]]:=by
 rw [show j+1 - a=(j - a)+1 by omega,List.take_add_one,List.getElem?_drop,show a+(j - a)=j by omega,List.getElem?_eq_getElem (by simpa using h2)];rfl
def Qi (s:ByteArray) (a j:Nat):Prop:=lit (s.data.toList.drop a)=(lit (s.data.toList.drop j)).on ((s.data.toList.drop a).take (j - a)) (j - a)
theorem A0f (s:ByteArray) (a:Nat):Qi s a a:=by
 unfold Qi;rw [Nat.sub_self,List.take_zero,Amx]
theorem Ye (c:UInt8) (t:List UInt8):lit (c::t)=if c.toNat=93 then .fine [] 1 else if G9 c.toNat=true/\c.toNat ≠ 91/\c.toNat ≠ 92 then (lit t).on [c] 1 else .bad 0:=by rw [lit]
theorem Ar1 {s:ByteArray} {a j:Nat} (h:Qi s a j) (hj:j<s.size) (hc:s[j].toNat=93):lit (s.data.toList.drop a)=.fine ((s.data.toList.drop a).take (j - a)) (j - a+1):=by
 rw [h,Av s j hj,Ye,if_pos hc];simp [Cut.on];omega
theorem Tt {s:ByteArray} {a j:Nat} (h:Qi s a j) (hj:j<s.size) (hc:s[j].toNat ≠ 93) (hb:¬ (G9 s[j].toNat=true/\s[j].toNat ≠ 91/\s[j].toNat ≠ 92)):lit (s.data.toList.drop a)=.bad (j - a):=by
 rw [h,Av s j hj,Ye,if_neg hc,if_neg hb];simp [Cut.on]
theorem Awu {s:ByteArray} {a j:Nat} (h:Qi s a j) (h1:a<=j) (hj:j<s.size) (hc:s[j].toNat ≠ 93) (hb:G9 s[j].toNat=true/\s[j].toNat ≠ 91/\s[j].toNat ≠ 92):Qi s a (j+1):=by
 unfold Qi at h ⊢;rw [h,Av s j hj,Ye,if_neg hc,if_pos hb,Yn,Oj h1 hj,show 1+(j - a)=j+1 - a by omega]
theorem Ar2 {s:ByteArray} {a:Nat} (h:Qi s a s.size):lit (s.data.toList.drop a)=.gap:=by
 rw [h,show s.data.toList.drop s.size=[] from List.drop_of_length_le jS];rfl
theorem Adl {k n:Nat} {x:List UInt8} {s:ByteArray} {i j:Nat} {m:Int} (hs:s.extract i j=⟨x.toArray⟩) (hm:((k+1+n:Nat):Int)=m):told k (Cut.top (.fine x n))=.tuple #[.string (s.extract i j),.int .i64 m,.int .i64 0]:=by
 subst hm;rw [hs];show Value.tuple #[_,.int .i64 ((k+(n+1):Nat):Int),_]=_;rw [show k+(n+1)=k+1+n by omega]
theorem Nv {k i:Nat} {m:Int} (hm:((k+1+i:Nat):Int)=m):told k (Cut.top (.bad i))=.tuple #[.string ⟨#[]⟩,.int .i64 m,.int .i64 4]:=by
 subst hm;show Value.tuple #[_,.int .i64 ((k+(i+1):Nat):Int),_]=_;rw [show k+(i+1)=k+1+i by omega]
theorem Aub {k i:Nat} {m:Int} (hm:((k+1+i:Nat):Int)=m):told k (Cut.top (.deep i))=.tuple #[.string ⟨#[]⟩,.int .i64 m,.int .i64 6]:=by
 subst hm;show Value.tuple #[_,.int .i64 ((k+(i+1):Nat):Int),_]=_;rw [show k+(i+1)=k+1+i by omega]
end Lex
theorem Aic (s:ByteArray) (k:Nat) (hk:k<s.size) (w:World) (hs:s.size<=100000) :
  Calls prog 90 #[.string s,.int .i64 k] w λe w'=>e=.returned (Lex.told k (Lex.lit (s.data.toList.drop (k+1))).top)/\w=w':=by
 obtain ⟨R,hR⟩:∃ R,R=Lex.told k (Lex.lit (s.data.toList.drop (k+1))).top:=⟨_,rfl⟩
 rw [<- hR];have HR:=jH hR;clear hR;go_enter func90,ntmps90;go_wp2;go_loopg [7] (s.size+1) (λgk s7 wr=>∃ j:Nat,s7=.int .i64 j/\k+1<=j/\j<=s.size/\s.size - j<gk/\Hid (Lex.Qi s (k+1) j)/\w=wr)
 case atStart=>exact ⟨k+1,by go_num,jaa _,by omega,by omega,jH (Lex.A0f _ _),rfl⟩
 case round =>
  obtain ⟨j,rfl,hj1,hj,hg,I,rfl⟩:=hrel;by_cases hlt:j<s.size
  ·have hjz:(j:Int)<(s.size:Int):=jO
   by_cases h93:s[j].toNat=93
   ·have E:Hid (R=.tuple #[.string (s.extract (k+1) j),.int .i64 ((j:Int)+1),.int .i64 0]):=jH (by
     rw [HR.out,Lex.Ar1 I.out hlt h93];exact Lex.Adl (by rw [<- Lex.Ui]) jO)
    have hkj:(k:Int)+1<=(j:Int):=jO
    clear I;go_wp2;go_ret3;exact ⟨congrArg Ending.returned E.out.symm,rfl⟩
   ·have h93z:((s[j].toNat:Int) == 93)=false:=by simpa using (by omega:¬ (s[j].toNat:Int)=93)
    have K:=O9 s[j] w;by_cases h91:s[j].toNat=91
    ·have E:Hid (R=.tuple #[.string ⟨#[]⟩,.int .i64 (j:Int),.int .i64 4]):=jH (by
      rw [HR.out,Lex.Tt I.out hlt h93 (λh=>h.2.1 h91)];exact Lex.Nv jO)
     clear I h93 K;go_wp2;go_ret3;exact ⟨congrArg Ending.returned E.out.symm,rfl⟩
    ·have h91z:((s[j].toNat:Int) == 91)=false:=by simpa using (by omega:¬ (s[j].toNat:Int)=91)
     by_cases h92:s[j].toNat=92
     ·have E:Hid (R=.tuple #[.string ⟨#[]⟩,.int .i64 (j:Int),.int .i64 4]):=jH (by
       rw [HR.out,Lex.Tt I.out hlt h93 (λh=>h.2.2 h92)];exact Lex.Nv jO)
      clear I h93 h91 K;go_wp2;go_ret3;exact ⟨congrArg Ending.returned E.out.symm,rfl⟩
     ·have h92z:((s[j].toNat:Int) == 92)=false:=by simpa using (by omega:¬ (s[j].toNat:Int)=92)
      cases hp:Lex.G9 s[j].toNat with
      | false =>
       rw [hp] at K;have K:=jH K;have E:Hid (R=.tuple #[.string ⟨#[]⟩,.int .i64 (j:Int),.int .i64 4]):=jH (by
        rw [HR.out,Lex.Tt I.out hlt h93 (λh=>by rw [hp] at h;exact Bool.noConfusion h.1)];exact Lex.Nv jO)
       clear I h93 h91 h92 hp;go_wp2_with (go_at_call 127;with_reducible refine K.out.mono ?_;rintro e w1 ⟨rfl,rfl⟩);go_ret3;exact ⟨congrArg Ending.returned E.out.symm,rfl⟩
      | true =>
       rw [hp] at K;have K:=jH K;have I2:=jH (Lex.Awu I.out hj1 hlt h93 ⟨hp,h91,h92⟩);clear I h93 h91 h92 hp;go_wp2_with (go_at_call 127;with_reducible refine K.out.mono ?_;rintro e w1 ⟨rfl,rfl⟩);go_roundg (s.size - j)
       case measure=>omega
       case rel=>exact ⟨j+1,by go_num,by omega,by omega,by omega,I2,rfl⟩
  ·obtain rfl:j=s.size:=jO
   have E:Hid (R=.tuple #[.string ⟨#[]⟩,.int .i64 (k:Int),.int .i64 4]):=jH (by rw [HR.out,Lex.Ar2 I.out];rfl);have hjz:¬ (s.size:Int)<(s.size:Int):=jO
   clear I;go_wp2;go_ret3;exact ⟨congrArg Ending.returned E.out.symm,rfl⟩
namespace Lex
theorem A19 (c:UInt8) (t:List UInt8) (h34:c.toNat ≠ 34) (h92:c.toNat ≠ 92):quo (c::t)=if Ao c then (quo t).on [c] 1 else .bad 0:=by
 rw [quo.eq_def];simp only [if_neg h34,if_neg h92]
theorem Axt (c:UInt8) (t:List UInt8) (h92:c.toNat=92):quo (c::t)=match t with | []=>.gap | d::r=>if Ao d then (quo r).on [d] 2 else .bad 1:=by
 rw [quo.eq_def];simp only [if_neg (show ¬ c.toNat=34 by omega),if_pos h92];cases t<;>rfl
theorem As0 (c:UInt8) (t:List UInt8) (h34:c.toNat=34):quo (c::t)=.fine [] 1:=by
 rw [quo.eq_def];simp only [if_pos h34]
def Aa0 (s:ByteArray) (a j:Nat) (x:List UInt8):Prop:=(j<s.size->quo (s.data.toList.drop a)=(quo (s.data.toList.drop j)).on x (j - a))/\(j=s.size->quo (s.data.toList.drop a)=.gap)
theorem A0p {s:ByteArray} {a:Nat}:Aa0 s a a []:=by
 refine ⟨λ_=>by rw [Nat.sub_self,Amx],λh=>?_⟩;rw [h,show s.data.toList.drop s.size=[] from List.drop_of_length_le jS];rfl
theorem Asz {s:ByteArray} {a j:Nat} {x:List UInt8} (h:Aa0 s a j x) (hj:j<s.size) (hc:s[j].toNat=34):quo (s.data.toList.drop a)=.fine x (j - a+1):=by
 rw [h.1 hj,Av s j hj,As0 _ _ hc];simp [Cut.on];omega
theorem Am9 {s:ByteArray} {a j m:Nat} {x:List UInt8} (h:Aa0 s a j x) (h1:a<=j) (hj:j<s.size) (hc:s[j].toNat ≠ 34) (hm:m=if s[j].toNat=92/\j+1<s.size then j+1 else j) (hmz:m<s.size) :
  (Ao s[m]=false->quo (s.data.toList.drop a)=.bad (m - a))/\(Ao s[m]=true->Aa0 s a (m+1) (x ++ [s[m]])):=by
 have h0:=h.1 hj;have hend:s.data.toList.drop s.size=[]:=List.drop_of_length_le jS;by_cases h92:s[j].toNat=92
 ·by_cases h2:j+1<s.size
  ·rw [if_pos ⟨h92,h2⟩] at hm;subst hm;rw [Av s j hj,Axt _ _ h92,Av s (j+1) h2] at h0;simp only at h0;constructor
   ·intro hf;rw [if_neg (by rw [hf];decide)] at h0;rw [h0];show Cut.bad (1+(j - a))=_;rw [show 1+(j - a)=j+1 - a by omega]
   ·intro hf;rw [if_pos hf,Yn,show 2+(j - a)=j+1+1 - a by omega] at h0;refine ⟨λ_=>h0,λhe=>?_⟩;rw [h0,he,hend];rfl
  ·rw [if_neg (λh=>h2 h.2)] at hm;subst hm;have he:m+1=s.size:=jO
   have hf:Ao s[m]=true:=by unfold Ao;rw [h92];decide
   rw [Av s m hj,Axt _ _ h92,he,hend] at h0;refine ⟨λh=>(by rw [hf] at h;cases h),λ_=>⟨λh=>absurd h jO,λ_=>?_⟩⟩;rw [h0];rfl
 ·rw [if_neg (λh=>h92 h.1)] at hm;subst hm;rw [Av s m hj,A19 _ _ hc h92] at h0;constructor
  ·intro hf;rw [if_neg (by rw [hf];decide)] at h0;rw [h0];show Cut.bad (0+(m - a))=_;rw [Nat.zero_add]
  ·intro hf;rw [if_pos hf,Yn,show 1+(m - a)=m+1 - a by omega] at h0;refine ⟨λ_=>h0,λhe=>?_⟩;rw [h0,he,hend];rfl
theorem Ayw {k n:Nat} {x:List UInt8} {m:Int} (hm:((k+1+n:Nat):Int)=m):told k (Cut.top (.fine x n))=.tuple #[.string ⟨x.toArray⟩,.int .i64 m,.int .i64 0]:=by
 subst hm;show Value.tuple #[_,.int .i64 ((k+(n+1):Nat):Int),_]=_;rw [show k+(n+1)=k+1+n by omega]
end Lex
theorem As1 (s:ByteArray) (k:Nat) (hk:k<s.size) (w:World) (hs:s.size<=100000) :
  Calls prog 89 #[.string s,.int .i64 k] w λe w'=>e=.returned (Lex.told k (Lex.quo (s.data.toList.drop (k+1))).top)/\Below w.heap.size w w':=by
 obtain ⟨R,hR⟩:∃ R,R=Lex.told k (Lex.quo (s.data.toList.drop (k+1))).top:=⟨_,rfl⟩
 rw [<- hR];have HR:=jH hR;clear hR;go_enter func89,ntmps89;go_wp2;go_loopg [7,8] (s.size+1) (λgk s7 s8 wr=>∃ (j:Nat) (x:List UInt8),s8=.int .i64 j/\k+1<=j/\j<=s.size/\s.size - j<gk/\Hid (Lex.Aa0 s (k+1) j x/\Bo w.heap.size s7 x wr/\x.length<=j/\Below w.heap.size w wr))
 case atStart=>exact ⟨k+1,[],by go_num,jaa _,by omega,by omega,jH ⟨Lex.A0p,Bo.nil _ _,Nat.zero_le _,jan _ _⟩⟩
 case round =>
  obtain ⟨j,x,rfl,hj1,hj,hg,I⟩:=hrel;by_cases hlt:j<s.size
  ·have hjz:(j:Int)<(s.size:Int):=jO
   by_cases h34:s[j].toNat=34
   ·have E:Hid (R=.tuple #[.string ⟨x.toArray⟩,.int .i64 ((j:Int)+1),.int .i64 0]):=jH (by
     rw [HR.out,Lex.Asz I.out.1 hlt h34];exact Lex.Ayw jO)
    have hcv:=I8 I.out.2.1.bytes;go_wp2;go_ret3;exact ⟨congrArg Ending.returned E.out.symm,I.out.2.2.2⟩
   ·have h34z:((s[j].toNat:Int) == 34)=false:=by simpa using (by omega:¬ (s[j].toNat:Int)=34)
    have K:=Aci s j hlt wr hs;obtain ⟨m,hm⟩:∃ m,m=if s[j].toNat=92/\j+1<s.size then j+1 else j:=⟨_,rfl⟩
    rw [<- hm] at K;have hmz:m<s.size/\j<=m:=by
     rw [hm];split
     ·rename_i h;exact ⟨h.2,by omega⟩
     ·exact ⟨hlt,jaa _⟩
    obtain ⟨hm1,hjm⟩:=hmz;have N:=Lex.Am9 I.out.1 hj1 hlt h34 hm hm1;have K:=jH K;have hmi:(m:Int)<(s.size:Int):=jO
    have KT:=Xy s[m] wr;clear hm h34;cases hf:Lex.Ao s[m] with
    | false =>
     have E:Hid (R=.tuple #[.string ⟨#[]⟩,.int .i64 (m:Int),.int .i64 4]):=jH (by
      rw [HR.out,N.1 hf];exact Lex.Nv jO)
     rw [hf] at KT;have KT:=jH KT;clear N hf;go_wp2_with (first | (go_at_call 125;with_reducible refine K.out.mono ?_;rintro e w1 ⟨rfl,rfl⟩) | (go_at_call 126;with_reducible refine KT.out.mono ?_;rintro e w1 ⟨rfl,rfl⟩));go_ret3;exact ⟨congrArg Ending.returned E.out.symm,I.out.2.2.2⟩
    | true =>
     have N2:=jH (N.2 hf);rw [hf] at KT;have KT:=jH KT;have hxl:x.length<=1000000:=by have:=I.out.2.2.1;omega
     clear N hf;go_wp2_with (first
      | (go_at_call 125;with_reducible refine K.out.mono ?_;rintro e w1 ⟨rfl,rfl⟩)
      | (go_at_call 126;with_reducible refine KT.out.mono ?_;rintro e w1 ⟨rfl,rfl⟩)
      | (at_builtin;refine Cw _ 98 5 (.int .u8 0) 1 underlying98 Fb rfl jO w.heap.size u7 _ _ I.out.2.1 I.out.2.2.2.size hxl 1 jO _ rfl rfl rfl _ _ rfl rfl rfl ?_;intro v2 w2 ho2 hb2;have HO:=jH ho2;have HB2:=jH hb2;clear ho2 hb2))
     have I2:Hid (Lex.Aa0 s (k+1) (m+1) (x ++ [s[m]])/\Bo w.heap.size v2 (x ++ [s[m]]) w2/\(x ++ [s[m]]).length<=m+1/\Below w.heap.size w w2) :=
      jH ⟨N2.out,Bo.more HO.out rfl rfl,by rw [jab];have:=I.out.2.2.1;simp;omega,I.out.2.2.2.trans HB2.out⟩
     go_roundg (s.size - j)
     case measure=>omega
     case rel=>exact ⟨m+1,x ++ [s[m]],by go_num,by omega,by omega,by omega,I2⟩
  ·obtain rfl:j=s.size:=jO
   have E:Hid (R=.tuple #[.string ⟨#[]⟩,.int .i64 (k:Int),.int .i64 4]):=jH (by rw [HR.out,I.out.1.2 rfl];rfl);have hjz:¬ (s.size:Int)<(s.size:Int):=jO
   go_wp2;go_ret3;exact ⟨congrArg Ending.returned E.out.symm,I.out.2.2.2⟩
end
section
open Go.RowKit Utf
section
variable {P:Program} {Q:Exit->Act->World->Prop} {a:Act} {w:World}
def A1c (l m:Nat) (J K:Act->World->Prop) (Q:Exit->Act->World->Prop):Exit->Act->World->Prop
 | .goto l',a,w=>(l'=l/\J a w)\/(l'=m/\K a w)
 | e,a,w=>Q e a w
theorem Aul {c r1 r2:Code} (l m:Nat) (h1:findLabel c l=some r1) (h2:findLabel c m=some r2)
  (h:c.wp P (A1c l m (λa' w'=>r1.wp P (Exit.noGoto Q) a' w') (λa' w'=>r2.wp P (Exit.noGoto Q) a' w') Q) a w):(Code.scope c).wp P Q a w:=by
 intro b k cs;have key:∀ (r:Code) (a:Act) (w:World),r.wp P (Exit.noGoto Q) a w->∃ e a' w',Q e a' w'/\Arrives P (lone (b.at a (.code r::.inScope c::k)) cs w) b k cs e a' w':=by
  intro r a w hr;obtain ⟨e,a₁,w₁,hq,harr⟩:=hr b (.inScope c::k) cs;cases e with
  | normal=>exact ⟨.normal,a₁,w₁,hq,Steps.trans harr (.one step_inScope)⟩
  | exit id=>exact ⟨.exit id,a₁,w₁,hq,λk' hk=>harr k' (by simp [exitTo,hk])⟩
  | goto l'=>exact hq.elim
  | ret=>exact ⟨_,a₁,w₁,hq,harr⟩
  | panic ch=>exact ⟨_,a₁,w₁,hq,harr⟩
  | outgrown=>exact ⟨_,a₁,w₁,hq,harr⟩
 obtain ⟨e,a₁,w₁,hq,harr⟩:=h b (.inScope c::k) cs;cases e with
 | normal=>exact ⟨.normal,a₁,w₁,hq,.head step_scope (Steps.trans harr (.one step_inScope))⟩
 | exit id=>exact ⟨.exit id,a₁,w₁,hq,λk' hk=>.head step_scope (harr k' (by simp [exitTo,hk]))⟩
 | goto l' =>
  rcases hq with ⟨rfl,hJ⟩ | ⟨rfl,hK⟩
  ·obtain ⟨e₂,a₂,w₂,hq₂,harr₂⟩:=key _ a₁ w₁ hJ;exact ⟨e₂,a₂,w₂,hq₂,.of_steps (.head step_scope (harr _ (by simp [gotoIn,h1]))) harr₂⟩
  ·obtain ⟨e₂,a₂,w₂,hq₂,harr₂⟩:=key _ a₁ w₁ hK;exact ⟨e₂,a₂,w₂,hq₂,.of_steps (.head step_scope (harr _ (by simp [gotoIn,h2]))) harr₂⟩
 | ret=>exact ⟨_,a₁,w₁,hq,.of_steps (.one step_scope) harr⟩
 | panic ch=>exact ⟨_,a₁,w₁,hq,.of_steps (.one step_scope) harr⟩
 | outgrown=>exact ⟨_,a₁,w₁,hq,.of_steps (.one step_scope) harr⟩
theorem Ars (l m:Nat) (J K:Act->World->Prop):A1c l m J K Q .ret a w=Q .ret a w:=rfl
end
namespace Lex
def Ge (s:ByteArray) (a j d:Nat):Prop:=(j<s.size->note (s.data.toList.drop a) 1=(note (s.data.toList.drop j) d).on ((s.data.toList.drop a).take (j - a)) (j - a))/\(j=s.size->note (s.data.toList.drop a) 1=.gap)
theorem Km (s:ByteArray):s.data.toList.drop s.size=[]:=List.drop_of_length_le jS
theorem Axb {s:ByteArray} {a:Nat}:Ge s a a 1:=by
 refine ⟨λ_=>by rw [Nat.sub_self,List.take_zero,Amx],λh=>?_⟩;rw [h,Km];rfl
theorem Aim {s:ByteArray} {a j d:Nat} (h:Ge s a j d) (hj:j<s.size) (hc:s[j].toNat=40) (hd:32<=d):note (s.data.toList.drop a) 1=.deep (j - a):=by
 rw [h.1 hj,Av s j hj,Ae2 hc,if_pos hd];show Cut.deep (0+(j - a))=_;rw [Nat.zero_add]
theorem Asj {s:ByteArray} {a j d:Nat} (h:Ge s a j d) (h1:a<=j) (hj:j<s.size) (hc:s[j].toNat=40) (hd:¬ 32<=d):Ge s a (j+1) (d+1):=by
 have h0:=h.1 hj;rw [Av s j hj,Ae2 hc,if_neg hd,Yn,<- Oj h1 hj,show 1+(j - a)=j+1 - a by omega] at h0;refine ⟨λ_=>h0,λhe=>?_⟩;rw [h0,he,Km];rfl
theorem Amt {s:ByteArray} {a j d:Nat} (h:Ge s a j d) (hj:j<s.size) (hc:s[j].toNat=41) (hd:d<=1):note (s.data.toList.drop a) 1=.fine ((s.data.toList.drop a).take (j - a)) (j - a+1):=by
 rw [h.1 hj,Av s j hj,Wb hc,if_pos hd];simp [Cut.on];omega
theorem Amu {s:ByteArray} {a j d:Nat} (h:Ge s a j d) (h1:a<=j) (hj:j<s.size) (hc:s[j].toNat=41) (hd:¬ d<=1):Ge s a (j+1) (d - 1):=by
 have h0:=h.1 hj;rw [Av s j hj,Wb hc,if_neg hd,Yn,<- Oj h1 hj,show 1+(j - a)=j+1 - a by omega] at h0;refine ⟨λ_=>h0,λhe=>?_⟩;rw [h0,he,Km];rfl
theorem Ain {s:ByteArray} {a j m d:Nat} (h:Ge s a j d) (h1:a<=j) (hj:j<s.size) (hc:s[j].toNat ≠ 40) (hc2:s[j].toNat ≠ 41) (hm:m=if s[j].toNat=92/\j+1<s.size then j+1 else j) (hmz:m<s.size) :
  (Ao s[m]=false->note (s.data.toList.drop a) 1=.bad (m - a))/\(Ao s[m]=true->Ge s a (m+1) d):=by
 have h0:=h.1 hj;by_cases h92:s[j].toNat=92
 ·by_cases h2:j+1<s.size
  ·rw [if_pos ⟨h92,h2⟩] at hm;subst hm;rw [Av s j hj,Av s (j+1) h2,Apn h92] at h0;constructor
   ·intro hf;rw [if_neg (by rw [hf];decide)] at h0;rw [h0];show Cut.bad (1+(j - a))=_;rw [show 1+(j - a)=j+1 - a by omega]
   ·intro hf;have e2:(s.data.toList.drop a).take (j+1+1 - a)=(s.data.toList.drop a).take (j - a) ++ [s[j],s[j+1]]:=by
     rw [Oj jO h2,Oj h1 hj,jaq];rfl
    rw [if_pos hf,Yn,<- e2,show 2+(j - a)=j+1+1 - a by omega] at h0;refine ⟨λ_=>h0,λhe=>?_⟩;rw [h0,he,Km];rfl
  ·rw [if_neg (λh=>h2 h.2)] at hm;subst hm;have he:m+1=s.size:=jO
   have hf:Ao s[m]=true:=by unfold Ao;rw [h92];decide
   rw [Av s m hj,he,Km] at h0;refine ⟨λh=>(by rw [hf] at h;cases h),λ_=>⟨λh=>absurd h jO,λ_=>?_⟩⟩;rw [h0,note.eq_def];simp only [if_neg hc,if_neg hc2,if_pos h92];rfl
 ·rw [if_neg (λh=>h92 h.1)] at hm;subst hm;rw [Av s m hj,Apo hc hc2 h92] at h0;constructor
  ·intro hf;rw [if_neg (by rw [hf];decide)] at h0;rw [h0];show Cut.bad (0+(m - a))=_;rw [Nat.zero_add]
  ·intro hf;rw [if_pos hf,Yn,<- Oj h1 hj,show 1+(m - a)=m+1 - a by omega] at h0;refine ⟨λ_=>h0,λhe=>?_⟩;rw [h0,he,Km];rfl
end Lex
theorem Axc (s:ByteArray) (k:Nat) (hk:k<s.size) (hc:s[k].toNat=40) (w:World) (hs:s.size<=100000) :
  Calls prog 91 #[.string s,.int .i64 k] w λe w'=>e=.returned (Lex.told k (Lex.note (s.data.toList.drop (k+1)) 1).top)/\w=w':=by
 obtain ⟨R,hR⟩:∃ R,R=Lex.told k (Lex.note (s.data.toList.drop (k+1)) 1).top:=⟨_,rfl⟩
 rw [<- hR];have HR:=jH hR;clear hR;have HC:=jH hc;clear hc;go_enter func91,ntmps91;go_wp2;refine Aul 0 1 rfl rfl ?_;go_wp2;go_loopg [7,8,9] (s.size+1) (λgk s7 s8 s9 wr=>∃ j d:Nat,s7=.int .i64 d/\s8=.int .i64 j/\s9=.int .i64 4/\d<=32/\k<=j/\j<=s.size/\s.size - j<gk/\Hid ((j=k/\d=0)\/(k+1<=j/\1<=d/\Lex.Ge s (k+1) j d))/\w=wr)
 case atStart=>exact ⟨k,0,rfl,rfl,rfl,Nat.zero_le _,jaa _,by omega,by omega,jH (.inl ⟨rfl,rfl⟩),rfl⟩
 case round =>
  obtain ⟨j,d,rfl,rfl,rfl,hd,hj1,hj,hg,I,rfl⟩:=hrel;by_cases hlt:j<s.size
  ·have hjz:(j:Int)<(s.size:Int):=jO
   by_cases h40:s[j].toNat=40
   ·by_cases h32:32<=d
    ·have E:Hid (R=.tuple #[.string ⟨#[]⟩,.int .i64 (j:Int),.int .i64 6]):=jH (by
      rcases I.out with ⟨rfl,rfl⟩ | ⟨h1,h2,h3⟩
      ·omega
      ·rw [HR.out,Lex.Aim h3 hlt h40 h32];exact Lex.Aub jO)
     have h32z:(32:Int)<(d:Int)+1:=jO
     clear I;go_wp2;go_step3;refine .inl ⟨rfl,?_⟩;go_wp2;rw [Exit.noGoto_ret];go_ret3;exact ⟨congrArg Ending.returned E.out.symm,rfl⟩
    ·have I2:Hid ((j+1=k/\d+1=0)\/(k+1<=j+1/\1<=d+1/\Lex.Ge s (k+1) (j+1) (d+1))):=jH (by
      rcases I.out with ⟨rfl,rfl⟩ | ⟨h1,h2,h3⟩
      ·exact .inr ⟨jaa _,jaa _,Lex.Axb⟩
      ·exact .inr ⟨by omega,by omega,Lex.Asj h3 h1 hlt h40 h32⟩)
     have h32z:¬ (32:Int)<(d:Int)+1:=jO
     clear I;go_wp2;go_roundg (s.size - j)
     case measure=>omega
     case rel=>exact ⟨j+1,d+1,by go_num,by go_num,rfl,by omega,by omega,by omega,by omega,I2,rfl⟩
   ·have hI:k+1<=j/\1<=d/\Lex.Ge s (k+1) j d:=by
     rcases I.out with ⟨rfl,rfl⟩ | h
     ·exact absurd HC.out h40
     ·exact h
    obtain ⟨hkj,hd1,hN⟩:=hI;have h40z:((s[j].toNat:Int) == 40)=false:=by simpa using (by omega:¬ (s[j].toNat:Int)=40)
    by_cases h41:s[j].toNat=41
    ·by_cases hd2:d<=1
     ·have E:Hid (R=.tuple #[.string (s.extract (k+1) j),.int .i64 ((j:Int)+1),.int .i64 0]):=jH (by
       rw [HR.out,Lex.Amt hN hlt h41 hd2];exact Lex.Adl (by rw [<- Lex.Ui]) jO)
      have hdz:(d:Int) - 1=0:=jO
      have hkjz:(k:Int)+1<=(j:Int):=jO
      clear I hN h40;go_wp2;go_step3;refine .inr ⟨rfl,?_⟩;go_wp2;rw [Exit.noGoto_ret];go_ret3;exact ⟨congrArg Ending.returned E.out.symm,rfl⟩
     ·have I2:Hid ((j+1=k/\d - 1=0)\/(k+1<=j+1/\1<=d - 1/\Lex.Ge s (k+1) (j+1) (d - 1))):=jH (.inr ⟨by omega,by omega,Lex.Amu hN hkj hlt h41 hd2⟩);have hdz:(((d:Int) - 1) == 0)=false:=by simpa using (by omega:¬ (d:Int) - 1=0)
      clear I hN h40;go_wp2;go_roundg (s.size - j)
      case measure=>omega
      case rel=>exact ⟨j+1,d - 1,by go_num,by go_num,rfl,by omega,by omega,by omega,by omega,I2,rfl⟩
    ·have h41z:((s[j].toNat:Int) == 41)=false:=by simpa using (by omega:¬ (s[j].toNat:Int)=41)
     have K:=Aci s j hlt w hs;obtain ⟨m,hm⟩:∃ m,m=if s[j].toNat=92/\j+1<s.size then j+1 else j:=⟨_,rfl⟩
     rw [<- hm] at K;have hmz:m<s.size/\j<=m:=by
      rw [hm];split
      ·rename_i h;exact ⟨h.2,by omega⟩
      ·exact ⟨hlt,jaa _⟩
     obtain ⟨hm1,hjm⟩:=hmz;have N:=Lex.Ain hN hkj hlt h40 h41 hm hm1;have K:=jH K;have hmi:(m:Int)<(s.size:Int):=jO
     have KT:=Xy s[m] w;clear hm h40 h41 hN I;cases hf:Lex.Ao s[m] with
     | false =>
      have E:Hid (R=.tuple #[.string ⟨#[]⟩,.int .i64 (m:Int),.int .i64 4]):=jH (by
       rw [HR.out,N.1 hf];exact Lex.Nv jO)
      rw [hf] at KT;have KT:=jH KT;clear N hf;go_wp2_with (first | (go_at_call 125;with_reducible refine K.out.mono ?_;rintro e w1 ⟨rfl,rfl⟩) | (go_at_call 126;with_reducible refine KT.out.mono ?_;rintro e w1 ⟨rfl,rfl⟩));go_step3;refine .inl ⟨rfl,?_⟩;go_wp2;rw [Exit.noGoto_ret];go_ret3;exact ⟨congrArg Ending.returned E.out.symm,rfl⟩
     | true =>
      have I2:Hid ((m+1=k/\d=0)\/(k+1<=m+1/\1<=d/\Lex.Ge s (k+1) (m+1) d)):=jH (.inr ⟨by omega,hd1,N.2 hf⟩);rw [hf] at KT;have KT:=jH KT;clear N hf;go_wp2_with (first | (go_at_call 125;with_reducible refine K.out.mono ?_;rintro e w1 ⟨rfl,rfl⟩) | (go_at_call 126;with_reducible refine KT.out.mono ?_;rintro e w1 ⟨rfl,rfl⟩));go_roundg (s.size - j)
      case measure=>omega
      case rel=>exact ⟨m+1,d,by go_num,by go_num,rfl,hd,by omega,by omega,by omega,I2,rfl⟩
  ·obtain rfl:j=s.size:=jO
   have E:Hid (R=.tuple #[.string ⟨#[]⟩,.int .i64 (k:Int),.int .i64 4]):=jH (by
    rcases I.out with ⟨h1,-⟩ | ⟨h1,h2,h3⟩
    ·omega
    ·rw [HR.out,h3.2 rfl];rfl)
   have hjz:¬ (s.size:Int)<(s.size:Int):=jO
   clear I;go_wp2;refine wp_label ?_;go_wp2;rw [Ars];go_ret3;exact ⟨congrArg Ending.returned E.out.symm,rfl⟩
end
section
open Go.RowKit Utf
namespace Lex
def Il:List UInt8->Int × Bool
 | []=>(0,false)
 | c::t =>
  if As c then (0,true)
  else if Fh c.toNat then (2,true)
  else if An (c::t) ≠ 0 then (4,true)
  else if c.toNat=34 then (1,true)
  else if c.toNat=91 then (5,true)
  else if c.toNat=40 then (3,true)
  else (0,false)
theorem Jl (c:UInt8) (t:List UInt8):(As c=true/\Il (c::t)=(0,true)/\one (c::t)=(0,.fine ((c::t).takeWhile As) ((c::t).takeWhile As).length)) \/
  (As c=false/\Fh c.toNat=true/\Il (c::t)=(2,true)/\one (c::t)=(2,.fine [c] 1)) \/
  (As c=false/\Fh c.toNat=false/\An (c::t) ≠ 0/\Il (c::t)=(4,true)/\one (c::t)=(4,.fine ((c::t).take (An (c::t))) (An (c::t)))) \/
  (As c=false/\Fh c.toNat=false/\An (c::t)=0/\c.toNat=34/\Il (c::t)=(1,true)/\one (c::t)=(1,(quo t).top)) \/
  (As c=false/\Fh c.toNat=false/\An (c::t)=0/\c.toNat ≠ 34/\c.toNat=91/\Il (c::t)=(5,true)/\one (c::t)=(5,(lit t).top)) \/
  (As c=false/\Fh c.toNat=false/\An (c::t)=0/\c.toNat ≠ 34/\c.toNat ≠ 91/\c.toNat=40/\Il (c::t)=(3,true)/\one (c::t)=(3,(note t 1).top)) \/
  (As c=false/\Fh c.toNat=false/\An (c::t)=0/\c.toNat ≠ 34/\c.toNat ≠ 91/\c.toNat ≠ 40/\Il (c::t)=(0,false)/\one (c::t)=(0,.bad 0)):=by
 cases h1:As c with
 | true=>exact .inl ⟨rfl,by rw [Il,if_pos h1],by rw [one,if_pos h1]⟩
 | false =>
  have n1:¬ As c=true:=by rw [h1];decide
  refine .inr ?_;cases h2:Fh c.toNat with
  | true=>exact .inl ⟨rfl,rfl,by rw [Il,if_neg n1,if_pos h2],by rw [one,if_neg n1,if_pos h2]⟩
  | false =>
   have n2:¬ Fh c.toNat=true:=by rw [h2];decide
   refine .inr ?_;by_cases h3:An (c::t) ≠ 0
   ·exact .inl ⟨rfl,rfl,h3,by rw [Il,if_neg n1,if_neg n2,if_pos h3],by rw [one,if_neg n1,if_neg n2,if_pos h3]⟩
   ·have h3':An (c::t)=0:=jO
    refine .inr ?_;by_cases h4:c.toNat=34
    ·exact .inl ⟨rfl,rfl,h3',h4,by rw [Il,if_neg n1,if_neg n2,if_neg h3,if_pos h4],by rw [one,if_neg n1,if_neg n2,if_neg h3,if_pos h4]⟩
    ·refine .inr ?_;by_cases h5:c.toNat=91
     ·exact .inl ⟨rfl,rfl,h3',h4,h5,by rw [Il,if_neg n1,if_neg n2,if_neg h3,if_neg h4,if_pos h5],by rw [one,if_neg n1,if_neg n2,if_neg h3,if_neg h4,if_pos h5]⟩
     ·refine .inr ?_;by_cases h6:c.toNat=40
      · exact .inl ⟨rfl,rfl,h3',h4,h5,h6,by rw [Il,if_neg n1,if_neg n2,if_neg h3,if_neg h4,if_neg h5,if_pos h6],by rw [one,if_neg n1,if_neg n2,if_neg h3,if_neg h4,if_neg h5,if_pos h6]⟩
      · exact .inr ⟨rfl,rfl,h3',h4,h5,h6,by rw [Il,if_neg n1,if_neg n2,if_neg h3,if_neg h4,if_neg h5,if_neg h6],by rw [one,if_neg n1,if_neg n2,if_neg h3,if_neg h4,if_neg h5,if_neg h6]⟩
end Lex
theorem Al9 (s:ByteArray) (k:Nat) (hk:k<s.size) (w:World) (hs:s.size<=100000) :
  Calls prog 88 #[.string s,.int .i64 k] w λe w'=>e=.returned (.tuple #[.int .i64 (Lex.Il (s.data.toList.drop k)).1,.bool (Lex.Il (s.data.toList.drop k)).2])/\w=w':=by
 have hkz:(k:Int)<(s.size:Int):=jO
 have hkl:(k:Int)<=(s.size:Int):=jO
 have KA:=Xv s[k] w;have KI:=Hj ⟨#[60,62,58,59,64,44,46]⟩ s[k] w;have hi:=Lex.Iq Lex.Ajr s[k];rw [Lex.Ayg] at hi;rw [show (ByteArray.mk #[60,62,58,59,64,44,46]).data.toList=Lex.Ajr from rfl] at KI;have KW:=Pd (s.extract k s.size) w (by rw [ByteArray.size_extract];omega);rw [Lex.Aei] at KW;have hw:=Lex.Aka (s.data.toList.drop k);rw [Av s k hk] at KW hw ⊢;generalize Lib.indexByte Lex.Ajr s[k]=i at KI hi;generalize Lex.Co (s[k]::s.data.toList.drop (k+1))=a at KW hw;have KI:=jH KI;have KW:=jH KW;rcases Lex.Jl s[k] (s.data.toList.drop (k+1)) with ⟨h1,e,-⟩ | ⟨h1,h2,e,-⟩ | ⟨h1,h2,h3,e,-⟩ | ⟨h1,h2,h3,h4,e,-⟩ | ⟨h1,h2,h3,h4,h5,e,-⟩ | ⟨h1,h2,h3,h4,h5,h6,e,-⟩ | ⟨h1,h2,h3,h4,h5,h6,e,-⟩
 ·rw [e];rw [h1] at KA;have KA:=jH KA;clear e h1 hw hi;go_enter func88,ntmps88;go_wp2_with fail;with_reducible refine KA.out.mono ?_
  rintro e w1 ⟨rfl,rfl⟩;go_wp2;go_ret2;exact ⟨rfl,rfl⟩
 ·rw [e];rw [h1] at KA;rw [h2] at hi;have KA:=jH KA;clear e h1 h2 hw;go_enter func88,ntmps88;go_wp2_with fail;with_reducible refine KA.out.mono ?_
  rintro e w1 ⟨rfl,rfl⟩;go_wp2_with fail;with_reducible refine KI.out.mono ?_
  rintro e w1 ⟨rfl,rfl⟩;go_wp2;go_ret2;exact ⟨rfl,rfl⟩
 ·rw [e];rw [h1] at KA;rw [h2] at hi;have KA:=jH KA;have hz:(0:Int)<(a:Int):=by have:0<a:=(by rw [hw];exact h3);omega
  clear e h1 h2 h3 hw;go_enter func88,ntmps88;go_wp2_with fail;with_reducible refine KA.out.mono ?_
  rintro e w1 ⟨rfl,rfl⟩;go_wp2_with fail;with_reducible refine KI.out.mono ?_
  rintro e w1 ⟨rfl,rfl⟩;go_wp2_with fail;with_reducible refine KW.out.mono ?_
  rintro e w1 ⟨rfl,rfl⟩;go_wp2;go_ret2;exact ⟨rfl,rfl⟩
 all_goals
  rw [e];rw [h1] at KA;rw [h2] at hi;have KA:=jH KA;have hz:¬ (0:Int)<(a:Int):=by
   have:¬ 0<a:=by rw [hw];exact λh=>h h3
   omega
  clear e h1 h2 h3 hw
 ·have e4:((s[k].toNat:Int) == 34)=true:=by simpa using (by omega:(s[k].toNat:Int)=34)
  clear h4;go_enter func88,ntmps88;go_wp2_with fail;with_reducible refine KA.out.mono ?_
  rintro e w1 ⟨rfl,rfl⟩;go_wp2_with fail;with_reducible refine KI.out.mono ?_
  rintro e w1 ⟨rfl,rfl⟩;go_wp2_with fail;with_reducible refine KW.out.mono ?_
  rintro e w1 ⟨rfl,rfl⟩;go_wp2;go_ret2;exact ⟨rfl,rfl⟩
 ·have e4:((s[k].toNat:Int) == 34)=false:=by simpa using (by omega:¬ (s[k].toNat:Int)=34)
  have e5:((s[k].toNat:Int) == 91)=true:=by simpa using (by omega:(s[k].toNat:Int)=91)
  clear h4 h5;go_enter func88,ntmps88;go_wp2_with fail;with_reducible refine KA.out.mono ?_
  rintro e w1 ⟨rfl,rfl⟩;go_wp2_with fail;with_reducible refine KI.out.mono ?_
  rintro e w1 ⟨rfl,rfl⟩;go_wp2_with fail;with_reducible refine KW.out.mono ?_
  rintro e w1 ⟨rfl,rfl⟩;go_wp2;go_ret2;exact ⟨rfl,rfl⟩
 ·have e4:((s[k].toNat:Int) == 34)=false:=by simpa using (by omega:¬ (s[k].toNat:Int)=34)
  have e5:((s[k].toNat:Int) == 91)=false:=by simpa using (by omega:¬ (s[k].toNat:Int)=91)
  have e6:((s[k].toNat:Int) == 40)=true:=by simpa using (by omega:(s[k].toNat:Int)=40)
  clear h4 h5 h6;go_enter func88,ntmps88;go_wp2_with fail;with_reducible refine KA.out.mono ?_
  rintro e w1 ⟨rfl,rfl⟩;go_wp2_with fail;with_reducible refine KI.out.mono ?_
  rintro e w1 ⟨rfl,rfl⟩;go_wp2_with fail;with_reducible refine KW.out.mono ?_
  rintro e w1 ⟨rfl,rfl⟩;go_wp2;go_ret2;exact ⟨rfl,rfl⟩
 ·have e4:((s[k].toNat:Int) == 34)=false:=by simpa using (by omega:¬ (s[k].toNat:Int)=34)
  have e5:((s[k].toNat:Int) == 91)=false:=by simpa using (by omega:¬ (s[k].toNat:Int)=91)
  have e6:((s[k].toNat:Int) == 40)=false:=by simpa using (by omega:¬ (s[k].toNat:Int)=40)
  clear h4 h5 h6;go_enter func88,ntmps88;go_wp2_with fail;with_reducible refine KA.out.mono ?_
  rintro e w1 ⟨rfl,rfl⟩;go_wp2_with fail;with_reducible refine KI.out.mono ?_
  rintro e w1 ⟨rfl,rfl⟩;go_wp2_with fail;with_reducible refine KW.out.mono ?_
  rintro e w1 ⟨rfl,rfl⟩;go_wp2;go_ret2;exact ⟨rfl,rfl⟩
namespace Lex
def At9 (k:Nat):Int × Cut->Value
 | (K,.fine x n)=>.tuple #[.agg #[.int .i64 K,.string ⟨x.toArray⟩,.int .i64 (k:Int)],.int .i64 ((k+n:Nat):Int),.int .i64 0]
 | (_,.bad i)=>.tuple #[.agg #[.int .i64 0,.string ⟨#[]⟩,.int .i64 0],.int .i64 ((k+i:Nat):Int),.int .i64 4]
 | (_,.deep i)=>.tuple #[.agg #[.int .i64 0,.string ⟨#[]⟩,.int .i64 0],.int .i64 ((k+i:Nat):Int),.int .i64 6]
 | (_,.gap)=>.tuple #[.agg #[.int .i64 0,.string ⟨#[]⟩,.int .i64 0],.int .i64 (k:Int),.int .i64 4]
theorem Qf (k:Nat) (K:Int) (r:Cut):(∃ x n,told k r=.tuple #[.string ⟨x.toArray⟩,.int .i64 ((k+n:Nat):Int),.int .i64 0]/\At9 k (K,r)=.tuple #[.agg #[.int .i64 K,.string ⟨x.toArray⟩,.int .i64 (k:Int)],.int .i64 ((k+n:Nat):Int),.int .i64 0]/\r=.fine x n) \/
  (∃ m E,(E=4\/E=6)/\told k r=.tuple #[.string ⟨#[]⟩,.int .i64 m,.int .i64 E]/\At9 k (K,r)=.tuple #[.agg #[.int .i64 0,.string ⟨#[]⟩,.int .i64 0],.int .i64 m,.int .i64 E]):=by
 cases r with
 | fine x n=>exact .inl ⟨x,n,rfl,rfl,rfl⟩
 | bad i=>exact .inr ⟨_,4,.inl rfl,rfl,rfl⟩
 | deep i=>exact .inr ⟨_,6,.inr rfl,rfl,rfl⟩
 | gap=>exact .inr ⟨_,4,.inl rfl,rfl,rfl⟩
theorem Afq (r:Cut) (N:Nat) (h:∀ x n,r=.fine x n->x.length<=N):∀ x n,r.top=.fine x n->x.length<=N:=by
 intro x n hx;cases r with
 | fine y m =>
  injection hx with h1 h2
  subst h1;exact h y m rfl
 | bad i=>cases hx
 | deep i=>cases hx
 | gap=>cases hx
end Lex
theorem Kg {w w1:World} (hb1:Below (w.alloc (.cells #[.int .i64 0,.string ⟨#[]⟩,.int .i64 0] 68)).heap.size (w.alloc (.cells #[.int .i64 0,.string ⟨#[]⟩,.int .i64 0] 68)) w1) :
  w.heap.size<w1.heap.size/\(∀ i,w1.frozen? ⟨w.heap.size,i,none⟩=false)/\w1.cell? ⟨w.heap.size,0,none⟩=some (.int .i64 0)/\w1.cell? ⟨w.heap.size,1,none⟩=some (.string ⟨#[]⟩)/\w1.cell? ⟨w.heap.size,2,none⟩=some (.int .i64 0):=by
 have hc:∀ i,w1.cell? ⟨w.heap.size,i,none⟩=_:=λi=>hb1.cell (p:=⟨w.heap.size,i,none⟩) (show w.heap.size<_ by simp);exact ⟨by have:=hb1.size;simp at this;omega,λi=>(hb1.frozen (p:=⟨w.heap.size,i,none⟩) (show w.heap.size<_ by simp)).trans (by go_simp),
  (hc 0).trans (by go_simp),(hc 1).trans (by go_simp),(hc 2).trans (by go_simp)⟩
theorem E9 {w w1:World} {o:Obj} (hb1:Below (w.alloc o).heap.size (w.alloc o) w1):Below w.heap.size w w1 :=
 ((jan _ w).alloc (jaa _) o).trans (hb1.mono jS)
theorem Gf {w w1:World} (hb:Below w.heap.size w w1) (a b c:Value):Below w.heap.size w (((w1.setCell ⟨w.heap.size,0,none⟩ a).setCell ⟨w.heap.size,1,none⟩ b).setCell ⟨w.heap.size,2,none⟩ c) :=
 ((hb.setCell (p:=⟨w.heap.size,0,none⟩) (jaa _) a).setCell (p:=⟨w.heap.size,1,none⟩) (jaa _) b).setCell (p:=⟨w.heap.size,2,none⟩) (jaa _) c
theorem Aua (s:ByteArray) (k:Nat) (hk:k<s.size) (w:World) (hs:s.size<=100000) :
  Calls prog 59 #[.string s,.int .i64 k] w λe w'=>e=.returned (Lex.At9 k (Lex.one (s.data.toList.drop k)))/\Below w.heap.size w w':=by
 obtain ⟨R,hR⟩:∃ R,R=Lex.At9 k (Lex.one (s.data.toList.drop k)):=⟨_,rfl⟩
 rw [<- hR];have KA:=Al9 s k hk (w.alloc (.cells #[.int .i64 0,.string ⟨#[]⟩,.int .i64 0] 68)) hs;have hdr:=Av s k hk;rw [hdr] at hR KA;have hkz:(k:Int)<(s.size:Int):=jO
 have hkl:(k:Int)<=(s.size:Int):=jO
 have hsl:s.data.toList.length=s.size:=by simp
 rcases Lex.Jl s[k] (s.data.toList.drop (k+1)) with ⟨-,e,eo⟩ | ⟨-,-,e,eo⟩ | ⟨-,-,-,e,eo⟩ | ⟨-,-,-,-,e,eo⟩ | ⟨-,-,-,-,-,e,eo⟩ | ⟨-,-,-,-,-,h6,e,eo⟩ | ⟨-,-,-,-,-,-,e,eo⟩
 ·rw [eo,<- hdr] at hR;rw [e] at KA;have KA:=jH KA;clear e eo;obtain ⟨n,hn⟩:∃ n,n=((s.data.toList.drop k).takeWhile Lex.As).length:=⟨_,rfl⟩
  rw [<- hn] at hR;have hle:k+n<=s.size:=by
   have:=(Lex.Ff Lex.As (s.data.toList.drop k)).1;rw [jaj] at this;omega
  have KP:=jH (λW=>Qa 94 Lex.Qp Lex.Qq (λ_ _=>by kernel_rfl) (λt W h=>Qr t W h) s k jO W hs);rw [Lex.Zf,<- hn] at KP;have E2:Hid (R=.tuple #[.agg #[.int .i64 0,.string (s.extract k (k+n)),.int .i64 k],.int .i64 ((k+n:Nat):Int),.int .i64 0]):=jH (by
   rw [hR];show Value.tuple #[.agg #[_,.string ⟨List.toArray _⟩,_],_,_]=_;rw [show s.extract k (k+n)=⟨((s.data.toList.drop k).take n).toArray⟩ by rw [show (s.data.toList.drop k).take n=(s.data.toList.drop k).take (k+n - k) by rw [Nat.add_sub_cancel_left],<- Lex.Ui]];rw [hn,<- (Lex.Ff Lex.As (s.data.toList.drop k)).2.1])
  have KC:=jH (λW=>Cn (s.extract k (k+n)) W (by rw [ByteArray.size_extract];omega));obtain ⟨m,hm⟩:∃ m,m=k+n:=⟨_,rfl⟩
  rw [<- hm] at KP E2 KC hle;have hmz:(m:Int)<=(s.size:Int):=jO
  have hkm:(k:Int)<=(m:Int):=jO
  clear hR hn hm hdr hsl
  ·go_enter func59,ntmps59;go_wp2_with fail;with_reducible refine KA.out.mono ?_
   rintro e w1 ⟨rfl,rfl⟩;go_wp2_with fail;with_reducible refine (KP.out _).mono ?_
   rintro e w1 ⟨rfl,rfl⟩;go_wp2_with fail;with_reducible refine (KC.out _).mono ?_
   rintro e w2 ⟨rfl,hb2⟩;have B2:=jH hb2;clear hb2;obtain ⟨hz,fz,d0,d1,d2⟩:=Kg B2.out;go_wp2;refine bodyPost_ret (v:=.tuple #[.agg #[.int .i64 0,.string (s.extract k m),.int .i64 k],.int .i64 m,.int .i64 0]) (by simp [results,results59,go_sem,d0,d1,d2]) rfl ⟨congrArg Ending.returned E2.out.symm,?_⟩;exact Gf (E9 B2.out) _ _ _
 ·rw [eo] at hR;rw [e] at KA;have KA:=jH KA;clear e eo;have E2:Hid (R=.tuple #[.agg #[.int .i64 2,.string (s.extract k (k+1)),.int .i64 k],.int .i64 ((k:Int)+1),.int .i64 0]):=jH (by
   rw [hR];show Value.tuple #[.agg #[_,.string ⟨List.toArray _⟩,_],.int .i64 ((k+1:Nat):Int),_]=_;rw [show s.extract k (k+1)=⟨[s[k]].toArray⟩ by
    have h:=Lex.Ui s k (k+1);rw [hdr,Nat.add_sub_cancel_left,List.take_succ_cons,List.take_zero] at h;rw [<- h]]
   rfl)
  have KC:=jH (λW=>Cn (s.extract k (k+1)) W (by rw [ByteArray.size_extract];omega));have hmz:(k:Int)+1<=(s.size:Int):=jO
  clear hR hdr hsl
  ·go_enter func59,ntmps59;go_wp2_with fail;with_reducible refine KA.out.mono ?_
   rintro e w1 ⟨rfl,rfl⟩;go_wp2_with fail;with_reducible refine (KC.out _).mono ?_
   rintro e w2 ⟨rfl,hb2⟩;have B2:=jH hb2;clear hb2;obtain ⟨hz,fz,d0,d1,d2⟩:=Kg B2.out;go_wp2;refine bodyPost_ret (v:=.tuple #[.agg #[.int .i64 2,.string (s.extract k (k+1)),.int .i64 k],.int .i64 ((k:Int)+1),.int .i64 0]) (by simp [results,results59,go_sem,d0,d1,d2]) rfl ⟨congrArg Ending.returned E2.out.symm,?_⟩;exact Gf (E9 B2.out) _ _ _
 ·rw [eo,<- hdr] at hR;rw [e] at KA;have KA:=jH KA;clear e eo;obtain ⟨n,hn⟩:∃ n,n=Lex.An (s.data.toList.drop k):=⟨_,rfl⟩
  rw [<- hn] at hR;have hle:k+n<=s.size:=by
   have:=Lex.Akb (s.data.toList.drop k);rw [jaj] at this;omega
  have KP:=jH (λW=>Qa 93 Lex.Co Lex.Ot (λ_ _=>by kernel_rfl) (λt W h=>Pd t W h) s k jO W hs);rw [Lex.Ac5 _ _ (jaa _),<- hn] at KP;have E2:Hid (R=.tuple #[.agg #[.int .i64 4,.string (s.extract k (k+n)),.int .i64 k],.int .i64 ((k+n:Nat):Int),.int .i64 0]):=jH (by
   rw [hR];show Value.tuple #[.agg #[_,.string ⟨List.toArray _⟩,_],_,_]=_;rw [show s.extract k (k+n)=⟨((s.data.toList.drop k).take n).toArray⟩ by rw [show (s.data.toList.drop k).take n=(s.data.toList.drop k).take (k+n - k) by rw [Nat.add_sub_cancel_left],<- Lex.Ui]])
  have KC:=jH (λW=>Cn (s.extract k (k+n)) W (by rw [ByteArray.size_extract];omega));obtain ⟨m,hm⟩:∃ m,m=k+n:=⟨_,rfl⟩
  rw [<- hm] at KP E2 KC hle;have hmz:(m:Int)<=(s.size:Int):=jO
  have hkm:(k:Int)<=(m:Int):=jO
  clear hR hn hm hdr hsl
  ·go_enter func59,ntmps59;go_wp2_with fail;with_reducible refine KA.out.mono ?_
   rintro e w1 ⟨rfl,rfl⟩;go_wp2_with fail;with_reducible refine (KP.out _).mono ?_
   rintro e w1 ⟨rfl,rfl⟩;go_wp2_with fail;with_reducible refine (KC.out _).mono ?_
   rintro e w2 ⟨rfl,hb2⟩;have B2:=jH hb2;clear hb2;obtain ⟨hz,fz,d0,d1,d2⟩:=Kg B2.out;go_wp2;refine bodyPost_ret (v:=.tuple #[.agg #[.int .i64 4,.string (s.extract k m),.int .i64 k],.int .i64 m,.int .i64 0]) (by simp [results,results59,go_sem,d0,d1,d2]) rfl ⟨congrArg Ending.returned E2.out.symm,?_⟩;exact Gf (E9 B2.out) _ _ _
 ·rw [eo] at hR;rw [e] at KA;have KA:=jH KA;clear e eo hdr;have KP:=jH (λW=>As1 s k hk W hs);rcases Lex.Qf k 1 (Lex.quo (s.data.toList.drop (k+1))).top with ⟨x,n,e1,e2,hx⟩ | ⟨m,E,hE,e1,e2⟩
  ·rw [e1] at KP;have hxl:=Lex.Afq _ s.size (λy j h=>by have:=Lex.Ai9 _ _ _ _ (jaa _) h;have h2:=jaj (i:=k+1) (l:=s.data.toList);omega) x n hx;have E2:=jH (hR.trans e2);have KC:=jH (λW=>Cn ⟨x.toArray⟩ W (by simp only [ByteArray.size,List.size_toArray];omega));clear hR e1 e2 hx hxl hsl;obtain ⟨m,hm⟩:∃ m:Int,m=((k+n:Nat):Int):=⟨_,rfl⟩
   rw [<- hm] at KP E2;clear hm;obtain ⟨X,hX⟩:∃ X:ByteArray,X=⟨x.toArray⟩:=⟨_,rfl⟩
   rw [<- hX] at KP E2 KC;clear hX;go_enter func59,ntmps59;go_wp2_with fail;with_reducible refine KA.out.mono ?_
   rintro e w1 ⟨rfl,rfl⟩;go_wp2_with fail;with_reducible refine (KP.out _).mono ?_
   rintro e w1 ⟨rfl,hb1⟩;have B1:=jH hb1;clear hb1;go_wp2_with fail;with_reducible refine (KC.out _).mono ?_
   rintro e w2 ⟨rfl,hb2⟩;have B2:=jH hb2;clear hb2;have B3:=jH (B1.out.trans (B2.out.mono B1.out.size));obtain ⟨hz,fz,d0,d1,d2⟩:=Kg B3.out;go_wp2;refine bodyPost_ret (v:=.tuple #[.agg #[.int .i64 1,.string X,.int .i64 k],.int .i64 m,.int .i64 0]) (by simp [results,results59,go_sem,d0,d1,d2]) rfl ⟨congrArg Ending.returned E2.out.symm,?_⟩;exact Gf (E9 B3.out) _ _ _
  ·rw [e1] at KP;have E2:=jH (hR.trans e2);clear hR e1 e2 hsl;have hEz:(E == 0)=false:=by rcases hE with rfl | rfl<;>rfl
   clear hE;go_enter func59,ntmps59;go_wp2_with fail;with_reducible refine KA.out.mono ?_
   rintro e w1 ⟨rfl,rfl⟩;go_wp2_with fail;with_reducible refine (KP.out _).mono ?_
   rintro e w1 ⟨rfl,hb1⟩;have B1:=jH hb1;clear hb1;obtain ⟨hz,fz,d0,d1,d2⟩:=Kg B1.out;go_wp2;refine bodyPost_ret (v:=.tuple #[.agg #[.int .i64 0,.string ⟨#[]⟩,.int .i64 0],.int .i64 m,.int .i64 E]) (by simp [results,results59,go_sem,d0,d1,d2]) rfl ⟨congrArg Ending.returned E2.out.symm,?_⟩;exact Gf (E9 B1.out) _ _ _
 ·rw [eo] at hR;rw [e] at KA;have KA:=jH KA;clear e eo hdr;have KP:Hid (∀ W,Calls prog 90 #[.string s,.int .i64 k] W λe w'=>e=.returned (Lex.told k (Lex.lit (s.data.toList.drop (k+1))).top)/\Below W.heap.size W w'):=jH (λW=>(Aic s k hk W hs).mono λ_ _ h=>⟨h.1,h.2 ▸ jan _ _⟩);rcases Lex.Qf k 5 (Lex.lit (s.data.toList.drop (k+1))).top with ⟨x,n,e1,e2,hx⟩ | ⟨m,E,hE,e1,e2⟩
  ·rw [e1] at KP;have hxl:=Lex.Afq _ s.size (λy j h=>by have h1:=Lex.Nb _ _ _ h;have h2:=jaj (i:=k+1) (l:=s.data.toList);have h3:=congrArg List.length h1.2.2.1;rw [jab,jak] at h3;omega) x n hx;have E2:=jH (hR.trans e2);have KC:=jH (λW=>Cn ⟨x.toArray⟩ W (by simp only [ByteArray.size,List.size_toArray];omega));clear hR e1 e2 hx hxl hsl;obtain ⟨m,hm⟩:∃ m:Int,m=((k+n:Nat):Int):=⟨_,rfl⟩
   rw [<- hm] at KP E2;clear hm;obtain ⟨X,hX⟩:∃ X:ByteArray,X=⟨x.toArray⟩:=⟨_,rfl⟩
   rw [<- hX] at KP E2 KC;clear hX;go_enter func59,ntmps59;go_wp2_with fail;with_reducible refine KA.out.mono ?_
   rintro e w1 ⟨rfl,rfl⟩;go_wp2_with fail;with_reducible refine (KP.out _).mono ?_
   rintro e w1 ⟨rfl,hb1⟩;have B1:=jH hb1;clear hb1;go_wp2_with fail;with_reducible refine (KC.out _).mono ?_
   rintro e w2 ⟨rfl,hb2⟩;have B2:=jH hb2;clear hb2;have B3:=jH (B1.out.trans (B2.out.mono B1.out.size));obtain ⟨hz,fz,d0,d1,d2⟩:=Kg B3.out;go_wp2;refine bodyPost_ret (v:=.tuple #[.agg #[.int .i64 5,.string X,.int .i64 k],.int .i64 m,.int .i64 0]) (by simp [results,results59,go_sem,d0,d1,d2]) rfl ⟨congrArg Ending.returned E2.out.symm,?_⟩;exact Gf (E9 B3.out) _ _ _
  ·rw [e1] at KP;have E2:=jH (hR.trans e2);clear hR e1 e2 hsl;have hEz:(E == 0)=false:=by rcases hE with rfl | rfl<;>rfl
   clear hE;go_enter func59,ntmps59;go_wp2_with fail;with_reducible refine KA.out.mono ?_
   rintro e w1 ⟨rfl,rfl⟩;go_wp2_with fail;with_reducible refine (KP.out _).mono ?_
   rintro e w1 ⟨rfl,hb1⟩;have B1:=jH hb1;clear hb1;obtain ⟨hz,fz,d0,d1,d2⟩:=Kg B1.out;go_wp2;refine bodyPost_ret (v:=.tuple #[.agg #[.int .i64 0,.string ⟨#[]⟩,.int .i64 0],.int .i64 m,.int .i64 E]) (by simp [results,results59,go_sem,d0,d1,d2]) rfl ⟨congrArg Ending.returned E2.out.symm,?_⟩;exact Gf (E9 B1.out) _ _ _
 ·rw [eo] at hR;rw [e] at KA;have KA:=jH KA;clear e eo hdr;have KP:Hid (∀ W,Calls prog 91 #[.string s,.int .i64 k] W λe w'=>e=.returned (Lex.told k (Lex.note (s.data.toList.drop (k+1)) 1).top)/\Below W.heap.size W w'):=jH (λW=>(Axc s k hk h6 W hs).mono λ_ _ h=>⟨h.1,h.2 ▸ jan _ _⟩);rcases Lex.Qf k 3 (Lex.note (s.data.toList.drop (k+1)) 1).top with ⟨x,n,e1,e2,hx⟩ | ⟨m,E,hE,e1,e2⟩
  ·rw [e1] at KP;have hxl:=Lex.Afq _ s.size (λy j h=>by have h1:=Lex.Acm _ _ _ _ _ (jaa _) h;have h2:=jaj (i:=k+1) (l:=s.data.toList);have h3:=congrArg List.length h1.2.2.1;rw [jab,jak] at h3;omega) x n hx;have E2:=jH (hR.trans e2);have KC:=jH (λW=>Cn ⟨x.toArray⟩ W (by simp only [ByteArray.size,List.size_toArray];omega));clear hR e1 e2 hx hxl hsl;obtain ⟨m,hm⟩:∃ m:Int,m=((k+n:Nat):Int):=⟨_,rfl⟩
   rw [<- hm] at KP E2;clear hm;obtain ⟨X,hX⟩:∃ X:ByteArray,X=⟨x.toArray⟩:=⟨_,rfl⟩
   rw [<- hX] at KP E2 KC;clear hX;go_enter func59,ntmps59;go_wp2_with fail;with_reducible refine KA.out.mono ?_
   rintro e w1 ⟨rfl,rfl⟩;go_wp2_with fail;with_reducible refine (KP.out _).mono ?_
   rintro e w1 ⟨rfl,hb1⟩;have B1:=jH hb1;clear hb1;go_wp2_with fail;with_reducible refine (KC.out _).mono ?_
   rintro e w2 ⟨rfl,hb2⟩;have B2:=jH hb2;clear hb2;have B3:=jH (B1.out.trans (B2.out.mono B1.out.size));obtain ⟨hz,fz,d0,d1,d2⟩:=Kg B3.out;go_wp2;refine bodyPost_ret (v:=.tuple #[.agg #[.int .i64 3,.string X,.int .i64 k],.int .i64 m,.int .i64 0]) (by simp [results,results59,go_sem,d0,d1,d2]) rfl ⟨congrArg Ending.returned E2.out.symm,?_⟩;exact Gf (E9 B3.out) _ _ _
  ·rw [e1] at KP;have E2:=jH (hR.trans e2);clear hR e1 e2 hsl;have hEz:(E == 0)=false:=by rcases hE with rfl | rfl<;>rfl
   clear hE;go_enter func59,ntmps59;go_wp2_with fail;with_reducible refine KA.out.mono ?_
   rintro e w1 ⟨rfl,rfl⟩;go_wp2_with fail;with_reducible refine (KP.out _).mono ?_
   rintro e w1 ⟨rfl,hb1⟩;have B1:=jH hb1;clear hb1;obtain ⟨hz,fz,d0,d1,d2⟩:=Kg B1.out;go_wp2;refine bodyPost_ret (v:=.tuple #[.agg #[.int .i64 0,.string ⟨#[]⟩,.int .i64 0],.int .i64 m,.int .i64 E]) (by simp [results,results59,go_sem,d0,d1,d2]) rfl ⟨congrArg Ending.returned E2.out.symm,?_⟩;exact Gf (E9 B1.out) _ _ _
 ·rw [eo] at hR;rw [e] at KA;have KA:=jH KA;clear e eo hdr;have E2:Hid (R=.tuple #[.agg #[.int .i64 0,.string ⟨#[]⟩,.int .i64 0],.int .i64 k,.int .i64 4]):=jH hR;clear hR hsl
  ·go_enter func59,ntmps59;go_wp2_with fail;with_reducible refine KA.out.mono ?_
   rintro e w1 ⟨rfl,rfl⟩;obtain ⟨hz,fz,d0,d1,d2⟩:=Kg (jan (w.alloc (.cells #[.int .i64 0,.string ⟨#[]⟩,.int .i64 0] 68)).heap.size (w.alloc (.cells #[.int .i64 0,.string ⟨#[]⟩,.int .i64 0] 68)));go_wp2;refine bodyPost_ret (v:=.tuple #[.agg #[.int .i64 0,.string ⟨#[]⟩,.int .i64 0],.int .i64 k,.int .i64 4]) (by simp [results,results59,go_sem]) rfl ⟨congrArg Ending.returned E2.out.symm,?_⟩;exact (jan _ w).alloc (jaa _) _
end
section
open Go.RowKit Utf
open Lex (Tok)
namespace Lex
def Got (s:List UInt8) (ts:List Tok) (a:Nat):Prop :=
 all s.length 0 s=if (all (s.drop a).length a (s.drop a)).1=0 then (0,0,ts ++ (all (s.drop a).length a (s.drop a)).2.2) else all (s.drop a).length a (s.drop a)
theorem A2k (s:List UInt8):Got s [] 0:=by
 unfold Got;rw [List.drop_zero];split
 ·rename_i h
  have:=(Akn s.length 0 s (jaa _) h).1;rw [List.nil_append];exact Prod.ext h (Prod.ext this rfl)
 ·rfl
theorem all_nil (a:Nat):all 0 a []=(0,0,[]):=rfl
theorem Azx {s:List UInt8} {ts:List Tok} {a:Nat} (h:Got s ts a) (ha:s.length<=a):all s.length 0 s=(0,0,ts):=by
 unfold Got at h;rw [List.drop_of_length_le ha] at h;rw [h,show ([]:List UInt8).length=0 from rfl,all_nil,if_pos rfl,List.append_nil]
theorem Aom {l:List UInt8} (hl:l ≠ []) (a:Nat):all l.length a l=match one l with
  | (k,.fine x n)=>if (all (l.length - 1) (a+n) (l.drop n)).1=0 then (0,0,⟨k,x,a⟩::(all (l.length - 1) (a+n) (l.drop n)).2.2) else all (l.length - 1) (a+n) (l.drop n)
  | (_,.bad i)=>(4,a+i,[])
  | (_,.deep i)=>(6,a+i,[])
  | (_,.gap)=>(4,a,[]):=by
 obtain ⟨m,hm⟩:∃ m,l.length=m+1:=⟨l.length - 1,by have:=List.length_pos_iff.2 hl;omega⟩
 rw [hm,Nat.add_sub_cancel,all.eq_def];simp only [if_neg hl];obtain ⟨k,r⟩:=one l;cases r<;>rfl
theorem Awc {s:List UInt8} {ts:List Tok} {a:Nat} (h:Got s ts a) (ha:a<s.length) {k:Int} {x:List UInt8} {n:Nat} (h1:one (s.drop a)=(k,.fine x n)):0<n/\a+n<=s.length/\Got s (ts ++ [⟨k,x,a⟩]) (a+n):=by
 have hl:s.drop a ≠ []:=λe=>by have:=congrArg List.length e;rw [jaj] at this;simp at this;omega
 have ho:=Kt h1;have hn:=ho.1;have hn2:=ho.2.1;rw [jaj] at hn2;refine ⟨hn,by omega,?_⟩;unfold Got at h ⊢;rw [Aom hl,h1] at h;simp only at h;rw [List.drop_drop,Af4 _ (s.drop (a+n)).length (a+n) (s.drop (a+n)) (by simp only [jaj];omega) (jaa _)] at h;rw [h];by_cases hz:(all (s.drop (a+n)).length (a+n) (s.drop (a+n))).1=0
 ·rw [if_pos hz,if_pos hz];simp only [if_true,jaq,jah,List.nil_append]
 ·rw [if_neg hz,if_neg hz,if_neg hz]
theorem Ark {s:List UInt8} {ts:List Tok} {a:Nat} (h:Got s ts a) (ha:a<s.length):(∀ k i,one (s.drop a)=(k,.bad i)->all s.length 0 s=(4,a+i,[]))/\(∀ k i,one (s.drop a)=(k,.deep i)->all s.length 0 s=(6,a+i,[]))/\(∀ k,one (s.drop a)=(k,.gap)->all s.length 0 s=(4,a,[])):=by
 have hl:s.drop a ≠ []:=λe=>by have:=congrArg List.length e;rw [jaj] at this;simp at this;omega
 unfold Got at h;rw [Aom hl] at h;refine ⟨λk i e=>?_,λk i e=>?_,λk e=>?_⟩<;>(rw [e] at h;simpa using h)
theorem An2 {s:List UInt8} {ts:List Tok} {a:Nat} (h:Got s ts a) (ha:a<s.length) :
  (∃ k x n,At9 a (one (s.drop a))=.tuple #[.agg #[.int .i64 k,.string ⟨x.toArray⟩,.int .i64 (a:Int)],.int .i64 ((a+n:Nat):Int),.int .i64 0]/\0<n/\a+n<=s.length/\Got s (ts ++ [⟨k,x,a⟩]) (a+n)) \/
  (∃ p E,(E=4\/E=6)/\At9 a (one (s.drop a))=.tuple #[.agg #[.int .i64 0,.string ⟨#[]⟩,.int .i64 0],.int .i64 ((p:Nat):Int),.int .i64 E]/\all s.length 0 s=(E,p,[])):=by
 obtain ⟨w1,w2,w3⟩:=Ark h ha;cases ho:one (s.drop a) with
 | mk k r =>
  cases r with
  | fine x n=>exact .inl ⟨k,x,n,rfl,Awc h ha ho⟩
  | bad i=>exact .inr ⟨a+i,4,.inl rfl,rfl,w1 k i ho⟩
  | deep i=>exact .inr ⟨a+i,6,.inr rfl,rfl,w2 k i ho⟩
  | gap=>exact .inr ⟨a,4,.inl rfl,rfl,w3 k ho⟩
end Lex
theorem Awq (s:ByteArray) (w:World) (hs:s.size<=100000) :
  Calls prog 38 #[.string s] w (Adz (Lex.Fm s.data.toList).1 (Lex.Fm s.data.toList).2.1 (Lex.Fm s.data.toList).2.2 w):=by
 have hsl:s.data.toList.length=s.size:=by simp
 obtain ⟨R,hR⟩:∃ R,R=Lex.Fm s.data.toList:=⟨_,rfl⟩
 rw [<- hR];have hR0:=hR;unfold Lex.Fm at hR;rw [hsl] at hR;by_cases h1:2000<s.size
 ·rw [if_pos h1] at hR;subst hR;have h1z:(2000:Int)<(s.size:Int):=jO
  clear hR0;go_enter func38,ntmps38;go_wp2;go_ret3;exact Lu rfl (Sm.nil _) (jan _ _)
 ·rw [if_neg h1] at hR;have h1z:¬ (2000:Int)<(s.size:Int):=jO
  have KR:=jH (On s w hs);obtain ⟨z,hz⟩:∃ z,z=(Aq s.data.toList).2:=⟨_,rfl⟩
  unfold Nz at KR;rw [<- hz] at KR hR;by_cases h2:z=-1
  ·rw [if_pos h2] at hR;have hz2:¬ (0:Int)<=z:=jO
   have HR:=jH hR;have hs2:s.size<=2000:=jO
   clear hR hR0 hz h2 h1;go_enter func38,ntmps38;go_wp2_with fail;refine KR.out.mono ?_;rintro e w1 ⟨v,rfl,-,hb⟩;have B0:=jH hb;clear hb;go_wp2;go_loopg [7,8] (s.size+1) (λgk s7 s8 wr=>∃ (a:Nat) (ts:List Tok),s8=.int .i64 a/\a<=s.size/\s.size - a<gk/\Hid (Lex.Got s.data.toList ts a/\Mu w.heap.size s7 ts wr/\ts.length<=a/\Below w.heap.size w wr))
   case atStart=>exact ⟨0,[],rfl,Nat.zero_le _,by omega,jH ⟨Lex.A2k _,Mu.nil _ _,Nat.zero_le _,B0.out⟩⟩
   case round =>
    obtain ⟨a,ts,rfl,ha,hg,I⟩:=hrel;by_cases hlt:a<s.size
    ·have haz:(a:Int)<(s.size:Int):=jO
     have KT:=Aua s a hlt wr hs;rcases Lex.An2 I.out.1 (by rw [hsl];exact hlt) with ⟨k,x,n,e1,h0,h2,hG⟩ | ⟨p,E,hE,e1,e2⟩
     ·rw [e1] at KT;have KT:=jH KT;rw [hsl] at h2;obtain ⟨m,hm⟩:∃ m,m=a+n:=⟨_,rfl⟩
      rw [<- hm] at KT hG h2;have HG:=jH hG;have ham:a<m:=jO
      have hts:ts.length<=1000000:=by have:=I.out.2.2.1;omega
      clear e1 hG hm h0;go_wp2_with fail;with_reducible refine KT.out.mono ?_
      rintro e w1 ⟨rfl,hb1⟩;have B1:=jH hb1;clear hb1;go_wp2_with (at_builtin;refine Akp _ w.heap.size u7 ts ((I.out.2.1.Ae B1.out).Ae ((jan _ w1).alloc (jaa _) _)) (Nat.le_trans I.out.2.2.2.size (Nat.le_trans B1.out.size jS)) hts ⟨k,x,a⟩ _ jS rfl _ _ rfl rfl rfl ?_;intro v2 w2 ho2 hb2;have HO:=jH ho2;have HB2:=jH hb2;clear ho2 hb2);have I2:Hid (Lex.Got s.data.toList (ts ++ [⟨k,x,a⟩]) m/\Mu w.heap.size v2 (ts ++ [⟨k,x,a⟩]) w2/\(ts ++ [(⟨k,x,a⟩:Tok)]).length<=m/\Below w.heap.size w w2) :=
       jH ⟨HG.out,HO.out,by rw [jab];have:=I.out.2.2.1;simp;omega,((I.out.2.2.2.trans (B1.out.mono I.out.2.2.2.size)).alloc (Nat.le_trans I.out.2.2.2.size B1.out.size) _).trans HB2.out⟩
      go_roundg (s.size - a)
      case measure=>omega
      case rel=>exact ⟨m,ts ++ [⟨k,x,a⟩],rfl,h2,by omega,I2⟩
     ·rw [e1] at KT;have KT:=jH KT;have E2:=jH (HR.out.trans e2);have hEz:(E == 0)=false:=by rcases hE with rfl | rfl<;>rfl
      clear e1 e2 hE;go_wp2_with fail;with_reducible refine KT.out.mono ?_
      rintro e w1 ⟨rfl,hb1⟩;have B1:=jH hb1;clear hb1;go_wp2;go_ret3;have:=E2.out;subst this;exact Lu rfl (Sm.nil _) ((((I.out.2.2.2.trans (B1.out.mono I.out.2.2.2.size)).alloc (Nat.le_trans I.out.2.2.2.size B1.out.size) _)))
    ·obtain rfl:a=s.size:=jO
     have E2:=jH (HR.out.trans (Lex.Azx I.out.1 (by rw [hsl];exact jaa _)));have haz:¬ (s.size:Int)<(s.size:Int):=jO
     go_wp2;go_ret3;have:=E2.out;subst this;exact Lu rfl I.out.2.1.Jp I.out.2.2.2
  ·rw [if_neg h2] at hR;have hz0:0<=z:=by
    obtain ⟨-,-,h3⟩:=D6 (s:=s.data.toList) (m:=(Aq s.data.toList).1) (z:=(Aq s.data.toList).2) rfl;rcases h3 with ⟨h3,-⟩ | ⟨k,h3,-⟩
    ·exact absurd (hz.trans h3) h2
    ·rw [hz,h3];omega
   subst hR;clear hR0 hz h2 h1;go_enter func38,ntmps38;go_wp2_with fail;refine KR.out.mono ?_;rintro e w1 ⟨v,rfl,-,hb⟩;have B0:=jH hb;clear hb;go_wp2;go_ret3;refine Lu (v:=.slice none 0 0) ?_ (Sm.nil _) B0.out;show Ending.returned (.tuple #[_,.int .i64 z,_])=.returned (.tuple #[_,.int .i64 ((z.toNat:Nat):Int),_]);rw [Int.toNat_of_nonneg hz0];rfl
theorem Y2 (s:ByteArray) (w:World) (hs:s.size<=100000):Calls prog 119 #[.string s] w λe w'=>e=.returned (.bool (Lex.Gm s.data.toList))/\Below w.heap.size w w':=by
 by_cases h0:s.size=0
 ·obtain rfl:s=ByteArray.empty:=ByteArray.size_eq_zero_iff.1 h0;go_enter func119,ntmps119;go_wp2;go_ret;exact ⟨rfl,jan _ _⟩
 ·have hpos:0<s.size:=jO
  have hne:=Lex.ne_nil hpos;have hsl:s.data.toList.length=s.size:=by simp
  have K:=Qa 94 Lex.Qp Lex.Qq (λ_ _=>by kernel_rfl) (λt W h=>Qr t W h) s 0 (Nat.zero_le _) w hs;rw [List.drop_zero,Lex.Zf,Nat.zero_add,show ((0:Nat):Int)=0 from rfl] at K;have hx:(((s.data.toList.takeWhile Lex.As).length:Int) == (s.size:Int))=Lex.Gm s.data.toList:=by
   unfold Lex.Gm;have he:s.data.toList.isEmpty=false:=by
    rw [List.isEmpty_eq_false_iff];exact λe=>h0 (by rw [<- hsl,e];rfl)
   rw [he,Bool.not_false,Bool.true_and,<- hsl];generalize s.data.toList=l;rw [Bool.eq_iff_iff,beq_iff_eq,jar];have hW:=Lex.Ff Lex.As l;constructor
   ·intro h;have h2:(l.takeWhile Lex.As).length=l.length:=jO
    have h3:=hW.2.1;rw [h2,List.take_length] at h3;rw [<- h3];exact hW.2.2.1
   ·intro h;have h2:=Lex.Oq Lex.As l [] h (λc t e=>by cases e);rw [List.append_nil] at h2;rw [h2]
  rw [<- hx];generalize (s.data.toList.takeWhile Lex.As).length=n at K ⊢;have K:=jH K;clear hx hsl h0;go_enter func119,ntmps119;go_wp2_with fail;with_reducible refine K.out.mono ?_
  rintro e w1 ⟨rfl,rfl⟩;go_wp2;go_ret;exact ⟨rfl,jan _ _⟩
end
