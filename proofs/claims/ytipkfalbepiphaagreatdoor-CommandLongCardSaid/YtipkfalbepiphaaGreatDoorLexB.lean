import Derived.Test.YtipkfalbepiphaaGreatDoorLexA
import Derived.Test.YtipkfalbepiphaaGreatDoorDomMid
set_option maxRecDepth 100000
set_option maxHeartbeats 4000000
namespace Go.Proofs.YtipkfalbepiphaaGreatDoor
open Tryz
section
open Go.RowKit Utf
namespace Lex
theorem Zn (r:Cut) (x y:List UInt8) (a b:Nat):(r.on x a).on y b=r.on (y ++ x) (a+b):=by
 cases r<;>simp [Cut.on,Nat.add_assoc]
theorem Aox (r:Cut):r.on [] 0=r:=by cases r<;>rfl
def told (k:Nat):Cut->Value
 | .fine x n=>.tuple #[.string ⟨x.toArray⟩,.int .i64 ((k+n:Nat):Int),.int .i64 0]
 | .bad i=>.tuple #[.string ⟨#[]⟩,.int .i64 ((k+i:Nat):Int),.int .i64 4]
 | .deep i=>.tuple #[.string ⟨#[]⟩,.int .i64 ((k+i:Nat):Int),.int .i64 6]
 | .gap=>.tuple #[.string ⟨#[]⟩,.int .i64 (k:Int),.int .i64 4]
theorem Pg {s:ByteArray} {a j:Nat} (h1:a<=j) (h2:j<s.size):(s.data.toList.drop a).take (j+1 - a)=(s.data.toList.drop a).take (j - a) ++ [s[j]]:=by
 rw [show j+1 - a=(j - a)+1 by omega,List.take_add_one,List.getElem?_drop,show a+(j - a)=j by omega,List.getElem?_eq_getElem (by simpa using h2)];rfl
def Re (s:ByteArray) (a j:Nat):Prop:=lit (s.data.toList.drop a)=(lit (s.data.toList.drop j)).on ((s.data.toList.drop a).take (j - a)) (j - a)
theorem A3z (s:ByteArray) (a:Nat):Re s a a:=by
 unfold Re;rw [Nat.sub_self,List.take_zero,Aox]
theorem Zd (c:UInt8) (t:List UInt8):lit (c::t)=if c.toNat=93 then .fine [] 1 else if Em c.toNat=true/\c.toNat ≠ 91/\c.toNat ≠ 92 then (lit t).on [c] 1 else .bad 0:=by rw [lit]
theorem At4 {s:ByteArray} {a j:Nat} (h:Re s a j) (hj:j<s.size) (hc:s[j].toNat=93):lit (s.data.toList.drop a)=.fine ((s.data.toList.drop a).take (j - a)) (j - a+1):=by
 rw [h,As s j hj,Zd,if_pos hc];simp [Cut.on];omega
theorem Us {s:ByteArray} {a j:Nat} (h:Re s a j) (hj:j<s.size) (hc:s[j].toNat ≠ 93) (hb:¬ (Em s[j].toNat=true/\s[j].toNat ≠ 91/\s[j].toNat ≠ 92)):lit (s.data.toList.drop a)=.bad (j - a):=by
 rw [h,As s j hj,Zd,if_neg hc,if_neg hb];simp [Cut.on]
theorem Azt {s:ByteArray} {a j:Nat} (h:Re s a j) (h1:a<=j) (hj:j<s.size) (hc:s[j].toNat ≠ 93) (hb:Em s[j].toNat=true/\s[j].toNat ≠ 91/\s[j].toNat ≠ 92):Re s a (j+1):=by
 unfold Re at h ⊢;rw [h,As s j hj,Zd,if_neg hc,if_pos hb,Zn,Pg h1 hj,show 1+(j - a)=j+1 - a by omega]
theorem At5 {s:ByteArray} {a:Nat} (h:Re s a s.size):lit (s.data.toList.drop a)=.gap:=by
 rw [h,show s.data.toList.drop s.size=[] from List.drop_of_length_le jS];rfl
theorem Aeq {k n:Nat} {x:List UInt8} {s:ByteArray} {i j:Nat} {m:Int} (hs:s.extract i j=⟨x.toArray⟩) (hm:((k+1+n:Nat):Int)=m):told k (Cut.top (.fine x n))=.tuple #[.string (s.extract i j),.int .i64 m,.int .i64 0]:=by
 subst hm;rw [hs];show Value.tuple #[_,.int .i64 ((k+(n+1):Nat):Int),_]=_;rw [show k+(n+1)=k+1+n by omega]
theorem Ol {k i:Nat} {m:Int} (hm:((k+1+i:Nat):Int)=m):told k (Cut.top (.bad i))=.tuple #[.string ⟨#[]⟩,.int .i64 m,.int .i64 4]:=by
 subst hm;show Value.tuple #[_,.int .i64 ((k+(i+1):Nat):Int),_]=_;rw [show k+(i+1)=k+1+i by omega]
theorem Awz {k i:Nat} {m:Int} (hm:((k+1+i:Nat):Int)=m):told k (Cut.top (.deep i))=.tuple #[.string ⟨#[]⟩,.int .i64 m,.int .i64 6]:=by
 subst hm;show Value.tuple #[_,.int .i64 ((k+(i+1):Nat):Int),_]=_;rw [show k+(i+1)=k+1+i by omega]
end Lex
theorem Ajy (s:ByteArray) (k:Nat) (hk:k<s.size) (w:World) (hs:s.size<=100000) :
  Calls prog 160 #[.string s,.int .i64 k] w λe w'=>e=.returned (Lex.told k (Lex.lit (s.data.toList.drop (k+1))).top)/\w=w':=by
 obtain ⟨R,hR⟩:∃ R,R=Lex.told k (Lex.lit (s.data.toList.drop (k+1))).top:=⟨_,rfl⟩
 rw [<- hR];have HR:=jH hR;clear hR;go_enter func160,ntmps160;go_wp2;go_loopg [7] (s.size+1) (λgk s7 wr=>∃ j:Nat,s7=.int .i64 j/\k+1<=j/\j<=s.size/\s.size - j<gk/\Hid (Lex.Re s (k+1) j)/\w=wr)
 case atStart=>exact ⟨k+1,by go_num,jaa _,by omega,by omega,jH (Lex.A3z _ _),rfl⟩
 case round =>
  obtain ⟨j,rfl,hj1,hj,hg,I,rfl⟩:=hrel;by_cases hlt:j<s.size
  ·have hjz:(j:Int)<(s.size:Int):=jO
   by_cases h93:s[j].toNat=93
   ·have E:Hid (R=.tuple #[.string (s.extract (k+1) j),.int .i64 ((j:Int)+1),.int .i64 0]):=jH (by
     rw [HR.out,Lex.At4 I.out hlt h93];exact Lex.Aeq (by rw [<- Lex.J5]) jO)
    have hkj:(k:Int)+1<=(j:Int):=jO
    clear I;go_wp2;go_ret3;exact ⟨congrArg Ending.returned E.out.symm,rfl⟩
   ·have h93z:((s[j].toNat:Int) == 93)=false:=by simpa using (by omega:¬ (s[j].toNat:Int)=93)
    have K:=Px s[j] w;by_cases h91:s[j].toNat=91
    ·have E:Hid (R=.tuple #[.string ⟨#[]⟩,.int .i64 (j:Int),.int .i64 4]):=jH (by
      rw [HR.out,Lex.Us I.out hlt h93 (λh=>h.2.1 h91)];exact Lex.Ol jO)
     clear I h93 K;go_wp2;go_ret3;exact ⟨congrArg Ending.returned E.out.symm,rfl⟩
    ·have h91z:((s[j].toNat:Int) == 91)=false:=by simpa using (by omega:¬ (s[j].toNat:Int)=91)
     by_cases h92:s[j].toNat=92
     ·have E:Hid (R=.tuple #[.string ⟨#[]⟩,.int .i64 (j:Int),.int .i64 4]):=jH (by
       rw [HR.out,Lex.Us I.out hlt h93 (λh=>h.2.2 h92)];exact Lex.Ol jO)
      clear I h93 h91 K;go_wp2;go_ret3;exact ⟨congrArg Ending.returned E.out.symm,rfl⟩
     ·have h92z:((s[j].toNat:Int) == 92)=false:=by simpa using (by omega:¬ (s[j].toNat:Int)=92)
      cases hp:Lex.Em s[j].toNat with
      | false =>
       rw [hp] at K;have K:=jH K;have E:Hid (R=.tuple #[.string ⟨#[]⟩,.int .i64 (j:Int),.int .i64 4]):=jH (by
        rw [HR.out,Lex.Us I.out hlt h93 (λh=>by rw [hp] at h;exact Bool.noConfusion h.1)];exact Lex.Ol jO)
       clear I h93 h91 h92 hp;go_wp2_with (go_at_call 193;with_reducible refine K.out.mono ?_;rintro e w1 ⟨rfl,rfl⟩);go_ret3;exact ⟨congrArg Ending.returned E.out.symm,rfl⟩
      | true =>
       rw [hp] at K;have K:=jH K;have I2:=jH (Lex.Azt I.out hj1 hlt h93 ⟨hp,h91,h92⟩);clear I h93 h91 h92 hp;go_wp2_with (go_at_call 193;with_reducible refine K.out.mono ?_;rintro e w1 ⟨rfl,rfl⟩);go_roundg (s.size - j)
       case measure=>omega
       case rel=>exact ⟨j+1,by go_num,by omega,by omega,by omega,I2,rfl⟩
  ·obtain rfl:j=s.size:=jO
   have E:Hid (R=.tuple #[.string ⟨#[]⟩,.int .i64 (k:Int),.int .i64 4]):=jH (by rw [HR.out,Lex.At5 I.out];rfl);have hjz:¬ (s.size:Int)<(s.size:Int):=jO
   clear I;go_wp2;go_ret3;exact ⟨congrArg Ending.returned E.out.symm,rfl⟩
namespace Lex
theorem A6h (c:UInt8) (t:List UInt8) (h34:c.toNat ≠ 34) (h92:c.toNat ≠ 92):quo (c::t)=if Aw c then (quo t).on [c] 1 else .bad 0:=by
 rw [quo.eq_def];simp only [if_neg h34,if_neg h92]
theorem A03 (c:UInt8) (t:List UInt8) (h92:c.toNat=92):quo (c::t)=match t with | []=>.gap | d::r=>if Aw d then (quo r).on [d] 2 else .bad 1:=by
 rw [quo.eq_def];simp only [if_neg (show ¬ c.toNat=34 by omega),if_pos h92];cases t<;>rfl
theorem Avf (c:UInt8) (t:List UInt8) (h34:c.toNat=34):quo (c::t)=.fine [] 1:=by
 rw [quo.eq_def];simp only [if_pos h34]
def Ab5 (s:ByteArray) (a j:Nat) (x:List UInt8):Prop:=(j<s.size->quo (s.data.toList.drop a)=(quo (s.data.toList.drop j)).on x (j - a))/\(j=s.size->quo (s.data.toList.drop a)=.gap)
theorem A4d {s:ByteArray} {a:Nat}:Ab5 s a a []:=by
 refine ⟨λ_=>by rw [Nat.sub_self,Aox],λh=>?_⟩;rw [h,show s.data.toList.drop s.size=[] from List.drop_of_length_le jS];rfl
theorem Ave {s:ByteArray} {a j:Nat} {x:List UInt8} (h:Ab5 s a j x) (hj:j<s.size) (hc:s[j].toNat=34):quo (s.data.toList.drop a)=.fine x (j - a+1):=by
 rw [h.1 hj,As s j hj,Avf _ _ hc];simp [Cut.on];omega
theorem Apa {s:ByteArray} {a j m:Nat} {x:List UInt8} (h:Ab5 s a j x) (h1:a<=j) (hj:j<s.size) (hc:s[j].toNat ≠ 34) (hm:m=if s[j].toNat=92/\j+1<s.size then j+1 else j) (hmz:m<s.size) :
  (Aw s[m]=false->quo (s.data.toList.drop a)=.bad (m - a))/\(Aw s[m]=true->Ab5 s a (m+1) (x ++ [s[m]])):=by
 have h0:=h.1 hj;have hend:s.data.toList.drop s.size=[]:=List.drop_of_length_le jS;by_cases h92:s[j].toNat=92
 ·by_cases h2:j+1<s.size
  ·rw [if_pos ⟨h92,h2⟩] at hm;subst hm;rw [As s j hj,A03 _ _ h92,As s (j+1) h2] at h0;simp only at h0;constructor
   ·intro hf;rw [if_neg (by rw [hf];decide)] at h0;rw [h0];show Cut.bad (1+(j - a))=_;rw [show 1+(j - a)=j+1 - a by omega]
   ·intro hf;rw [if_pos hf,Zn,show 2+(j - a)=j+1+1 - a by omega] at h0;refine ⟨λ_=>h0,λhe=>?_⟩;rw [h0,he,hend];rfl
  ·rw [if_neg (λh=>h2 h.2)] at hm;subst hm;have he:m+1=s.size:=jO
   have hf:Aw s[m]=true:=by unfold Aw;rw [h92];decide
   rw [As s m hj,A03 _ _ h92,he,hend] at h0;refine ⟨λh=>(by rw [hf] at h;cases h),λ_=>⟨λh=>absurd h jO,λ_=>?_⟩⟩;rw [h0];rfl
 ·rw [if_neg (λh=>h92 h.1)] at hm;subst hm;rw [As s m hj,A6h _ _ hc h92] at h0;constructor
  ·intro hf;rw [if_neg (by rw [hf];decide)] at h0;rw [h0];show Cut.bad (0+(m - a))=_;rw [Nat.zero_add]
  ·intro hf;rw [if_pos hf,Zn,show 1+(m - a)=m+1 - a by omega] at h0;refine ⟨λ_=>h0,λhe=>?_⟩;rw [h0,he,hend];rfl
theorem A2b {k n:Nat} {x:List UInt8} {m:Int} (hm:((k+1+n:Nat):Int)=m):told k (Cut.top (.fine x n))=.tuple #[.string ⟨x.toArray⟩,.int .i64 m,.int .i64 0]:=by
 subst hm;show Value.tuple #[_,.int .i64 ((k+(n+1):Nat):Int),_]=_;rw [show k+(n+1)=k+1+n by omega]
end Lex
theorem Avg (s:ByteArray) (k:Nat) (hk:k<s.size) (w:World) (hs:s.size<=100000) :
  Calls prog 159 #[.string s,.int .i64 k] w λe w'=>e=.returned (Lex.told k (Lex.quo (s.data.toList.drop (k+1))).top)/\Below w.heap.size w w':=by
 obtain ⟨R,hR⟩:∃ R,R=Lex.told k (Lex.quo (s.data.toList.drop (k+1))).top:=⟨_,rfl⟩
 rw [<- hR];have HR:=jH hR;clear hR;go_enter func159,ntmps159;go_wp2;go_loopg [7,8] (s.size+1) (λgk s7 s8 wr=>∃ (j:Nat) (x:List UInt8),s8=.int .i64 j/\k+1<=j/\j<=s.size/\s.size - j<gk/\Hid (Lex.Ab5 s (k+1) j x/\Bu w.heap.size s7 x wr/\x.length<=j/\Below w.heap.size w wr))
 case atStart=>exact ⟨k+1,[],by go_num,jaa _,by omega,by omega,jH ⟨Lex.A4d,Bu.nil _ _,Nat.zero_le _,jan _ _⟩⟩
 case round =>
  obtain ⟨j,x,rfl,hj1,hj,hg,I⟩:=hrel;by_cases hlt:j<s.size
  ·have hjz:(j:Int)<(s.size:Int):=jO
   by_cases h34:s[j].toNat=34
   ·have E:Hid (R=.tuple #[.string ⟨x.toArray⟩,.int .i64 ((j:Int)+1),.int .i64 0]):=jH (by
     rw [HR.out,Lex.Ave I.out.1 hlt h34];exact Lex.A2b jO)
    have hcv:=Hr I.out.2.1.bytes;go_wp2;go_ret3;exact ⟨congrArg Ending.returned E.out.symm,I.out.2.2.2⟩
   ·have h34z:((s[j].toNat:Int) == 34)=false:=by simpa using (by omega:¬ (s[j].toNat:Int)=34)
    have K:=Adu s j hlt wr hs;obtain ⟨m,hm⟩:∃ m,m=if s[j].toNat=92/\j+1<s.size then j+1 else j:=⟨_,rfl⟩
    rw [<- hm] at K;have hmz:m<s.size/\j<=m:=by
     rw [hm];split
     ·rename_i h;exact ⟨h.2,by omega⟩
     ·exact ⟨hlt,jaa _⟩
    obtain ⟨hm1,hjm⟩:=hmz;have N:=Lex.Apa I.out.1 hj1 hlt h34 hm hm1;have K:=jH K;have hmi:(m:Int)<(s.size:Int):=jO
    have KT:=Y2 s[m] wr;clear hm h34;cases hf:Lex.Aw s[m] with
    | false =>
     have E:Hid (R=.tuple #[.string ⟨#[]⟩,.int .i64 (m:Int),.int .i64 4]):=jH (by
      rw [HR.out,N.1 hf];exact Lex.Ol jO)
     rw [hf] at KT;have KT:=jH KT;clear N hf;go_wp2_with (first | (go_at_call 191;with_reducible refine K.out.mono ?_;rintro e w1 ⟨rfl,rfl⟩) | (go_at_call 192;with_reducible refine KT.out.mono ?_;rintro e w1 ⟨rfl,rfl⟩));go_ret3;exact ⟨congrArg Ending.returned E.out.symm,I.out.2.2.2⟩
    | true =>
     have N2:=jH (N.2 hf);rw [hf] at KT;have KT:=jH KT;have hxl:x.length<=1000000:=by have:=I.out.2.2.1;omega
     clear N hf;go_wp2_with (first
      | (go_at_call 191;with_reducible refine K.out.mono ?_;rintro e w1 ⟨rfl,rfl⟩)
      | (go_at_call 192;with_reducible refine KT.out.mono ?_;rintro e w1 ⟨rfl,rfl⟩)
      | (at_builtin;refine Db _ 45 5 (.int .u8 0) 1 underlying45 E4 rfl jO w.heap.size u7 _ _ I.out.2.1 I.out.2.2.2.size hxl 1 jO _ rfl rfl rfl _ _ rfl rfl rfl ?_;intro v2 w2 ho2 hb2;have HO:=jH ho2;have HB2:=jH hb2;clear ho2 hb2))
     have I2:Hid (Lex.Ab5 s (k+1) (m+1) (x ++ [s[m]])/\Bu w.heap.size v2 (x ++ [s[m]]) w2/\(x ++ [s[m]]).length<=m+1/\Below w.heap.size w w2) :=
      jH ⟨N2.out,Bu.more HO.out rfl rfl,by rw [jab];have:=I.out.2.2.1;simp;omega,I.out.2.2.2.trans HB2.out⟩
     go_roundg (s.size - j)
     case measure=>omega
     case rel=>exact ⟨m+1,x ++ [s[m]],by go_num,by omega,by omega,by omega,I2⟩
  ·obtain rfl:j=s.size:=jO
   have E:Hid (R=.tuple #[.string ⟨#[]⟩,.int .i64 (k:Int),.int .i64 4]):=jH (by rw [HR.out,I.out.1.2 rfl];rfl);have hjz:¬ (s.size:Int)<(s.size:Int):=jO
   go_wp2;go_ret3;exact ⟨congrArg Ending.returned E.out.symm,I.out.2.2.2⟩
end
section
open Go.RowKit Utf
section
variable {P:Program} {Q:Exit->Act->World->Prop} {a:Act} {w:World}
def A46 (l m:Nat) (J K:Act->World->Prop) (Q:Exit->Act->World->Prop):Exit->Act->World->Prop
 | .goto l',a,w=>(l'=l/\J a w)\/(l'=m/\K a w)
 | e,a,w=>Q e a w
theorem Axd {c r1 r2:Code} (l m:Nat) (h1:findLabel c l=some r1) (h2:findLabel c m=some r2)
  (h:c.wp P (A46 l m (λa' w'=>r1.wp P (Exit.noGoto Q) a' w') (λa' w'=>r2.wp P (Exit.noGoto Q) a' w') Q) a w):(Code.scope c).wp P Q a w:=by
 intro b k cs;have key:∀ (r:Code) (a:Act) (w:World),r.wp P (Exit.noGoto Q) a w->∃ e a' w',Q e a' w'/\Arrives P (lone (b.at a (.code r::.inScope c::k)) cs w) b k cs e a' w':=by
  intro r a w hr;obtain ⟨e,a₁,w₁,hq,harr⟩:=hr b (.inScope c::k) cs;cases e with
  | normal=>exact ⟨.normal,a₁,w₁,hq,Steps.trans harr (.one step_inScope)⟩
  | exit id=>exact ⟨.exit id,a₁,w₁,hq,λk' hk=>harr k' (by simp [exitTo,hk])⟩
  | goto l'=>exact hq.elim
  | ret=>exact ⟨_,a₁,w₁,hq,harr⟩
  | panic ch=>exact ⟨_,a₁,w₁,hq,harr⟩
  | outgrown=>exact ⟨_,a₁,w₁,hq,harr⟩
 obtain ⟨e,a₁,w₁,hq,harr⟩:=h b (.inScope c::k) cs;cases e with
 | normal=>exact ⟨.normal,a₁,w₁,hq,.head step_scope (Steps.trans harr (.one step_inScope))⟩
 | exit id=>exact ⟨.exit id,a₁,w₁,hq,λk' hk=>.head step_scope (harr k' (by simp [exitTo,hk]))⟩
 | goto l' =>
  rcases hq with ⟨rfl,hJ⟩ | ⟨rfl,hK⟩
  ·obtain ⟨e₂,a₂,w₂,hq₂,harr₂⟩:=key _ a₁ w₁ hJ;exact ⟨e₂,a₂,w₂,hq₂,.of_steps (.head step_scope (harr _ (by simp [gotoIn,h1]))) harr₂⟩
  ·obtain ⟨e₂,a₂,w₂,hq₂,harr₂⟩:=key _ a₁ w₁ hK;exact ⟨e₂,a₂,w₂,hq₂,.of_steps (.head step_scope (harr _ (by simp [gotoIn,h2]))) harr₂⟩
 | ret=>exact ⟨_,a₁,w₁,hq,.of_steps (.one step_scope) harr⟩
 | panic ch=>exact ⟨_,a₁,w₁,hq,.of_steps (.one step_scope) harr⟩
 | outgrown=>exact ⟨_,a₁,w₁,hq,.of_steps (.one step_scope) harr⟩
theorem Atx (l m:Nat) (J K:Act->World->Prop):A46 l m J K Q .ret a w=Q .ret a w:=rfl
end
namespace Lex
def Gm (s:ByteArray) (a j d:Nat):Prop:=(j<s.size->note (s.data.toList.drop a) 1=(note (s.data.toList.drop j) d).on ((s.data.toList.drop a).take (j - a)) (j - a))/\(j=s.size->note (s.data.toList.drop a) 1=.gap)
theorem Lb (s:ByteArray):s.data.toList.drop s.size=[]:=List.drop_of_length_le jS
theorem A0g {s:ByteArray} {a:Nat}:Gm s a a 1:=by
 refine ⟨λ_=>by rw [Nat.sub_self,List.take_zero,Aox],λh=>?_⟩;rw [h,Lb];rfl
theorem Ake {s:ByteArray} {a j d:Nat} (h:Gm s a j d) (hj:j<s.size) (hc:s[j].toNat=40) (hd:32<=d):note (s.data.toList.drop a) 1=.deep (j - a):=by
 rw [h.1 hj,As s j hj,Agc hc,if_pos hd];show Cut.deep (0+(j - a))=_;rw [Nat.zero_add]
theorem Auq {s:ByteArray} {a j d:Nat} (h:Gm s a j d) (h1:a<=j) (hj:j<s.size) (hc:s[j].toNat=40) (hd:¬ 32<=d):Gm s a (j+1) (d+1):=by
 have h0:=h.1 hj;rw [As s j hj,Agc hc,if_neg hd,Zn,<- Pg h1 hj,show 1+(j - a)=j+1 - a by omega] at h0;refine ⟨λ_=>h0,λhe=>?_⟩;rw [h0,he,Lb];rfl
theorem Aor {s:ByteArray} {a j d:Nat} (h:Gm s a j d) (hj:j<s.size) (hc:s[j].toNat=41) (hd:d<=1):note (s.data.toList.drop a) 1=.fine ((s.data.toList.drop a).take (j - a)) (j - a+1):=by
 rw [h.1 hj,As s j hj,Xf hc,if_pos hd];simp [Cut.on];omega
theorem Aos {s:ByteArray} {a j d:Nat} (h:Gm s a j d) (h1:a<=j) (hj:j<s.size) (hc:s[j].toNat=41) (hd:¬ d<=1):Gm s a (j+1) (d - 1):=by
 have h0:=h.1 hj;rw [As s j hj,Xf hc,if_neg hd,Zn,<- Pg h1 hj,show 1+(j - a)=j+1 - a by omega] at h0;refine ⟨λ_=>h0,λhe=>?_⟩;rw [h0,he,Lb];rfl
theorem Akf {s:ByteArray} {a j m d:Nat} (h:Gm s a j d) (h1:a<=j) (hj:j<s.size) (hc:s[j].toNat ≠ 40) (hc2:s[j].toNat ≠ 41) (hm:m=if s[j].toNat=92/\j+1<s.size then j+1 else j) (hmz:m<s.size) :
  (Aw s[m]=false->note (s.data.toList.drop a) 1=.bad (m - a))/\(Aw s[m]=true->Gm s a (m+1) d):=by
 have h0:=h.1 hj;by_cases h92:s[j].toNat=92
 ·by_cases h2:j+1<s.size
  ·rw [if_pos ⟨h92,h2⟩] at hm;subst hm;rw [As s j hj,As s (j+1) h2,Arz h92] at h0;constructor
   ·intro hf;rw [if_neg (by rw [hf];decide)] at h0;rw [h0];show Cut.bad (1+(j - a))=_;rw [show 1+(j - a)=j+1 - a by omega]
   ·intro hf;have e2:(s.data.toList.drop a).take (j+1+1 - a)=(s.data.toList.drop a).take (j - a) ++ [s[j],s[j+1]]:=by
     rw [Pg jO h2,Pg h1 hj,jaq];rfl
    rw [if_pos hf,Zn,<- e2,show 2+(j - a)=j+1+1 - a by omega] at h0;refine ⟨λ_=>h0,λhe=>?_⟩;rw [h0,he,Lb];rfl
  ·rw [if_neg (λh=>h2 h.2)] at hm;subst hm;have he:m+1=s.size:=jO
   have hf:Aw s[m]=true:=by unfold Aw;rw [h92];decide
   rw [As s m hj,he,Lb] at h0;refine ⟨λh=>(by rw [hf] at h;cases h),λ_=>⟨λh=>absurd h jO,λ_=>?_⟩⟩;rw [h0,note.eq_def];simp only [if_neg hc,if_neg hc2,if_pos h92];rfl
 ·rw [if_neg (λh=>h92 h.1)] at hm;subst hm;rw [As s m hj,Ar0 hc hc2 h92] at h0;constructor
  ·intro hf;rw [if_neg (by rw [hf];decide)] at h0;rw [h0];show Cut.bad (0+(m - a))=_;rw [Nat.zero_add]
  ·intro hf;rw [if_pos hf,Zn,<- Pg h1 hj,show 1+(m - a)=m+1 - a by omega] at h0;refine ⟨λ_=>h0,λhe=>?_⟩;rw [h0,he,Lb];rfl
end Lex
theorem A0h (s:ByteArray) (k:Nat) (hk:k<s.size) (hc:s[k].toNat=40) (w:World) (hs:s.size<=100000) :
  Calls prog 161 #[.string s,.int .i64 k] w λe w'=>e=.returned (Lex.told k (Lex.note (s.data.toList.drop (k+1)) 1).top)/\w=w':=by
 obtain ⟨R,hR⟩:∃ R,R=Lex.told k (Lex.note (s.data.toList.drop (k+1)) 1).top:=⟨_,rfl⟩
 rw [<- hR];have HR:=jH hR;clear hR;have HC:=jH hc;clear hc;go_enter func161,ntmps161;go_wp2;refine Axd 0 1 rfl rfl ?_;go_wp2;go_loopg [7,8,9] (s.size+1) (λgk s7 s8 s9 wr=>∃ j d:Nat,s7=.int .i64 d/\s8=.int .i64 j/\s9=.int .i64 4/\d<=32/\k<=j/\j<=s.size/\s.size - j<gk/\Hid ((j=k/\d=0)\/(k+1<=j/\1<=d/\Lex.Gm s (k+1) j d))/\w=wr)
 case atStart=>exact ⟨k,0,rfl,rfl,rfl,Nat.zero_le _,jaa _,by omega,by omega,jH (.inl ⟨rfl,rfl⟩),rfl⟩
 case round =>
  obtain ⟨j,d,rfl,rfl,rfl,hd,hj1,hj,hg,I,rfl⟩:=hrel;by_cases hlt:j<s.size
  ·have hjz:(j:Int)<(s.size:Int):=jO
   by_cases h40:s[j].toNat=40
   ·by_cases h32:32<=d
    ·have E:Hid (R=.tuple #[.string ⟨#[]⟩,.int .i64 (j:Int),.int .i64 6]):=jH (by
      rcases I.out with ⟨rfl,rfl⟩ | ⟨h1,h2,h3⟩
      ·omega
      ·rw [HR.out,Lex.Ake h3 hlt h40 h32];exact Lex.Awz jO)
     have h32z:(32:Int)<(d:Int)+1:=jO
     clear I;go_wp2;go_step3;refine .inl ⟨rfl,?_⟩;go_wp2;rw [Exit.noGoto_ret];go_ret3;exact ⟨congrArg Ending.returned E.out.symm,rfl⟩
    ·have I2:Hid ((j+1=k/\d+1=0)\/(k+1<=j+1/\1<=d+1/\Lex.Gm s (k+1) (j+1) (d+1))):=jH (by
      rcases I.out with ⟨rfl,rfl⟩ | ⟨h1,h2,h3⟩
      ·exact .inr ⟨jaa _,jaa _,Lex.A0g⟩
      ·exact .inr ⟨by omega,by omega,Lex.Auq h3 h1 hlt h40 h32⟩)
     have h32z:¬ (32:Int)<(d:Int)+1:=jO
     clear I;go_wp2;go_roundg (s.size - j)
     case measure=>omega
     case rel=>exact ⟨j+1,d+1,by go_num,by go_num,rfl,by omega,by omega,by omega,by omega,I2,rfl⟩
   ·have hI:k+1<=j/\1<=d/\Lex.Gm s (k+1) j d:=by
     rcases I.out with ⟨rfl,rfl⟩ | h
     ·exact absurd HC.out h40
     ·exact h
    obtain ⟨hkj,hd1,hN⟩:=hI;have h40z:((s[j].toNat:Int) == 40)=false:=by simpa using (by omega:¬ (s[j].toNat:Int)=40)
    by_cases h41:s[j].toNat=41
    ·by_cases hd2:d<=1
     ·have E:Hid (R=.tuple #[.string (s.extract (k+1) j),.int .i64 ((j:Int)+1),.int .i64 0]):=jH (by
       rw [HR.out,Lex.Aor hN hlt h41 hd2];exact Lex.Aeq (by rw [<- Lex.J5]) jO)
      have hdz:(d:Int) - 1=0:=jO
      have hkjz:(k:Int)+1<=(j:Int):=jO
      clear I hN h40;go_wp2;go_step3;refine .inr ⟨rfl,?_⟩;go_wp2;rw [Exit.noGoto_ret];go_ret3;exact ⟨congrArg Ending.returned E.out.symm,rfl⟩
     ·have I2:Hid ((j+1=k/\d - 1=0)\/(k+1<=j+1/\1<=d - 1/\Lex.Gm s (k+1) (j+1) (d - 1))):=jH (.inr ⟨by omega,by omega,Lex.Aos hN hkj hlt h41 hd2⟩);have hdz:(((d:Int) - 1) == 0)=false:=by simpa using (by omega:¬ (d:Int) - 1=0)
      clear I hN h40;go_wp2;go_roundg (s.size - j)
      case measure=>omega
      case rel=>exact ⟨j+1,d - 1,by go_num,by go_num,rfl,by omega,by omega,by omega,by omega,I2,rfl⟩
    ·have h41z:((s[j].toNat:Int) == 41)=false:=by simpa using (by omega:¬ (s[j].toNat:Int)=41)
     have K:=Adu s j hlt w hs;obtain ⟨m,hm⟩:∃ m,m=if s[j].toNat=92/\j+1<s.size then j+1 else j:=⟨_,rfl⟩
     rw [<- hm] at K;have hmz:m<s.size/\j<=m:=by
      rw [hm];split
      ·rename_i h;exact ⟨h.2,by omega⟩
      ·exact ⟨hlt,jaa _⟩
     obtain ⟨hm1,hjm⟩:=hmz;have N:=Lex.Akf hN hkj hlt h40 h41 hm hm1;have K:=jH K;have hmi:(m:Int)<(s.size:Int):=jO
     have KT:=Y2 s[m] w;clear hm h40 h41 hN I;cases hf:Lex.Aw s[m] with
     | false =>
      have E:Hid (R=.tuple #[.string ⟨#[]⟩,.int .i64 (m:Int),.int .i64 4]):=jH (by
       rw [HR.out,N.1 hf];exact Lex.Ol jO)
      rw [hf] at KT;have KT:=jH KT;clear N hf;go_wp2_with (first | (go_at_call 191;with_reducible refine K.out.mono ?_;rintro e w1 ⟨rfl,rfl⟩) | (go_at_call 192;with_reducible refine KT.out.mono ?_;rintro e w1 ⟨rfl,rfl⟩));go_step3;refine .inl ⟨rfl,?_⟩;go_wp2;rw [Exit.noGoto_ret];go_ret3;exact ⟨congrArg Ending.returned E.out.symm,rfl⟩
     | true =>
      have I2:Hid ((m+1=k/\d=0)\/(k+1<=m+1/\1<=d/\Lex.Gm s (k+1) (m+1) d)):=jH (.inr ⟨by omega,hd1,N.2 hf⟩);rw [hf] at KT;have KT:=jH KT;clear N hf;go_wp2_with (first | (go_at_call 191;with_reducible refine K.out.mono ?_;rintro e w1 ⟨rfl,rfl⟩) | (go_at_call 192;with_reducible refine KT.out.mono ?_;rintro e w1 ⟨rfl,rfl⟩));go_roundg (s.size - j)
      case measure=>omega
      case rel=>exact ⟨m+1,d,by go_num,by go_num,rfl,hd,by omega,by omega,by omega,I2,rfl⟩
  ·obtain rfl:j=s.size:=jO
   have E:Hid (R=.tuple #[.string ⟨#[]⟩,.int .i64 (k:Int),.int .i64 4]):=jH (by
    rcases I.out with ⟨h1,-⟩ | ⟨h1,h2,h3⟩
    ·omega
    ·rw [HR.out,h3.2 rfl];rfl)
   have hjz:¬ (s.size:Int)<(s.size:Int):=jO
   clear I;go_wp2;refine wp_label ?_;go_wp2;rw [Atx];go_ret3;exact ⟨congrArg Ending.returned E.out.symm,rfl⟩
end
section
open Go.RowKit Utf
namespace Lex
def Iw:List UInt8->Int × Bool
 | []=>(0,false)
 | c::t =>
  if Al c then (0,true)
  else if D9 c.toNat then (2,true)
  else if Am (c::t) ≠ 0 then (4,true)
  else if c.toNat=34 then (1,true)
  else if c.toNat=91 then (5,true)
  else if c.toNat=40 then (3,true)
  else (0,false)
theorem Ju (c:UInt8) (t:List UInt8):(Al c=true/\Iw (c::t)=(0,true)/\one (c::t)=(0,.fine ((c::t).takeWhile Al) ((c::t).takeWhile Al).length)) \/
  (Al c=false/\D9 c.toNat=true/\Iw (c::t)=(2,true)/\one (c::t)=(2,.fine [c] 1)) \/
  (Al c=false/\D9 c.toNat=false/\Am (c::t) ≠ 0/\Iw (c::t)=(4,true)/\one (c::t)=(4,.fine ((c::t).take (Am (c::t))) (Am (c::t)))) \/
  (Al c=false/\D9 c.toNat=false/\Am (c::t)=0/\c.toNat=34/\Iw (c::t)=(1,true)/\one (c::t)=(1,(quo t).top)) \/
  (Al c=false/\D9 c.toNat=false/\Am (c::t)=0/\c.toNat ≠ 34/\c.toNat=91/\Iw (c::t)=(5,true)/\one (c::t)=(5,(lit t).top)) \/
  (Al c=false/\D9 c.toNat=false/\Am (c::t)=0/\c.toNat ≠ 34/\c.toNat ≠ 91/\c.toNat=40/\Iw (c::t)=(3,true)/\one (c::t)=(3,(note t 1).top)) \/
  (Al c=false/\D9 c.toNat=false/\Am (c::t)=0/\c.toNat ≠ 34/\c.toNat ≠ 91/\c.toNat ≠ 40/\Iw (c::t)=(0,false)/\one (c::t)=(0,.bad 0)):=by
 cases h1:Al c with
 | true=>exact .inl ⟨rfl,by rw [Iw,if_pos h1],by rw [one,if_pos h1]⟩
 | false =>
  have n1:¬ Al c=true:=by rw [h1];decide
  refine .inr ?_;cases h2:D9 c.toNat with
  | true=>exact .inl ⟨rfl,rfl,by rw [Iw,if_neg n1,if_pos h2],by rw [one,if_neg n1,if_pos h2]⟩
  | false =>
   have n2:¬ D9 c.toNat=true:=by rw [h2];decide
   refine .inr ?_;by_cases h3:Am (c::t) ≠ 0
   ·exact .inl ⟨rfl,rfl,h3,by rw [Iw,if_neg n1,if_neg n2,if_pos h3],by rw [one,if_neg n1,if_neg n2,if_pos h3]⟩
   ·have h3':Am (c::t)=0:=jO
    refine .inr ?_;by_cases h4:c.toNat=34
    ·exact .inl ⟨rfl,rfl,h3',h4,by rw [Iw,if_neg n1,if_neg n2,if_neg h3,if_pos h4],by rw [one,if_neg n1,if_neg n2,if_neg h3,if_pos h4]⟩
    ·refine .inr ?_;by_cases h5:c.toNat=91
     ·exact .inl ⟨rfl,rfl,h3',h4,h5,by rw [Iw,if_neg n1,if_neg n2,if_neg h3,if_neg h4,if_pos h5],by rw [one,if_neg n1,if_neg n2,if_neg h3,if_neg h4,if_pos h5]⟩
     ·refine .inr ?_;by_cases h6:c.toNat=40
      · exact .inl ⟨rfl,rfl,h3',h4,h5,h6,by rw [Iw,if_neg n1,if_neg n2,if_neg h3,if_neg h4,if_neg h5,if_pos h6],by rw [one,if_neg n1,if_neg n2,if_neg h3,if_neg h4,if_neg h5,if_pos h6]⟩
      · exact .inr ⟨rfl,rfl,h3',h4,h5,h6,by rw [Iw,if_neg n1,if_neg n2,if_neg h3,if_neg h4,if_neg h5,if_neg h6],by rw [one,if_neg n1,if_neg n2,if_neg h3,if_neg h4,if_neg h5,if_neg h6]⟩
end Lex
theorem An3 (s:ByteArray) (k:Nat) (hk:k<s.size) (w:World) (hs:s.size<=100000) :
  Calls prog 158 #[.string s,.int .i64 k] w λe w'=>e=.returned (.tuple #[.int .i64 (Lex.Iw (s.data.toList.drop k)).1,.bool (Lex.Iw (s.data.toList.drop k)).2])/\w=w':=by
 have hkz:(k:Int)<(s.size:Int):=jO
 have hkl:(k:Int)<=(s.size:Int):=jO
 have KA:=Yy s[k] w;have KI:=Hy ⟨#[60,62,58,59,64,44,46]⟩ s[k] w;have hi:=Lex.I9 Lex.Alk s[k];rw [Lex.A1o] at hi;rw [show (ByteArray.mk #[60,62,58,59,64,44,46]).data.toList=Lex.Alk from rfl] at KI;have KW:=Qc (s.extract k s.size) w (by rw [ByteArray.size_extract];omega);rw [Lex.Oz] at KW;have hw:=Lex.Al4 (s.data.toList.drop k);rw [As s k hk] at KW hw ⊢;generalize Lib.indexByte Lex.Alk s[k]=i at KI hi;generalize Lex.Cw (s[k]::s.data.toList.drop (k+1))=a at KW hw;have KI:=jH KI;have KW:=jH KW;rcases Lex.Ju s[k] (s.data.toList.drop (k+1)) with ⟨h1,e,-⟩ | ⟨h1,h2,e,-⟩ | ⟨h1,h2,h3,e,-⟩ | ⟨h1,h2,h3,h4,e,-⟩ | ⟨h1,h2,h3,h4,h5,e,-⟩ | ⟨h1,h2,h3,h4,h5,h6,e,-⟩ | ⟨h1,h2,h3,h4,h5,h6,e,-⟩
 ·rw [e];rw [h1] at KA;have KA:=jH KA;clear e h1 hw hi;go_enter func158,ntmps158;go_wp2_with fail;with_reducible refine KA.out.mono ?_
  rintro e w1 ⟨rfl,rfl⟩;go_wp2;go_ret2;exact ⟨rfl,rfl⟩
 ·rw [e];rw [h1] at KA;rw [h2] at hi;have KA:=jH KA;clear e h1 h2 hw;go_enter func158,ntmps158;go_wp2_with fail;with_reducible refine KA.out.mono ?_
  rintro e w1 ⟨rfl,rfl⟩;go_wp2_with fail;with_reducible refine KI.out.mono ?_
  rintro e w1 ⟨rfl,rfl⟩;go_wp2;go_ret2;exact ⟨rfl,rfl⟩
 ·rw [e];rw [h1] at KA;rw [h2] at hi;have KA:=jH KA;have hz:(0:Int)<(a:Int):=by have:0<a:=(by rw [hw];exact h3);omega
  clear e h1 h2 h3 hw;go_enter func158,ntmps158;go_wp2_with fail;with_reducible refine KA.out.mono ?_
  rintro e w1 ⟨rfl,rfl⟩;go_wp2_with fail;with_reducible refine KI.out.mono ?_
  rintro e w1 ⟨rfl,rfl⟩;go_wp2_with fail;with_reducible refine KW.out.mono ?_
  rintro e w1 ⟨rfl,rfl⟩;go_wp2;go_ret2;exact ⟨rfl,rfl⟩
 all_goals
  rw [e];rw [h1] at KA;rw [h2] at hi;have KA:=jH KA;have hz:¬ (0:Int)<(a:Int):=by
   have:¬ 0<a:=by rw [hw];exact λh=>h h3
   omega
  clear e h1 h2 h3 hw
 ·have e4:((s[k].toNat:Int) == 34)=true:=by simpa using (by omega:(s[k].toNat:Int)=34)
  clear h4;go_enter func158,ntmps158;go_wp2_with fail;with_reducible refine KA.out.mono ?_
  rintro e w1 ⟨rfl,rfl⟩;go_wp2_with fail;with_reducible refine KI.out.mono ?_
  rintro e w1 ⟨rfl,rfl⟩;go_wp2_with fail;with_reducible refine KW.out.mono ?_
  rintro e w1 ⟨rfl,rfl⟩;go_wp2;go_ret2;exact ⟨rfl,rfl⟩
 ·have e4:((s[k].toNat:Int) == 34)=false:=by simpa using (by omega:¬ (s[k].toNat:Int)=34)
  have e5:((s[k].toNat:Int) == 91)=true:=by simpa using (by omega:(s[k].toNat:Int)=91)
  clear h4 h5;go_enter func158,ntmps158;go_wp2_with fail;with_reducible refine KA.out.mono ?_
  rintro e w1 ⟨rfl,rfl⟩;go_wp2_with fail;with_reducible refine KI.out.mono ?_
  rintro e w1 ⟨rfl,rfl⟩;go_wp2_with fail;with_reducible refine KW.out.mono ?_
  rintro e w1 ⟨rfl,rfl⟩;go_wp2;go_ret2;exact ⟨rfl,rfl⟩
 ·have e4:((s[k].toNat:Int) == 34)=false:=by simpa using (by omega:¬ (s[k].toNat:Int)=34)
  have e5:((s[k].toNat:Int) == 91)=false:=by simpa using (by omega:¬ (s[k].toNat:Int)=91)
  have e6:((s[k].toNat:Int) == 40)=true:=by simpa using (by omega:(s[k].toNat:Int)=40)
  clear h4 h5 h6;go_enter func158,ntmps158;go_wp2_with fail;with_reducible refine KA.out.mono ?_
  rintro e w1 ⟨rfl,rfl⟩;go_wp2_with fail;with_reducible refine KI.out.mono ?_
  rintro e w1 ⟨rfl,rfl⟩;go_wp2_with fail;with_reducible refine KW.out.mono ?_
  rintro e w1 ⟨rfl,rfl⟩;go_wp2;go_ret2;exact ⟨rfl,rfl⟩
 ·have e4:((s[k].toNat:Int) == 34)=false:=by simpa using (by omega:¬ (s[k].toNat:Int)=34)
  have e5:((s[k].toNat:Int) == 91)=false:=by simpa using (by omega:¬ (s[k].toNat:Int)=91)
  have e6:((s[k].toNat:Int) == 40)=false:=by simpa using (by omega:¬ (s[k].toNat:Int)=40)
  clear h4 h5 h6;go_enter func158,ntmps158;go_wp2_with fail;with_reducible refine KA.out.mono ?_
  rintro e w1 ⟨rfl,rfl⟩;go_wp2_with fail;with_reducible refine KI.out.mono ?_
  rintro e w1 ⟨rfl,rfl⟩;go_wp2_with fail;with_reducible refine KW.out.mono ?_
  rintro e w1 ⟨rfl,rfl⟩;go_wp2;go_ret2;exact ⟨rfl,rfl⟩
namespace Lex
def Awx (k:Nat):Int × Cut->Value
 | (K,.fine x n)=>.tuple #[.agg #[.int .i64 K,.string ⟨x.toArray⟩,.int .i64 (k:Int)],.int .i64 ((k+n:Nat):Int),.int .i64 0]
 | (_,.bad i)=>.tuple #[.agg #[.int .i64 0,.string ⟨#[]⟩,.int .i64 0],.int .i64 ((k+i:Nat):Int),.int .i64 4]
 | (_,.deep i)=>.tuple #[.agg #[.int .i64 0,.string ⟨#[]⟩,.int .i64 0],.int .i64 ((k+i:Nat):Int),.int .i64 6]
 | (_,.gap)=>.tuple #[.agg #[.int .i64 0,.string ⟨#[]⟩,.int .i64 0],.int .i64 (k:Int),.int .i64 4]
theorem Q6 (k:Nat) (K:Int) (r:Cut):(∃ x n,told k r=.tuple #[.string ⟨x.toArray⟩,.int .i64 ((k+n:Nat):Int),.int .i64 0]/\Awx k (K,r)=.tuple #[.agg #[.int .i64 K,.string ⟨x.toArray⟩,.int .i64 (k:Int)],.int .i64 ((k+n:Nat):Int),.int .i64 0]/\r=.fine x n) \/
  (∃ m E,(E=4\/E=6)/\told k r=.tuple #[.string ⟨#[]⟩,.int .i64 m,.int .i64 E]/\Awx k (K,r)=.tuple #[.agg #[.int .i64 0,.string ⟨#[]⟩,.int .i64 0],.int .i64 m,.int .i64 E]):=by
 cases r with
 | fine x n=>exact .inl ⟨x,n,rfl,rfl,rfl⟩
 | bad i=>exact .inr ⟨_,4,.inl rfl,rfl,rfl⟩
 | deep i=>exact .inr ⟨_,6,.inr rfl,rfl,rfl⟩
 | gap=>exact .inr ⟨_,4,.inl rfl,rfl,rfl⟩
theorem Ahb (r:Cut) (N:Nat) (h:∀ x n,r=.fine x n->x.length<=N):∀ x n,r.top=.fine x n->x.length<=N:=by
 intro x n hx;cases r with
 | fine y m =>
  injection hx with h1 h2
  subst h1;exact h y m rfl
 | bad i=>cases hx
 | deep i=>cases hx
 | gap=>cases hx
end Lex
theorem Kw {w w1:World} (hb1:Below (w.alloc (.cells #[.int .i64 0,.string ⟨#[]⟩,.int .i64 0] 83)).heap.size (w.alloc (.cells #[.int .i64 0,.string ⟨#[]⟩,.int .i64 0] 83)) w1) :
  w.heap.size<w1.heap.size/\(∀ i,w1.frozen? ⟨w.heap.size,i,none⟩=false)/\w1.cell? ⟨w.heap.size,0,none⟩=some (.int .i64 0)/\w1.cell? ⟨w.heap.size,1,none⟩=some (.string ⟨#[]⟩)/\w1.cell? ⟨w.heap.size,2,none⟩=some (.int .i64 0):=by
 have hc:∀ i,w1.cell? ⟨w.heap.size,i,none⟩=_:=λi=>hb1.cell (p:=⟨w.heap.size,i,none⟩) (show w.heap.size<_ by simp);exact ⟨by have:=hb1.size;simp at this;omega,λi=>(hb1.frozen (p:=⟨w.heap.size,i,none⟩) (show w.heap.size<_ by simp)).trans (by go_simp),
  (hc 0).trans (by go_simp),(hc 1).trans (by go_simp),(hc 2).trans (by go_simp)⟩
theorem Fl {w w1:World} {o:Obj} (hb1:Below (w.alloc o).heap.size (w.alloc o) w1):Below w.heap.size w w1 :=
 ((jan _ w).alloc (jaa _) o).trans (hb1.mono jS)
theorem Gp {w w1:World} (hb:Below w.heap.size w w1) (a b c:Value):Below w.heap.size w (((w1.setCell ⟨w.heap.size,0,none⟩ a).setCell ⟨w.heap.size,1,none⟩ b).setCell ⟨w.heap.size,2,none⟩ c) :=
 ((hb.setCell (p:=⟨w.heap.size,0,none⟩) (jaa _) a).setCell (p:=⟨w.heap.size,1,none⟩) (jaa _) b).setCell (p:=⟨w.heap.size,2,none⟩) (jaa _) c
theorem Awy (s:ByteArray) (k:Nat) (hk:k<s.size) (w:World) (hs:s.size<=100000) :
  Calls prog 134 #[.string s,.int .i64 k] w λe w'=>e=.returned (Lex.Awx k (Lex.one (s.data.toList.drop k)))/\Below w.heap.size w w':=by
 obtain ⟨R,hR⟩:∃ R,R=Lex.Awx k (Lex.one (s.data.toList.drop k)):=⟨_,rfl⟩
 rw [<- hR];have KA:=An3 s k hk (w.alloc (.cells #[.int .i64 0,.string ⟨#[]⟩,.int .i64 0] 83)) hs;have hdr:=As s k hk;rw [hdr] at hR KA;have hkz:(k:Int)<(s.size:Int):=jO
 have hkl:(k:Int)<=(s.size:Int):=jO
 have hsl:s.data.toList.length=s.size:=by simp
 rcases Lex.Ju s[k] (s.data.toList.drop (k+1)) with ⟨-,e,eo⟩ | ⟨-,-,e,eo⟩ | ⟨-,-,-,e,eo⟩ | ⟨-,-,-,-,e,eo⟩ | ⟨-,-,-,-,-,e,eo⟩ | ⟨-,-,-,-,-,h6,e,eo⟩ | ⟨-,-,-,-,-,-,e,eo⟩
 ·rw [eo,<- hdr] at hR;rw [e] at KA;have KA:=jH KA;clear e eo;obtain ⟨n,hn⟩:∃ n,n=((s.data.toList.drop k).takeWhile Lex.Al).length:=⟨_,rfl⟩
  rw [<- hn] at hR;have hle:k+n<=s.size:=by
   have:=(Lex.Fo Lex.Al (s.data.toList.drop k)).1;rw [jaj] at this;omega
  have KP:=jH (λW=>Q1 86 Lex.Rl Lex.Rm (λ_ _=>by kernel_rfl) (λt W h=>Rn t W h) s k jO W hs);rw [Lex.Aab,<- hn] at KP;have E2:Hid (R=.tuple #[.agg #[.int .i64 0,.string (s.extract k (k+n)),.int .i64 k],.int .i64 ((k+n:Nat):Int),.int .i64 0]):=jH (by
   rw [hR];show Value.tuple #[.agg #[_,.string ⟨List.toArray _⟩,_],_,_]=_;rw [show s.extract k (k+n)=⟨((s.data.toList.drop k).take n).toArray⟩ by rw [show (s.data.toList.drop k).take n=(s.data.toList.drop k).take (k+n - k) by rw [Nat.add_sub_cancel_left],<- Lex.J5]];rw [hn,<- (Lex.Fo Lex.Al (s.data.toList.drop k)).2.1])
  have KC:=jH (λW=>De (s.extract k (k+n)) W (by rw [ByteArray.size_extract];omega));obtain ⟨m,hm⟩:∃ m,m=k+n:=⟨_,rfl⟩
  rw [<- hm] at KP E2 KC hle;have hmz:(m:Int)<=(s.size:Int):=jO
  have hkm:(k:Int)<=(m:Int):=jO
  clear hR hn hm hdr hsl
  ·go_enter func134,ntmps134;go_wp2_with fail;with_reducible refine KA.out.mono ?_
   rintro e w1 ⟨rfl,rfl⟩;go_wp2_with fail;with_reducible refine (KP.out _).mono ?_
   rintro e w1 ⟨rfl,rfl⟩;go_wp2_with fail;with_reducible refine (KC.out _).mono ?_
   rintro e w2 ⟨rfl,hb2⟩;have B2:=jH hb2;clear hb2;obtain ⟨hz,fz,d0,d1,d2⟩:=Kw B2.out;go_wp2;refine bodyPost_ret (v:=.tuple #[.agg #[.int .i64 0,.string (s.extract k m),.int .i64 k],.int .i64 m,.int .i64 0]) (by simp [results,results134,go_sem,d0,d1,d2]) rfl ⟨congrArg Ending.returned E2.out.symm,?_⟩;exact Gp (Fl B2.out) _ _ _
 ·rw [eo] at hR;rw [e] at KA;have KA:=jH KA;clear e eo;have E2:Hid (R=.tuple #[.agg #[.int .i64 2,.string (s.extract k (k+1)),.int .i64 k],.int .i64 ((k:Int)+1),.int .i64 0]):=jH (by
   rw [hR];show Value.tuple #[.agg #[_,.string ⟨List.toArray _⟩,_],.int .i64 ((k+1:Nat):Int),_]=_;rw [show s.extract k (k+1)=⟨[s[k]].toArray⟩ by
    have h:=Lex.J5 s k (k+1);rw [hdr,Nat.add_sub_cancel_left,List.take_succ_cons,List.take_zero] at h;rw [<- h]]
   rfl)
  have KC:=jH (λW=>De (s.extract k (k+1)) W (by rw [ByteArray.size_extract];omega));have hmz:(k:Int)+1<=(s.size:Int):=jO
  clear hR hdr hsl
  ·go_enter func134,ntmps134;go_wp2_with fail;with_reducible refine KA.out.mono ?_
   rintro e w1 ⟨rfl,rfl⟩;go_wp2_with fail;with_reducible refine (KC.out _).mono ?_
   rintro e w2 ⟨rfl,hb2⟩;have B2:=jH hb2;clear hb2;obtain ⟨hz,fz,d0,d1,d2⟩:=Kw B2.out;go_wp2;refine bodyPost_ret (v:=.tuple #[.agg #[.int .i64 2,.string (s.extract k (k+1)),.int .i64 k],.int .i64 ((k:Int)+1),.int .i64 0]) (by simp [results,results134,go_sem,d0,d1,d2]) rfl ⟨congrArg Ending.returned E2.out.symm,?_⟩;exact Gp (Fl B2.out) _ _ _
 ·rw [eo,<- hdr] at hR;rw [e] at KA;have KA:=jH KA;clear e eo;obtain ⟨n,hn⟩:∃ n,n=Lex.Am (s.data.toList.drop k):=⟨_,rfl⟩
  rw [<- hn] at hR;have hle:k+n<=s.size:=by
   have:=Lex.Al5 (s.data.toList.drop k);rw [jaj] at this;omega
  have KP:=jH (λW=>Q1 162 Lex.Cw Lex.Po (λ_ _=>by kernel_rfl) (λt W h=>Qc t W h) s k jO W hs);rw [Lex.Aef _ _ (jaa _),<- hn] at KP;have E2:Hid (R=.tuple #[.agg #[.int .i64 4,.string (s.extract k (k+n)),.int .i64 k],.int .i64 ((k+n:Nat):Int),.int .i64 0]):=jH (by
   rw [hR];show Value.tuple #[.agg #[_,.string ⟨List.toArray _⟩,_],_,_]=_;rw [show s.extract k (k+n)=⟨((s.data.toList.drop k).take n).toArray⟩ by rw [show (s.data.toList.drop k).take n=(s.data.toList.drop k).take (k+n - k) by rw [Nat.add_sub_cancel_left],<- Lex.J5]])
  have KC:=jH (λW=>De (s.extract k (k+n)) W (by rw [ByteArray.size_extract];omega));obtain ⟨m,hm⟩:∃ m,m=k+n:=⟨_,rfl⟩
  rw [<- hm] at KP E2 KC hle;have hmz:(m:Int)<=(s.size:Int):=jO
  have hkm:(k:Int)<=(m:Int):=jO
  clear hR hn hm hdr hsl
  ·go_enter func134,ntmps134;go_wp2_with fail;with_reducible refine KA.out.mono ?_
   rintro e w1 ⟨rfl,rfl⟩;go_wp2_with fail;with_reducible refine (KP.out _).mono ?_
   rintro e w1 ⟨rfl,rfl⟩;go_wp2_with fail;with_reducible refine (KC.out _).mono ?_
   rintro e w2 ⟨rfl,hb2⟩;have B2:=jH hb2;clear hb2;obtain ⟨hz,fz,d0,d1,d2⟩:=Kw B2.out;go_wp2;refine bodyPost_ret (v:=.tuple #[.agg #[.int .i64 4,.string (s.extract k m),.int .i64 k],.int .i64 m,.int .i64 0]) (by simp [results,results134,go_sem,d0,d1,d2]) rfl ⟨congrArg Ending.returned E2.out.symm,?_⟩;exact Gp (Fl B2.out) _ _ _
 ·rw [eo] at hR;rw [e] at KA;have KA:=jH KA;clear e eo hdr;have KP:=jH (λW=>Avg s k hk W hs);rcases Lex.Q6 k 1 (Lex.quo (s.data.toList.drop (k+1))).top with ⟨x,n,e1,e2,hx⟩ | ⟨m,E,hE,e1,e2⟩
  ·rw [e1] at KP;have hxl:=Lex.Ahb _ s.size (λy j h=>by have:=Lex.Ak2 _ _ _ _ (jaa _) h;have h2:=jaj (i:=k+1) (l:=s.data.toList);omega) x n hx;have E2:=jH (hR.trans e2);have KC:=jH (λW=>De ⟨x.toArray⟩ W (by simp only [ByteArray.size,List.size_toArray];omega));clear hR e1 e2 hx hxl hsl;obtain ⟨m,hm⟩:∃ m:Int,m=((k+n:Nat):Int):=⟨_,rfl⟩
   rw [<- hm] at KP E2;clear hm;obtain ⟨X,hX⟩:∃ X:ByteArray,X=⟨x.toArray⟩:=⟨_,rfl⟩
   rw [<- hX] at KP E2 KC;clear hX;go_enter func134,ntmps134;go_wp2_with fail;with_reducible refine KA.out.mono ?_
   rintro e w1 ⟨rfl,rfl⟩;go_wp2_with fail;with_reducible refine (KP.out _).mono ?_
   rintro e w1 ⟨rfl,hb1⟩;have B1:=jH hb1;clear hb1;go_wp2_with fail;with_reducible refine (KC.out _).mono ?_
   rintro e w2 ⟨rfl,hb2⟩;have B2:=jH hb2;clear hb2;have B3:=jH (B1.out.trans (B2.out.mono B1.out.size));obtain ⟨hz,fz,d0,d1,d2⟩:=Kw B3.out;go_wp2;refine bodyPost_ret (v:=.tuple #[.agg #[.int .i64 1,.string X,.int .i64 k],.int .i64 m,.int .i64 0]) (by simp [results,results134,go_sem,d0,d1,d2]) rfl ⟨congrArg Ending.returned E2.out.symm,?_⟩;exact Gp (Fl B3.out) _ _ _
  ·rw [e1] at KP;have E2:=jH (hR.trans e2);clear hR e1 e2 hsl;have hEz:(E == 0)=false:=by rcases hE with rfl | rfl<;>rfl
   clear hE;go_enter func134,ntmps134;go_wp2_with fail;with_reducible refine KA.out.mono ?_
   rintro e w1 ⟨rfl,rfl⟩;go_wp2_with fail;with_reducible refine (KP.out _).mono ?_
   rintro e w1 ⟨rfl,hb1⟩;have B1:=jH hb1;clear hb1;obtain ⟨hz,fz,d0,d1,d2⟩:=Kw B1.out;go_wp2;refine bodyPost_ret (v:=.tuple #[.agg #[.int .i64 0,.string ⟨#[]⟩,.int .i64 0],.int .i64 m,.int .i64 E]) (by simp [results,results134,go_sem,d0,d1,d2]) rfl ⟨congrArg Ending.returned E2.out.symm,?_⟩;exact Gp (Fl B1.out) _ _ _
 ·rw [eo] at hR;rw [e] at KA;have KA:=jH KA;clear e eo hdr;have KP:Hid (∀ W,Calls prog 160 #[.string s,.int .i64 k] W λe w'=>e=.returned (Lex.told k (Lex.lit (s.data.toList.drop (k+1))).top)/\Below W.heap.size W w'):=jH (λW=>(Ajy s k hk W hs).mono λ_ _ h=>⟨h.1,h.2 ▸ jan _ _⟩);rcases Lex.Q6 k 5 (Lex.lit (s.data.toList.drop (k+1))).top with ⟨x,n,e1,e2,hx⟩ | ⟨m,E,hE,e1,e2⟩
  ·rw [e1] at KP;have hxl:=Lex.Ahb _ s.size (λy j h=>by have h1:=Lex.Nx _ _ _ h;have h2:=jaj (i:=k+1) (l:=s.data.toList);have h3:=congrArg List.length h1.2.2.1;rw [jab,jak] at h3;omega) x n hx;have E2:=jH (hR.trans e2);have KC:=jH (λW=>De ⟨x.toArray⟩ W (by simp only [ByteArray.size,List.size_toArray];omega));clear hR e1 e2 hx hxl hsl;obtain ⟨m,hm⟩:∃ m:Int,m=((k+n:Nat):Int):=⟨_,rfl⟩
   rw [<- hm] at KP E2;clear hm;obtain ⟨X,hX⟩:∃ X:ByteArray,X=⟨x.toArray⟩:=⟨_,rfl⟩
   rw [<- hX] at KP E2 KC;clear hX;go_enter func134,ntmps134;go_wp2_with fail;with_reducible refine KA.out.mono ?_
   rintro e w1 ⟨rfl,rfl⟩;go_wp2_with fail;with_reducible refine (KP.out _).mono ?_
   rintro e w1 ⟨rfl,hb1⟩;have B1:=jH hb1;clear hb1;go_wp2_with fail;with_reducible refine (KC.out _).mono ?_
   rintro e w2 ⟨rfl,hb2⟩;have B2:=jH hb2;clear hb2;have B3:=jH (B1.out.trans (B2.out.mono B1.out.size));obtain ⟨hz,fz,d0,d1,d2⟩:=Kw B3.out;go_wp2;refine bodyPost_ret (v:=.tuple #[.agg #[.int .i64 5,.string X,.int .i64 k],.int .i64 m,.int .i64 0]) (by simp [results,results134,go_sem,d0,d1,d2]) rfl ⟨congrArg Ending.returned E2.out.symm,?_⟩;exact Gp (Fl B3.out) _ _ _
  ·rw [e1] at KP;have E2:=jH (hR.trans e2);clear hR e1 e2 hsl;have hEz:(E == 0)=false:=by rcases hE with rfl | rfl<;>rfl
   clear hE;go_enter func134,ntmps134;go_wp2_with fail;with_reducible refine KA.out.mono ?_
   rintro e w1 ⟨rfl,rfl⟩;go_wp2_with fail;with_reducible refine (KP.out _).mono ?_
   rintro e w1 ⟨rfl,hb1⟩;have B1:=jH hb1;clear hb1;obtain ⟨hz,fz,d0,d1,d2⟩:=Kw B1.out;go_wp2;refine bodyPost_ret (v:=.tuple #[.agg #[.int .i64 0,.string ⟨#[]⟩,.int .i64 0],.int .i64 m,.int .i64 E]) (by simp [results,results134,go_sem,d0,d1,d2]) rfl ⟨congrArg Ending.returned E2.out.symm,?_⟩;exact Gp (Fl B1.out) _ _ _
 ·rw [eo] at hR;rw [e] at KA;have KA:=jH KA;clear e eo hdr;have KP:Hid (∀ W,Calls prog 161 #[.string s,.int .i64 k] W λe w'=>e=.returned (Lex.told k (Lex.note (s.data.toList.drop (k+1)) 1).top)/\Below W.heap.size W w'):=jH (λW=>(A0h s k hk h6 W hs).mono λ_ _ h=>⟨h.1,h.2 ▸ jan _ _⟩);rcases Lex.Q6 k 3 (Lex.note (s.data.toList.drop (k+1)) 1).top with ⟨x,n,e1,e2,hx⟩ | ⟨m,E,hE,e1,e2⟩
  ·rw [e1] at KP;have hxl:=Lex.Ahb _ s.size (λy j h=>by have h1:=Lex.Ady _ _ _ _ _ (jaa _) h;have h2:=jaj (i:=k+1) (l:=s.data.toList);have h3:=congrArg List.length h1.2.2.1;rw [jab,jak] at h3;omega) x n hx;have E2:=jH (hR.trans e2);have KC:=jH (λW=>De ⟨x.toArray⟩ W (by simp only [ByteArray.size,List.size_toArray];omega));clear hR e1 e2 hx hxl hsl;obtain ⟨m,hm⟩:∃ m:Int,m=((k+n:Nat):Int):=⟨_,rfl⟩
   rw [<- hm] at KP E2;clear hm;obtain ⟨X,hX⟩:∃ X:ByteArray,X=⟨x.toArray⟩:=⟨_,rfl⟩
   rw [<- hX] at KP E2 KC;clear hX;go_enter func134,ntmps134;go_wp2_with fail;with_reducible refine KA.out.mono ?_
   rintro e w1 ⟨rfl,rfl⟩;go_wp2_with fail;with_reducible refine (KP.out _).mono ?_
   rintro e w1 ⟨rfl,hb1⟩;have B1:=jH hb1;clear hb1;go_wp2_with fail;with_reducible refine (KC.out _).mono ?_
   rintro e w2 ⟨rfl,hb2⟩;have B2:=jH hb2;clear hb2;have B3:=jH (B1.out.trans (B2.out.mono B1.out.size));obtain ⟨hz,fz,d0,d1,d2⟩:=Kw B3.out;go_wp2;refine bodyPost_ret (v:=.tuple #[.agg #[.int .i64 3,.string X,.int .i64 k],.int .i64 m,.int .i64 0]) (by simp [results,results134,go_sem,d0,d1,d2]) rfl ⟨congrArg Ending.returned E2.out.symm,?_⟩;exact Gp (Fl B3.out) _ _ _
  ·rw [e1] at KP;have E2:=jH (hR.trans e2);clear hR e1 e2 hsl;have hEz:(E == 0)=false:=by rcases hE with rfl | rfl<;>rfl
   clear hE;go_enter func134,ntmps134;go_wp2_with fail;with_reducible refine KA.out.mono ?_
   rintro e w1 ⟨rfl,rfl⟩;go_wp2_with fail;with_reducible refine (KP.out _).mono ?_
   rintro e w1 ⟨rfl,hb1⟩;have B1:=jH hb1;clear hb1;obtain ⟨hz,fz,d0,d1,d2⟩:=Kw B1.out;go_wp2;refine bodyPost_ret (v:=.tuple #[.agg #[.int .i64 0,.string ⟨#[]⟩,.int .i64 0],.int .i64 m,.int .i64 E]) (by simp [results,results134,go_sem,d0,d1,d2]) rfl ⟨congrArg Ending.returned E2.out.symm,?_⟩;exact Gp (Fl B1.out) _ _ _
 ·rw [eo] at hR;rw [e] at KA;have KA:=jH KA;clear e eo hdr;have E2:Hid (R=.tuple #[.agg #[.int .i64 0,.string ⟨#[]⟩,.int .i64 0],.int .i64 k,.int .i64 4]):=jH hR;clear hR hsl
  ·go_enter func134,ntmps134;go_wp2_with fail;with_reducible refine KA.out.mono ?_
   rintro e w1 ⟨rfl,rfl⟩;obtain ⟨hz,fz,d0,d1,d2⟩:=Kw (jan (w.alloc (.cells #[.int .i64 0,.string ⟨#[]⟩,.int .i64 0] 83)).heap.size (w.alloc (.cells #[.int .i64 0,.string ⟨#[]⟩,.int .i64 0] 83)));go_wp2;refine bodyPost_ret (v:=.tuple #[.agg #[.int .i64 0,.string ⟨#[]⟩,.int .i64 0],.int .i64 k,.int .i64 4]) (by simp [results,results134,go_sem]) rfl ⟨congrArg Ending.returned E2.out.symm,?_⟩;exact (jan _ w).alloc (jaa _) _
end
section
open Go.RowKit Utf
open Lex (Tok)
namespace Lex
def Got (s:List UInt8) (ts:List Tok) (a:Nat):Prop :=
 all s.length 0 s=if (all (s.drop a).length a (s.drop a)).1=0 then (0,0,ts ++ (all (s.drop a).length a (s.drop a)).2.2) else all (s.drop a).length a (s.drop a)
theorem A6v (s:List UInt8):Got s [] 0:=by
 unfold Got;rw [List.drop_zero];split
 ·rename_i h
  have:=(Amn s.length 0 s (jaa _) h).1;rw [List.nil_append];exact Prod.ext h (Prod.ext this rfl)
 ·rfl
theorem all_nil (a:Nat):all 0 a []=(0,0,[]):=rfl
theorem A3o {s:List UInt8} {ts:List Tok} {a:Nat} (h:Got s ts a) (ha:s.length<=a):all s.length 0 s=(0,0,ts):=by
 unfold Got at h;rw [List.drop_of_length_le ha] at h;rw [h,show ([]:List UInt8).length=0 from rfl,all_nil,if_pos rfl,List.append_nil]
theorem Aqu {l:List UInt8} (hl:l ≠ []) (a:Nat):all l.length a l=match one l with
  | (k,.fine x n)=>if (all (l.length - 1) (a+n) (l.drop n)).1=0 then (0,0,⟨k,x,a⟩::(all (l.length - 1) (a+n) (l.drop n)).2.2) else all (l.length - 1) (a+n) (l.drop n)
  | (_,.bad i)=>(4,a+i,[])
  | (_,.deep i)=>(6,a+i,[])
  | (_,.gap)=>(4,a,[]):=by
 obtain ⟨m,hm⟩:∃ m,l.length=m+1:=⟨l.length - 1,by have:=List.length_pos_iff.2 hl;omega⟩
 rw [hm,Nat.add_sub_cancel,all.eq_def];simp only [if_neg hl];obtain ⟨k,r⟩:=one l;cases r<;>rfl
theorem Azb {s:List UInt8} {ts:List Tok} {a:Nat} (h:Got s ts a) (ha:a<s.length) {k:Int} {x:List UInt8} {n:Nat} (h1:one (s.drop a)=(k,.fine x n)):0<n/\a+n<=s.length/\Got s (ts ++ [⟨k,x,a⟩]) (a+n):=by
 have hl:s.drop a ≠ []:=λe=>by have:=congrArg List.length e;rw [jaj] at this;simp at this;omega
 have ho:=Jy h1;have hn:=ho.1;have hn2:=ho.2.1;rw [jaj] at hn2;refine ⟨hn,by omega,?_⟩;unfold Got at h ⊢;rw [Aqu hl,h1] at h;simp only at h;rw [List.drop_drop,Ahs _ (s.drop (a+n)).length (a+n) (s.drop (a+n)) (by simp only [jaj];omega) (jaa _)] at h;rw [h];by_cases hz:(all (s.drop (a+n)).length (a+n) (s.drop (a+n))).1=0
 ·rw [if_pos hz,if_pos hz];simp only [if_true,jaq,jah,List.nil_append]
 ·rw [if_neg hz,if_neg hz,if_neg hz]
theorem Atp {s:List UInt8} {ts:List Tok} {a:Nat} (h:Got s ts a) (ha:a<s.length):(∀ k i,one (s.drop a)=(k,.bad i)->all s.length 0 s=(4,a+i,[]))/\(∀ k i,one (s.drop a)=(k,.deep i)->all s.length 0 s=(6,a+i,[]))/\(∀ k,one (s.drop a)=(k,.gap)->all s.length 0 s=(4,a,[])):=by
 have hl:s.drop a ≠ []:=λe=>by have:=congrArg List.length e;rw [jaj] at this;simp at this;omega
 unfold Got at h;rw [Aqu hl] at h;refine ⟨λk i e=>?_,λk i e=>?_,λk e=>?_⟩<;>(rw [e] at h;simpa using h)
theorem Ap5 {s:List UInt8} {ts:List Tok} {a:Nat} (h:Got s ts a) (ha:a<s.length) :
  (∃ k x n,Awx a (one (s.drop a))=.tuple #[.agg #[.int .i64 k,.string ⟨x.toArray⟩,.int .i64 (a:Int)],.int .i64 ((a+n:Nat):Int),.int .i64 0]/\0<n/\a+n<=s.length/\Got s (ts ++ [⟨k,x,a⟩]) (a+n)) \/
  (∃ p E,(E=4\/E=6)/\Awx a (one (s.drop a))=.tuple #[.agg #[.int .i64 0,.string ⟨#[]⟩,.int .i64 0],.int .i64 ((p:Nat):Int),.int .i64 E]/\all s.length 0 s=(E,p,[])):=by
 obtain ⟨w1,w2,w3⟩:=Atp h ha;cases ho:one (s.drop a) with
 | mk k r =>
  cases r with
  | fine x n=>exact .inl ⟨k,x,n,rfl,Azb h ha ho⟩
  | bad i=>exact .inr ⟨a+i,4,.inl rfl,rfl,w1 k i ho⟩
  | deep i=>exact .inr ⟨a+i,6,.inr rfl,rfl,w2 k i ho⟩
  | gap=>exact .inr ⟨a,4,.inl rfl,rfl,w3 k ho⟩
end Lex
theorem Azp (s:ByteArray) (w:World) (hs:s.size<=100000) :
  Calls prog 105 #[.string s] w (Rc (Lex.Ee s.data.toList).1 (Lex.Ee s.data.toList).2.1 (Lex.Ee s.data.toList).2.2 w):=by
 have hsl:s.data.toList.length=s.size:=by simp
 obtain ⟨R,hR⟩:∃ R,R=Lex.Ee s.data.toList:=⟨_,rfl⟩
 rw [<- hR];have hR0:=hR;unfold Lex.Ee at hR;rw [hsl] at hR;by_cases h1:2000<s.size
 ·rw [if_pos h1] at hR;subst hR;have h1z:(2000:Int)<(s.size:Int):=jO
  clear hR0;go_enter func105,ntmps105;go_wp2;go_ret3;exact Ml rfl (Abc.nil _) (jan _ _)
 ·rw [if_neg h1] at hR;have h1z:¬ (2000:Int)<(s.size:Int):=jO
  have KR:=jH (Vb s w hs);obtain ⟨z,hz⟩:∃ z,z=(Au s.data.toList).2:=⟨_,rfl⟩
  unfold Tp at KR;rw [<- hz] at KR hR;by_cases h2:z=-1
  ·rw [if_pos h2] at hR;have hz2:¬ (0:Int)<=z:=jO
   have HR:=jH hR;have hs2:s.size<=2000:=jO
   clear hR hR0 hz h2 h1;go_enter func105,ntmps105;go_wp2_with fail;refine KR.out.mono ?_;rintro e w1 ⟨v,rfl,-,hb⟩;have B0:=jH hb;clear hb;go_wp2;go_loopg [7,8] (s.size+1) (λgk s7 s8 wr=>∃ (a:Nat) (ts:List Tok),s8=.int .i64 a/\a<=s.size/\s.size - a<gk/\Hid (Lex.Got s.data.toList ts a/\Nh w.heap.size s7 ts wr/\ts.length<=a/\Below w.heap.size w wr))
   case atStart=>exact ⟨0,[],rfl,Nat.zero_le _,by omega,jH ⟨Lex.A6v _,Nh.nil _ _,Nat.zero_le _,B0.out⟩⟩
   case round =>
    obtain ⟨a,ts,rfl,ha,hg,I⟩:=hrel;by_cases hlt:a<s.size
    ·have haz:(a:Int)<(s.size:Int):=jO
     have KT:=Awy s a hlt wr hs;rcases Lex.Ap5 I.out.1 (by rw [hsl];exact hlt) with ⟨k,x,n,e1,h0,h2,hG⟩ | ⟨p,E,hE,e1,e2⟩
     ·rw [e1] at KT;have KT:=jH KT;rw [hsl] at h2;obtain ⟨m,hm⟩:∃ m,m=a+n:=⟨_,rfl⟩
      rw [<- hm] at KT hG h2;have HG:=jH hG;have ham:a<m:=jO
      have hts:ts.length<=1000000:=by have:=I.out.2.2.1;omega
      clear e1 hG hm h0;go_wp2_with fail;with_reducible refine KT.out.mono ?_
      rintro e w1 ⟨rfl,hb1⟩;have B1:=jH hb1;clear hb1;go_wp2_with (at_builtin;refine Amp _ w.heap.size u7 ts ((I.out.2.1.Ac B1.out).Ac ((jan _ w1).alloc (jaa _) _)) (Nat.le_trans I.out.2.2.2.size (Nat.le_trans B1.out.size jS)) hts ⟨k,x,a⟩ _ jS rfl _ _ rfl rfl rfl ?_;intro v2 w2 ho2 hb2;have HO:=jH ho2;have HB2:=jH hb2;clear ho2 hb2);have I2:Hid (Lex.Got s.data.toList (ts ++ [⟨k,x,a⟩]) m/\Nh w.heap.size v2 (ts ++ [⟨k,x,a⟩]) w2/\(ts ++ [(⟨k,x,a⟩:Tok)]).length<=m/\Below w.heap.size w w2) :=
       jH ⟨HG.out,HO.out,by rw [jab];have:=I.out.2.2.1;simp;omega,((I.out.2.2.2.trans (B1.out.mono I.out.2.2.2.size)).alloc (Nat.le_trans I.out.2.2.2.size B1.out.size) _).trans HB2.out⟩
      go_roundg (s.size - a)
      case measure=>omega
      case rel=>exact ⟨m,ts ++ [⟨k,x,a⟩],rfl,h2,by omega,I2⟩
     ·rw [e1] at KT;have KT:=jH KT;have E2:=jH (HR.out.trans e2);have hEz:(E == 0)=false:=by rcases hE with rfl | rfl<;>rfl
      clear e1 e2 hE;go_wp2_with fail;with_reducible refine KT.out.mono ?_
      rintro e w1 ⟨rfl,hb1⟩;have B1:=jH hb1;clear hb1;go_wp2;go_ret3;have:=E2.out;subst this;exact Ml rfl (Abc.nil _) ((((I.out.2.2.2.trans (B1.out.mono I.out.2.2.2.size)).alloc (Nat.le_trans I.out.2.2.2.size B1.out.size) _)))
    ·obtain rfl:a=s.size:=jO
     have E2:=jH (HR.out.trans (Lex.A3o I.out.1 (by rw [hsl];exact jaa _)));have haz:¬ (s.size:Int)<(s.size:Int):=jO
     go_wp2;go_ret3;have:=E2.out;subst this;exact Ml rfl I.out.2.1.Aha I.out.2.2.2
  ·rw [if_neg h2] at hR;have hz0:0<=z:=by
    obtain ⟨-,-,h3⟩:=Eu (s:=s.data.toList) (m:=(Au s.data.toList).1) (z:=(Au s.data.toList).2) rfl;rcases h3 with ⟨h3,-⟩ | ⟨k,h3,-⟩
    ·exact absurd (hz.trans h3) h2
    ·rw [hz,h3];omega
   subst hR;clear hR0 hz h2 h1;go_enter func105,ntmps105;go_wp2_with fail;refine KR.out.mono ?_;rintro e w1 ⟨v,rfl,-,hb⟩;have B0:=jH hb;clear hb;go_wp2;go_ret3;refine Ml (v:=.slice none 0 0) ?_ (Abc.nil _) B0.out;show Ending.returned (.tuple #[_,.int .i64 z,_])=.returned (.tuple #[_,.int .i64 ((z.toNat:Nat):Int),_]);rw [Int.toNat_of_nonneg hz0];rfl
theorem Z0 (s:ByteArray) (w:World) (hs:s.size<=100000):Calls prog 59 #[.string s] w λe w'=>e=.returned (.bool (Lex.Fg s.data.toList))/\Below w.heap.size w w':=by
 by_cases h0:s.size=0
 ·obtain rfl:s=ByteArray.empty:=ByteArray.size_eq_zero_iff.1 h0;go_enter func59,ntmps59;go_wp2;go_ret;exact ⟨rfl,jan _ _⟩
 ·have hpos:0<s.size:=jO
  have hne:=Lex.ne_nil hpos;have hsl:s.data.toList.length=s.size:=by simp
  have K:=Q1 86 Lex.Rl Lex.Rm (λ_ _=>by kernel_rfl) (λt W h=>Rn t W h) s 0 (Nat.zero_le _) w hs;rw [List.drop_zero,Lex.Aab,Nat.zero_add,show ((0:Nat):Int)=0 from rfl] at K;have hx:(((s.data.toList.takeWhile Lex.Al).length:Int) == (s.size:Int))=Lex.Fg s.data.toList:=by
   unfold Lex.Fg;have he:s.data.toList.isEmpty=false:=by
    rw [List.isEmpty_eq_false_iff];exact λe=>h0 (by rw [<- hsl,e];rfl)
   rw [he,Bool.not_false,Bool.true_and,<- hsl];generalize s.data.toList=l;rw [Bool.eq_iff_iff,beq_iff_eq,jar];have hW:=Lex.Fo Lex.Al l;constructor
   ·intro h;have h2:(l.takeWhile Lex.Al).length=l.length:=jO
    have h3:=hW.2.1;rw [h2,List.take_length] at h3;rw [<- h3];exact hW.2.2.1
   ·intro h;have h2:=Lex.Pn Lex.Al l [] h (λc t e=>by cases e);rw [List.append_nil] at h2;rw [h2]
  rw [<- hx];generalize (s.data.toList.takeWhile Lex.Al).length=n at K ⊢;have K:=jH K;clear hx hsl h0;go_enter func59,ntmps59;go_wp2_with fail;with_reducible refine K.out.mono ?_
  rintro e w1 ⟨rfl,rfl⟩;go_wp2;go_ret;exact ⟨rfl,jan _ _⟩
end
