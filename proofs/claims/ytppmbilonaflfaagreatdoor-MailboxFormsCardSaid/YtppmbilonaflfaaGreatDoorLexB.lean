import Derived.Test.YtppmbilonaflfaaGreatDoorLexA
import Derived.Test.YtppmbilonaflfaaGreatDoorDomMid
set_option maxHeartbeats 4000000
namespace Go.Proofs.YtppmbilonaflfaaGreatDoor
section
open Go.RowKit Utf
namespace Lex
theorem Wi (r:Cut) (x y:List UInt8) (a b:Nat):(r.on x a).on y b=r.on (y ++ x) (a+b):=by
 cases r<;>simp [Cut.on,Nat.add_assoc]
theorem Aiw (r:Cut):r.on [] 0=r:=by cases r<;>rfl
def told (k:Nat):Cut->Value
 | .fine x n=>.tuple #[.string ⟨x.toArray⟩,.int .i64 ((k+n:Nat):Int),.int .i64 0]
 | .bad i=>.tuple #[.string ⟨#[]⟩,.int .i64 ((k+i:Nat):Int),.int .i64 4]
 | .deep i=>.tuple #[.string ⟨#[]⟩,.int .i64 ((k+i:Nat):Int),.int .i64 6]
 | .gap=>.tuple #[.string ⟨#[]⟩,.int .i64 (k:Int),.int .i64 4]
theorem Nx {s:ByteArray} {a j:Nat} (h1:a<=j) (h2:j<s.size):(s.data.toList.drop a).take (j+1 - a)=(s.data.toList.drop a).take (j - a) ++ [s[j]]:=by
 rw [show j+1 - a=(j - a)+1 by omega,List.take_add_one,List.getElem?_drop,show a+(j - a)=j by omega,List.getElem?_eq_getElem (by simpa using h2)]
 rfl
def Qb (s:ByteArray) (a j:Nat):Prop:=lit (s.data.toList.drop a)=(lit (s.data.toList.drop j)).on ((s.data.toList.drop a).take (j - a)) (j - a)
theorem Av0 (s:ByteArray) (a:Nat):Qb s a a:=by
 unfold Qb
 rw [Nat.sub_self,List.take_zero,Aiw]
theorem Xd (c:UInt8) (t:List UInt8):lit (c::t)=if c.toNat=93 then .fine [] 1 else if Gu c.toNat=true/\c.toNat ≠ 91/\c.toNat ≠ 92 then (lit t).on [c] 1 else .bad 0:=by rw [lit]
theorem Aql {s:ByteArray} {a j:Nat} (h:Qb s a j) (hj:j<s.size) (hc:s[j].toNat=93):lit (s.data.toList.drop a)=.fine ((s.data.toList.drop a).take (j - a)) (j - a+1):=by
 rw [h,Aw s j hj,Xd,if_pos hc]
 simp [Cut.on]
 omega
theorem R4 {s:ByteArray} {a j:Nat} (h:Qb s a j) (hj:j<s.size) (hc:s[j].toNat ≠ 93) (hb:¬ (Gu s[j].toNat=true/\s[j].toNat ≠ 91/\s[j].toNat ≠ 92)):lit (s.data.toList.drop a)=.bad (j - a):=by
 rw [h,Aw s j hj,Xd,if_neg hc,if_neg hb]
 simp [Cut.on]
theorem Aum {s:ByteArray} {a j:Nat} (h:Qb s a j) (h1:a<=j) (hj:j<s.size) (hc:s[j].toNat ≠ 93) (hb:Gu s[j].toNat=true/\s[j].toNat ≠ 91/\s[j].toNat ≠ 92):Qb s a (j+1):=by
 unfold Qb at h ⊢
 rw [h,Aw s j hj,Xd,if_neg hc,if_pos hb,Wi,Nx h1 hj,show 1+(j - a)=j+1 - a by omega]
theorem Aoo {s:ByteArray} {a:Nat} (h:Qb s a s.size):lit (s.data.toList.drop a)=.gap:=by
 rw [h,show s.data.toList.drop s.size=[] from List.drop_of_length_le (by simp)]
 rfl
theorem Abm {k n:Nat} {x:List UInt8} {s:ByteArray} {i j:Nat} {m:Int} (hs:s.extract i j=⟨x.toArray⟩) (hm:((k+1+n:Nat):Int)=m):told k (Cut.top (.fine x n))=.tuple #[.string (s.extract i j),.int .i64 m,.int .i64 0]:=by
 subst hm
 rw [hs]
 show Value.tuple #[_,.int .i64 ((k+(n+1):Nat):Int),_]=_
 rw [show k+(n+1)=k+1+n by omega]
theorem Ml {k i:Nat} {m:Int} (hm:((k+1+i:Nat):Int)=m):told k (Cut.top (.bad i))=.tuple #[.string ⟨#[]⟩,.int .i64 m,.int .i64 4]:=by
 subst hm
 show Value.tuple #[_,.int .i64 ((k+(i+1):Nat):Int),_]=_
 rw [show k+(i+1)=k+1+i by omega]
theorem Apv {k i:Nat} {m:Int} (hm:((k+1+i:Nat):Int)=m):told k (Cut.top (.deep i))=.tuple #[.string ⟨#[]⟩,.int .i64 m,.int .i64 6]:=by
 subst hm
 show Value.tuple #[_,.int .i64 ((k+(i+1):Nat):Int),_]=_
 rw [show k+(i+1)=k+1+i by omega]
end Lex
set_option maxRecDepth 100000 in
theorem Aep (s:ByteArray) (k:Nat) (hk:k<s.size) (w:World) (hs:s.size<=100000) :
  Calls Tryz.prog 144 #[.string s,.int .i64 k] w λe w'=>e=.returned (Lex.told k (Lex.lit (s.data.toList.drop (k+1))).top)/\w=w':=by
 obtain ⟨R,hR⟩:∃ R,R=Lex.told k (Lex.lit (s.data.toList.drop (k+1))).top:=⟨_,rfl⟩
 rw [<- hR]
 have HR:=Lib.hid hR
 clear hR
 go_enter Tryz.func144,Tryz.ntmps144
 go_wp2
 go_loopg [7] (s.size+1) (λgk s7 wr=>∃ j:Nat,s7=.int .i64 j/\k+1<=j/\j<=s.size/\s.size - j<gk/\Hid (Lex.Qb s (k+1) j)/\w=wr)
 case atStart=>exact ⟨k+1,by go_num,Nat.le_refl _,by omega,by omega,Lib.hid (Lex.Av0 _ _),rfl⟩
 case round =>
  obtain ⟨j,rfl,hj1,hj,hg,I,rfl⟩:=hrel
  by_cases hlt:j<s.size
  ·have hjz:(j:Int)<(s.size:Int):=by omega
   by_cases h93:s[j].toNat=93
   ·have E:Hid (R=.tuple #[.string (s.extract (k+1) j),.int .i64 ((j:Int)+1),.int .i64 0]):=Lib.hid (by
     rw [HR.out,Lex.Aql I.out hlt h93]
     exact Lex.Abm (by rw [<- Lex.Tf]) (by omega))
    have hkj:(k:Int)+1<=(j:Int):=by omega
    clear I
    go_wp2
    go_ret3
    exact ⟨congrArg Ending.returned E.out.symm,rfl⟩
   ·have h93z:((s[j].toNat:Int) == 93)=false:=by simpa using (by omega:¬ (s[j].toNat:Int)=93)
    have K:=Of s[j] w
    by_cases h91:s[j].toNat=91
    ·have E:Hid (R=.tuple #[.string ⟨#[]⟩,.int .i64 (j:Int),.int .i64 4]):=Lib.hid (by
      rw [HR.out,Lex.R4 I.out hlt h93 (λh=>h.2.1 h91)]
      exact Lex.Ml (by omega))
     clear I h93 K
     go_wp2
     go_ret3
     exact ⟨congrArg Ending.returned E.out.symm,rfl⟩
    ·have h91z:((s[j].toNat:Int) == 91)=false:=by simpa using (by omega:¬ (s[j].toNat:Int)=91)
     by_cases h92:s[j].toNat=92
     ·have E:Hid (R=.tuple #[.string ⟨#[]⟩,.int .i64 (j:Int),.int .i64 4]):=Lib.hid (by
       rw [HR.out,Lex.R4 I.out hlt h93 (λh=>h.2.2 h92)]
       exact Lex.Ml (by omega))
      clear I h93 h91 K
      go_wp2
      go_ret3
      exact ⟨congrArg Ending.returned E.out.symm,rfl⟩
     ·have h92z:((s[j].toNat:Int) == 92)=false:=by simpa using (by omega:¬ (s[j].toNat:Int)=92)
      cases hp:Lex.Gu s[j].toNat with
      | false =>
       rw [hp] at K
       have K:=Lib.hid K
       have E:Hid (R=.tuple #[.string ⟨#[]⟩,.int .i64 (j:Int),.int .i64 4]):=Lib.hid (by
        rw [HR.out,Lex.R4 I.out hlt h93 (λh=>by rw [hp] at h;exact Bool.noConfusion h.1)]
        exact Lex.Ml (by omega))
       clear I h93 h91 h92 hp
       go_wp2_with (go_at_call 195;with_reducible refine K.out.mono ?_;rintro e w1 ⟨rfl,rfl⟩)
       go_ret3
       exact ⟨congrArg Ending.returned E.out.symm,rfl⟩
      | true =>
       rw [hp] at K
       have K:=Lib.hid K
       have I2:=Lib.hid (Lex.Aum I.out hj1 hlt h93 ⟨hp,h91,h92⟩)
       clear I h93 h91 h92 hp
       go_wp2_with (go_at_call 195;with_reducible refine K.out.mono ?_;rintro e w1 ⟨rfl,rfl⟩)
       go_roundg (s.size - j)
       case measure=>omega
       case rel=>exact ⟨j+1,by go_num,by omega,by omega,by omega,I2,rfl⟩
  ·obtain rfl:j=s.size:=by omega
   have E:Hid (R=.tuple #[.string ⟨#[]⟩,.int .i64 (k:Int),.int .i64 4]):=Lib.hid (by rw [HR.out,Lex.Aoo I.out];rfl)
   have hjz:¬ (s.size:Int)<(s.size:Int):=by omega
   clear I
   go_wp2
   go_ret3
   exact ⟨congrArg Ending.returned E.out.symm,rfl⟩
namespace Lex
theorem Aw3 (c:UInt8) (t:List UInt8) (h34:c.toNat ≠ 34) (h92:c.toNat ≠ 92):quo (c::t)=if Bf c then (quo t).on [c] 1 else .bad 0:=by
 rw [quo.eq_def]
 simp only [if_neg h34,if_neg h92]
theorem At4 (c:UInt8) (t:List UInt8) (h92:c.toNat=92):quo (c::t)=match t with | []=>.gap | d::r=>if Bf d then (quo r).on [d] 2 else .bad 1:=by
 rw [quo.eq_def]
 simp only [if_neg (show ¬ c.toNat=34 by omega),if_pos h92]
 cases t<;>rfl
theorem Apc (c:UInt8) (t:List UInt8) (h34:c.toNat=34):quo (c::t)=.fine [] 1:=by
 rw [quo.eq_def]
 simp only [if_pos h34]
def Aav (s:ByteArray) (a j:Nat) (x:List UInt8):Prop:=(j<s.size->quo (s.data.toList.drop a)=(quo (s.data.toList.drop j)).on x (j - a))/\(j=s.size->quo (s.data.toList.drop a)=.gap)
theorem Av8 {s:ByteArray} {a:Nat}:Aav s a a []:=by
 refine ⟨λ_=>by rw [Nat.sub_self,Aiw],λh=>?_⟩
 rw [h,show s.data.toList.drop s.size=[] from List.drop_of_length_le (by simp)]
 rfl
theorem Apr {s:ByteArray} {a j:Nat} {x:List UInt8} (h:Aav s a j x) (hj:j<s.size) (hc:s[j].toNat=34):quo (s.data.toList.drop a)=.fine x (j - a+1):=by
 rw [h.1 hj,Aw s j hj,Apc _ _ hc]
 simp [Cut.on]
 omega
theorem Aiz {s:ByteArray} {a j m:Nat} {x:List UInt8} (h:Aav s a j x) (h1:a<=j) (hj:j<s.size) (hc:s[j].toNat ≠ 34) (hm:m=if s[j].toNat=92/\j+1<s.size then j+1 else j) (hmz:m<s.size) :
  (Bf s[m]=false->quo (s.data.toList.drop a)=.bad (m - a))/\(Bf s[m]=true->Aav s a (m+1) (x ++ [s[m]])):=by
 have h0:=h.1 hj
 have hend:s.data.toList.drop s.size=[]:=List.drop_of_length_le (by simp)
 by_cases h92:s[j].toNat=92
 ·by_cases h2:j+1<s.size
  ·rw [if_pos ⟨h92,h2⟩] at hm
   subst hm
   rw [Aw s j hj,At4 _ _ h92,Aw s (j+1) h2] at h0
   simp only at h0
   constructor
   ·intro hf
    rw [if_neg (by rw [hf];decide)] at h0
    rw [h0]
    show Cut.bad (1+(j - a))=_
    rw [show 1+(j - a)=j+1 - a by omega]
   ·intro hf
    rw [if_pos hf,Wi,show 2+(j - a)=j+1+1 - a by omega] at h0
    refine ⟨λ_=>h0,λhe=>?_⟩
    rw [h0,he,hend]
    rfl
  ·rw [if_neg (λh=>h2 h.2)] at hm
   subst hm
   have he:m+1=s.size:=by omega
   have hf:Bf s[m]=true:=by unfold Bf;rw [h92];decide
   rw [Aw s m hj,At4 _ _ h92,he,hend] at h0
   refine ⟨λh=>(by rw [hf] at h;cases h),λ_=>⟨λh=>absurd h (by omega),λ_=>?_⟩⟩
   rw [h0]
   rfl
 ·rw [if_neg (λh=>h92 h.1)] at hm
  subst hm
  rw [Aw s m hj,Aw3 _ _ hc h92] at h0
  constructor
  ·intro hf
   rw [if_neg (by rw [hf];decide)] at h0
   rw [h0]
   show Cut.bad (0+(m - a))=_
   rw [Nat.zero_add]
  ·intro hf
   rw [if_pos hf,Wi,show 1+(m - a)=m+1 - a by omega] at h0
   refine ⟨λ_=>h0,λhe=>?_⟩
   rw [h0,he,hend]
   rfl
theorem Aso {k n:Nat} {x:List UInt8} {m:Int} (hm:((k+1+n:Nat):Int)=m):told k (Cut.top (.fine x n))=.tuple #[.string ⟨x.toArray⟩,.int .i64 m,.int .i64 0]:=by
 subst hm
 show Value.tuple #[_,.int .i64 ((k+(n+1):Nat):Int),_]=_
 rw [show k+(n+1)=k+1+n by omega]
end Lex
set_option maxRecDepth 100000 in
theorem Apw (s:ByteArray) (k:Nat) (hk:k<s.size) (w:World) (hs:s.size<=100000) :
  Calls Tryz.prog 143 #[.string s,.int .i64 k] w λe w'=>e=.returned (Lex.told k (Lex.quo (s.data.toList.drop (k+1))).top)/\Below w.heap.size w w':=by
 obtain ⟨R,hR⟩:∃ R,R=Lex.told k (Lex.quo (s.data.toList.drop (k+1))).top:=⟨_,rfl⟩
 rw [<- hR]
 have HR:=Lib.hid hR
 clear hR
 go_enter Tryz.func143,Tryz.ntmps143
 go_wp2
 go_loopg [7,8] (s.size+1) (λgk s7 s8 wr=>∃ (j:Nat) (x:List UInt8),s8=.int .i64 j/\k+1<=j/\j<=s.size/\s.size - j<gk/\Hid (Lex.Aav s (k+1) j x/\Bu w.heap.size s7 x wr/\x.length<=j/\Below w.heap.size w wr))
 case atStart=>exact ⟨k+1,[],by go_num,Nat.le_refl _,by omega,by omega,Lib.hid ⟨Lex.Av8,Bu.nil _ _,Nat.zero_le _,Below.refl _ _⟩⟩
 case round =>
  obtain ⟨j,x,rfl,hj1,hj,hg,I⟩:=hrel
  by_cases hlt:j<s.size
  ·have hjz:(j:Int)<(s.size:Int):=by omega
   by_cases h34:s[j].toNat=34
   ·have E:Hid (R=.tuple #[.string ⟨x.toArray⟩,.int .i64 ((j:Int)+1),.int .i64 0]):=Lib.hid (by
     rw [HR.out,Lex.Apr I.out.1 hlt h34]
     exact Lex.Aso (by omega))
    have hcv:=Ip I.out.2.1.bytes
    go_wp2
    go_ret3
    exact ⟨congrArg Ending.returned E.out.symm,I.out.2.2.2⟩
   ·have h34z:((s[j].toNat:Int) == 34)=false:=by simpa using (by omega:¬ (s[j].toNat:Int)=34)
    have K:=Zn s j hlt wr hs
    obtain ⟨m,hm⟩:∃ m,m=if s[j].toNat=92/\j+1<s.size then j+1 else j:=⟨_,rfl⟩
    rw [<- hm] at K
    have hmz:m<s.size/\j<=m:=by
     rw [hm]
     split
     ·rename_i h;exact ⟨h.2,by omega⟩
     ·exact ⟨hlt,Nat.le_refl _⟩
    obtain ⟨hm1,hjm⟩:=hmz
    have N:=Lex.Aiz I.out.1 hj1 hlt h34 hm hm1
    have K:=Lib.hid K
    have hmi:(m:Int)<(s.size:Int):=by omega
    have KT:=Yd s[m] wr
    clear hm h34
    cases hf:Lex.Bf s[m] with
    | false =>
     have E:Hid (R=.tuple #[.string ⟨#[]⟩,.int .i64 (m:Int),.int .i64 4]):=Lib.hid (by
      rw [HR.out,N.1 hf]
      exact Lex.Ml (by omega))
     rw [hf] at KT
     have KT:=Lib.hid KT
     clear N hf
     go_wp2_with (first | (go_at_call 193;with_reducible refine K.out.mono ?_;rintro e w1 ⟨rfl,rfl⟩) | (go_at_call 194;with_reducible refine KT.out.mono ?_;rintro e w1 ⟨rfl,rfl⟩))
     go_ret3
     exact ⟨congrArg Ending.returned E.out.symm,I.out.2.2.2⟩
    | true =>
     have N2:=Lib.hid (N.2 hf)
     rw [hf] at KT
     have KT:=Lib.hid KT
     have hxl:x.length<=1000000:=by have:=I.out.2.2.1;omega
     clear N hf
     go_wp2_with (first
      | (go_at_call 193;with_reducible refine K.out.mono ?_;rintro e w1 ⟨rfl,rfl⟩)
      | (go_at_call 194;with_reducible refine KT.out.mono ?_;rintro e w1 ⟨rfl,rfl⟩)
      | (at_builtin;refine Cz _ 94 5 (.int .u8 0) 1 Tryz.underlying94 Fb rfl (by omega) w.heap.size u7 _ _ I.out.2.1 I.out.2.2.2.size hxl 1 (by omega) _ rfl rfl rfl _ _ rfl rfl rfl ?_;intro v2 w2 ho2 hb2;have HO:=Lib.hid ho2;have HB2:=Lib.hid hb2;clear ho2 hb2))
     have I2:Hid (Lex.Aav s (k+1) (m+1) (x ++ [s[m]])/\Bu w.heap.size v2 (x ++ [s[m]]) w2/\(x ++ [s[m]]).length<=m+1/\Below w.heap.size w w2) :=
      Lib.hid ⟨N2.out,Bu.more HO.out rfl rfl,by rw [List.length_append];have:=I.out.2.2.1;simp;omega,I.out.2.2.2.trans HB2.out⟩
     go_roundg (s.size - j)
     case measure=>omega
     case rel=>exact ⟨m+1,x ++ [s[m]],by go_num,by omega,by omega,by omega,I2⟩
  ·obtain rfl:j=s.size:=by omega
   have E:Hid (R=.tuple #[.string ⟨#[]⟩,.int .i64 (k:Int),.int .i64 4]):=Lib.hid (by rw [HR.out,I.out.1.2 rfl];rfl)
   have hjz:¬ (s.size:Int)<(s.size:Int):=by omega
   go_wp2
   go_ret3
   exact ⟨congrArg Ending.returned E.out.symm,I.out.2.2.2⟩
end
section
open Go.RowKit Utf
section
variable {P:Program} {Q:Exit->Act->World->Prop} {a:Act} {w:World}
def Awv (l m:Nat) (J K:Act->World->Prop) (Q:Exit->Act->World->Prop):Exit->Act->World->Prop
 | .goto l',a,w=>(l'=l/\J a w)\/(l'=m/\K a w)
 | e,a,w=>Q e a w
theorem Ap8 {c r1 r2:Code} (l m:Nat) (h1:findLabel c l=some r1) (h2:findLabel c m=some r2)
  (h:c.wp P (Awv l m (λa' w'=>r1.wp P (Exit.noGoto Q) a' w') (λa' w'=>r2.wp P (Exit.noGoto Q) a' w') Q) a w):(Code.scope c).wp P Q a w:=by
 intro b k cs
 have key:∀ (r:Code) (a:Act) (w:World),r.wp P (Exit.noGoto Q) a w->∃ e a' w',Q e a' w'/\Arrives P (lone (b.at a (.code r::.inScope c::k)) cs w) b k cs e a' w':=by
  intro r a w hr
  obtain ⟨e,a₁,w₁,hq,harr⟩:=hr b (.inScope c::k) cs
  cases e with
  | normal=>exact ⟨.normal,a₁,w₁,hq,Steps.trans harr (.one step_inScope)⟩
  | exit id=>exact ⟨.exit id,a₁,w₁,hq,λk' hk=>harr k' (by simp [exitTo,hk])⟩
  | goto l'=>exact hq.elim
  | ret=>exact ⟨_,a₁,w₁,hq,harr⟩
  | panic ch=>exact ⟨_,a₁,w₁,hq,harr⟩
  | outgrown=>exact ⟨_,a₁,w₁,hq,harr⟩
 obtain ⟨e,a₁,w₁,hq,harr⟩:=h b (.inScope c::k) cs
 cases e with
 | normal=>exact ⟨.normal,a₁,w₁,hq,.head step_scope (Steps.trans harr (.one step_inScope))⟩
 | exit id=>exact ⟨.exit id,a₁,w₁,hq,λk' hk=>.head step_scope (harr k' (by simp [exitTo,hk]))⟩
 | goto l' =>
  rcases hq with ⟨rfl,hJ⟩ | ⟨rfl,hK⟩
  ·obtain ⟨e₂,a₂,w₂,hq₂,harr₂⟩:=key _ a₁ w₁ hJ
   exact ⟨e₂,a₂,w₂,hq₂,.of_steps (.head step_scope (harr _ (by simp [gotoIn,h1]))) harr₂⟩
  ·obtain ⟨e₂,a₂,w₂,hq₂,harr₂⟩:=key _ a₁ w₁ hK
   exact ⟨e₂,a₂,w₂,hq₂,.of_steps (.head step_scope (harr _ (by simp [gotoIn,h2]))) harr₂⟩
 | ret=>exact ⟨_,a₁,w₁,hq,.of_steps (.one step_scope) harr⟩
 | panic ch=>exact ⟨_,a₁,w₁,hq,.of_steps (.one step_scope) harr⟩
 | outgrown=>exact ⟨_,a₁,w₁,hq,.of_steps (.one step_scope) harr⟩
theorem Amz (l m:Nat) (J K:Act->World->Prop):Awv l m J K Q .ret a w=Q .ret a w:=rfl
end
namespace Lex
def Gm (s:ByteArray) (a j d:Nat):Prop:=(j<s.size->note (s.data.toList.drop a) 1=(note (s.data.toList.drop j) d).on ((s.data.toList.drop a).take (j - a)) (j - a))/\(j=s.size->note (s.data.toList.drop a) 1=.gap)
theorem Jz (s:ByteArray):s.data.toList.drop s.size=[]:=List.drop_of_length_le (by simp)
theorem Ard {s:ByteArray} {a:Nat}:Gm s a a 1:=by
 refine ⟨λ_=>by rw [Nat.sub_self,List.take_zero,Aiw],λh=>?_⟩
 rw [h,Jz]
 rfl
theorem Aeq {s:ByteArray} {a j d:Nat} (h:Gm s a j d) (hj:j<s.size) (hc:s[j].toNat=40) (hd:32<=d):note (s.data.toList.drop a) 1=.deep (j - a):=by
 rw [h.1 hj,Aw s j hj,Adl hc,if_pos hd]
 show Cut.deep (0+(j - a))=_
 rw [Nat.zero_add]
theorem Ao4 {s:ByteArray} {a j d:Nat} (h:Gm s a j d) (h1:a<=j) (hj:j<s.size) (hc:s[j].toNat=40) (hd:¬ 32<=d):Gm s a (j+1) (d+1):=by
 have h0:=h.1 hj
 rw [Aw s j hj,Adl hc,if_neg hd,Wi,<- Nx h1 hj,show 1+(j - a)=j+1 - a by omega] at h0
 refine ⟨λ_=>h0,λhe=>?_⟩
 rw [h0,he,Jz]
 rfl
theorem Akk {s:ByteArray} {a j d:Nat} (h:Gm s a j d) (hj:j<s.size) (hc:s[j].toNat=41) (hd:d<=1):note (s.data.toList.drop a) 1=.fine ((s.data.toList.drop a).take (j - a)) (j - a+1):=by
 rw [h.1 hj,Aw s j hj,U3 hc,if_pos hd]
 simp [Cut.on]
 omega
theorem Ak6 {s:ByteArray} {a j d:Nat} (h:Gm s a j d) (h1:a<=j) (hj:j<s.size) (hc:s[j].toNat=41) (hd:¬ d<=1):Gm s a (j+1) (d - 1):=by
 have h0:=h.1 hj
 rw [Aw s j hj,U3 hc,if_neg hd,Wi,<- Nx h1 hj,show 1+(j - a)=j+1 - a by omega] at h0
 refine ⟨λ_=>h0,λhe=>?_⟩
 rw [h0,he,Jz]
 rfl
theorem Aej {s:ByteArray} {a j m d:Nat} (h:Gm s a j d) (h1:a<=j) (hj:j<s.size) (hc:s[j].toNat ≠ 40) (hc2:s[j].toNat ≠ 41) (hm:m=if s[j].toNat=92/\j+1<s.size then j+1 else j) (hmz:m<s.size) :
  (Bf s[m]=false->note (s.data.toList.drop a) 1=.bad (m - a))/\(Bf s[m]=true->Gm s a (m+1) d):=by
 have h0:=h.1 hj
 by_cases h92:s[j].toNat=92
 ·by_cases h2:j+1<s.size
  ·rw [if_pos ⟨h92,h2⟩] at hm
   subst hm
   rw [Aw s j hj,Aw s (j+1) h2,Amq h92] at h0
   constructor
   ·intro hf
    rw [if_neg (by rw [hf];decide)] at h0
    rw [h0]
    show Cut.bad (1+(j - a))=_
    rw [show 1+(j - a)=j+1 - a by omega]
   ·intro hf
    have e2:(s.data.toList.drop a).take (j+1+1 - a)=(s.data.toList.drop a).take (j - a) ++ [s[j],s[j+1]]:=by
     rw [Nx (by omega) h2,Nx h1 hj,List.append_assoc]
     rfl
    rw [if_pos hf,Wi,<- e2,show 2+(j - a)=j+1+1 - a by omega] at h0
    refine ⟨λ_=>h0,λhe=>?_⟩
    rw [h0,he,Jz]
    rfl
  ·rw [if_neg (λh=>h2 h.2)] at hm
   subst hm
   have he:m+1=s.size:=by omega
   have hf:Bf s[m]=true:=by unfold Bf;rw [h92];decide
   rw [Aw s m hj,he,Jz] at h0
   refine ⟨λh=>(by rw [hf] at h;cases h),λ_=>⟨λh=>absurd h (by omega),λ_=>?_⟩⟩
   rw [h0,note.eq_def]
   simp only [if_neg hc,if_neg hc2,if_pos h92]
   rfl
 ·rw [if_neg (λh=>h92 h.1)] at hm
  subst hm
  rw [Aw s m hj,Adw hc hc2 h92] at h0
  constructor
  ·intro hf
   rw [if_neg (by rw [hf];decide)] at h0
   rw [h0]
   show Cut.bad (0+(m - a))=_
   rw [Nat.zero_add]
  ·intro hf
   rw [if_pos hf,Wi,<- Nx h1 hj,show 1+(m - a)=m+1 - a by omega] at h0
   refine ⟨λ_=>h0,λhe=>?_⟩
   rw [h0,he,Jz]
   rfl
end Lex
set_option maxRecDepth 100000 in
theorem Aul (s:ByteArray) (k:Nat) (hk:k<s.size) (hc:s[k].toNat=40) (w:World) (hs:s.size<=100000) :
  Calls Tryz.prog 145 #[.string s,.int .i64 k] w λe w'=>e=.returned (Lex.told k (Lex.note (s.data.toList.drop (k+1)) 1).top)/\w=w':=by
 obtain ⟨R,hR⟩:∃ R,R=Lex.told k (Lex.note (s.data.toList.drop (k+1)) 1).top:=⟨_,rfl⟩
 rw [<- hR]
 have HR:=Lib.hid hR
 clear hR
 have HC:=Lib.hid hc
 clear hc
 go_enter Tryz.func145,Tryz.ntmps145
 go_wp2
 refine Ap8 0 1 rfl rfl ?_
 go_wp2
 go_loopg [7,8,9] (s.size+1) (λgk s7 s8 s9 wr=>∃ j d:Nat,s7=.int .i64 d/\s8=.int .i64 j/\s9=.int .i64 4/\d<=32/\k<=j/\j<=s.size/\s.size - j<gk/\Hid ((j=k/\d=0)\/(k+1<=j/\1<=d/\Lex.Gm s (k+1) j d))/\w=wr)
 case atStart=>exact ⟨k,0,rfl,rfl,rfl,Nat.zero_le _,Nat.le_refl _,by omega,by omega,Lib.hid (.inl ⟨rfl,rfl⟩),rfl⟩
 case round =>
  obtain ⟨j,d,rfl,rfl,rfl,hd,hj1,hj,hg,I,rfl⟩:=hrel
  by_cases hlt:j<s.size
  ·have hjz:(j:Int)<(s.size:Int):=by omega
   by_cases h40:s[j].toNat=40
   ·by_cases h32:32<=d
    ·have E:Hid (R=.tuple #[.string ⟨#[]⟩,.int .i64 (j:Int),.int .i64 6]):=Lib.hid (by
      rcases I.out with ⟨rfl,rfl⟩ | ⟨h1,h2,h3⟩
      ·omega
      ·rw [HR.out,Lex.Aeq h3 hlt h40 h32]
       exact Lex.Apv (by omega))
     have h32z:(32:Int)<(d:Int)+1:=by omega
     clear I
     go_wp2
     go_step3
     refine .inl ⟨rfl,?_⟩
     go_wp2
     rw [Exit.noGoto_ret]
     go_ret3
     exact ⟨congrArg Ending.returned E.out.symm,rfl⟩
    ·have I2:Hid ((j+1=k/\d+1=0)\/(k+1<=j+1/\1<=d+1/\Lex.Gm s (k+1) (j+1) (d+1))):=Lib.hid (by
      rcases I.out with ⟨rfl,rfl⟩ | ⟨h1,h2,h3⟩
      ·exact .inr ⟨Nat.le_refl _,Nat.le_refl _,Lex.Ard⟩
      ·exact .inr ⟨by omega,by omega,Lex.Ao4 h3 h1 hlt h40 h32⟩)
     have h32z:¬ (32:Int)<(d:Int)+1:=by omega
     clear I
     go_wp2
     go_roundg (s.size - j)
     case measure=>omega
     case rel=>exact ⟨j+1,d+1,by go_num,by go_num,rfl,by omega,by omega,by omega,by omega,I2,rfl⟩
   ·have hI:k+1<=j/\1<=d/\Lex.Gm s (k+1) j d:=by
     rcases I.out with ⟨rfl,rfl⟩ | h
     ·exact absurd HC.out h40
     ·exact h
    obtain ⟨hkj,hd1,hN⟩:=hI
    have h40z:((s[j].toNat:Int) == 40)=false:=by simpa using (by omega:¬ (s[j].toNat:Int)=40)
    by_cases h41:s[j].toNat=41
    ·by_cases hd2:d<=1
     ·have E:Hid (R=.tuple #[.string (s.extract (k+1) j),.int .i64 ((j:Int)+1),.int .i64 0]):=Lib.hid (by
       rw [HR.out,Lex.Akk hN hlt h41 hd2]
       exact Lex.Abm (by rw [<- Lex.Tf]) (by omega))
      have hdz:(d:Int) - 1=0:=by omega
      have hkjz:(k:Int)+1<=(j:Int):=by omega
      clear I hN h40
      go_wp2
      go_step3
      refine .inr ⟨rfl,?_⟩
      go_wp2
      rw [Exit.noGoto_ret]
      go_ret3
      exact ⟨congrArg Ending.returned E.out.symm,rfl⟩
     ·have I2:Hid ((j+1=k/\d - 1=0)\/(k+1<=j+1/\1<=d - 1/\Lex.Gm s (k+1) (j+1) (d - 1))):=Lib.hid (.inr ⟨by omega,by omega,Lex.Ak6 hN hkj hlt h41 hd2⟩)
      have hdz:(((d:Int) - 1) == 0)=false:=by simpa using (by omega:¬ (d:Int) - 1=0)
      clear I hN h40
      go_wp2
      go_roundg (s.size - j)
      case measure=>omega
      case rel=>exact ⟨j+1,d - 1,by go_num,by go_num,rfl,by omega,by omega,by omega,by omega,I2,rfl⟩
    ·have h41z:((s[j].toNat:Int) == 41)=false:=by simpa using (by omega:¬ (s[j].toNat:Int)=41)
     have K:=Zn s j hlt w hs
     obtain ⟨m,hm⟩:∃ m,m=if s[j].toNat=92/\j+1<s.size then j+1 else j:=⟨_,rfl⟩
     rw [<- hm] at K
     have hmz:m<s.size/\j<=m:=by
      rw [hm]
      split
      ·rename_i h;exact ⟨h.2,by omega⟩
      ·exact ⟨hlt,Nat.le_refl _⟩
     obtain ⟨hm1,hjm⟩:=hmz
     have N:=Lex.Aej hN hkj hlt h40 h41 hm hm1
     have K:=Lib.hid K
     have hmi:(m:Int)<(s.size:Int):=by omega
     have KT:=Yd s[m] w
     clear hm h40 h41 hN I
     cases hf:Lex.Bf s[m] with
     | false =>
      have E:Hid (R=.tuple #[.string ⟨#[]⟩,.int .i64 (m:Int),.int .i64 4]):=Lib.hid (by
       rw [HR.out,N.1 hf]
       exact Lex.Ml (by omega))
      rw [hf] at KT
      have KT:=Lib.hid KT
      clear N hf
      go_wp2_with (first | (go_at_call 193;with_reducible refine K.out.mono ?_;rintro e w1 ⟨rfl,rfl⟩) | (go_at_call 194;with_reducible refine KT.out.mono ?_;rintro e w1 ⟨rfl,rfl⟩))
      go_step3
      refine .inl ⟨rfl,?_⟩
      go_wp2
      rw [Exit.noGoto_ret]
      go_ret3
      exact ⟨congrArg Ending.returned E.out.symm,rfl⟩
     | true =>
      have I2:Hid ((m+1=k/\d=0)\/(k+1<=m+1/\1<=d/\Lex.Gm s (k+1) (m+1) d)):=Lib.hid (.inr ⟨by omega,hd1,N.2 hf⟩)
      rw [hf] at KT
      have KT:=Lib.hid KT
      clear N hf
      go_wp2_with (first | (go_at_call 193;with_reducible refine K.out.mono ?_;rintro e w1 ⟨rfl,rfl⟩) | (go_at_call 194;with_reducible refine KT.out.mono ?_;rintro e w1 ⟨rfl,rfl⟩))
      go_roundg (s.size - j)
      case measure=>omega
      case rel=>exact ⟨m+1,d,by go_num,by go_num,rfl,hd,by omega,by omega,by omega,I2,rfl⟩
  ·obtain rfl:j=s.size:=by omega
   have E:Hid (R=.tuple #[.string ⟨#[]⟩,.int .i64 (k:Int),.int .i64 4]):=Lib.hid (by
    rcases I.out with ⟨h1,-⟩ | ⟨h1,h2,h3⟩
    ·omega
    ·rw [HR.out,h3.2 rfl];rfl)
   have hjz:¬ (s.size:Int)<(s.size:Int):=by omega
   clear I
   go_wp2
   refine wp_label ?_
   go_wp2
   rw [Amz]
   go_ret3
   exact ⟨congrArg Ending.returned E.out.symm,rfl⟩
end
section
open Go.RowKit Utf
namespace Lex
def Ia:List UInt8->Int × Bool
 | []=>(0,false)
 | c::t =>
  if Au c then (0,true)
  else if Fj c.toNat then (2,true)
  else if Ap (c::t) ≠ 0 then (4,true)
  else if c.toNat=34 then (1,true)
  else if c.toNat=91 then (5,true)
  else if c.toNat=40 then (3,true)
  else (0,false)
theorem Iu (c:UInt8) (t:List UInt8):(Au c=true/\Ia (c::t)=(0,true)/\one (c::t)=(0,.fine ((c::t).takeWhile Au) ((c::t).takeWhile Au).length)) \/
  (Au c=false/\Fj c.toNat=true/\Ia (c::t)=(2,true)/\one (c::t)=(2,.fine [c] 1)) \/
  (Au c=false/\Fj c.toNat=false/\Ap (c::t) ≠ 0/\Ia (c::t)=(4,true)/\one (c::t)=(4,.fine ((c::t).take (Ap (c::t))) (Ap (c::t)))) \/
  (Au c=false/\Fj c.toNat=false/\Ap (c::t)=0/\c.toNat=34/\Ia (c::t)=(1,true)/\one (c::t)=(1,(quo t).top)) \/
  (Au c=false/\Fj c.toNat=false/\Ap (c::t)=0/\c.toNat ≠ 34/\c.toNat=91/\Ia (c::t)=(5,true)/\one (c::t)=(5,(lit t).top)) \/
  (Au c=false/\Fj c.toNat=false/\Ap (c::t)=0/\c.toNat ≠ 34/\c.toNat ≠ 91/\c.toNat=40/\Ia (c::t)=(3,true)/\one (c::t)=(3,(note t 1).top)) \/
  (Au c=false/\Fj c.toNat=false/\Ap (c::t)=0/\c.toNat ≠ 34/\c.toNat ≠ 91/\c.toNat ≠ 40/\Ia (c::t)=(0,false)/\one (c::t)=(0,.bad 0)):=by
 cases h1:Au c with
 | true=>exact .inl ⟨rfl,by rw [Ia,if_pos h1],by rw [one,if_pos h1]⟩
 | false =>
  have n1:¬ Au c=true:=by rw [h1];decide
  refine .inr ?_
  cases h2:Fj c.toNat with
  | true=>exact .inl ⟨rfl,rfl,by rw [Ia,if_neg n1,if_pos h2],by rw [one,if_neg n1,if_pos h2]⟩
  | false =>
   have n2:¬ Fj c.toNat=true:=by rw [h2];decide
   refine .inr ?_
   by_cases h3:Ap (c::t) ≠ 0
   ·exact .inl ⟨rfl,rfl,h3,by rw [Ia,if_neg n1,if_neg n2,if_pos h3],by rw [one,if_neg n1,if_neg n2,if_pos h3]⟩
   ·have h3':Ap (c::t)=0:=by omega
    refine .inr ?_
    by_cases h4:c.toNat=34
    ·exact .inl ⟨rfl,rfl,h3',h4,by rw [Ia,if_neg n1,if_neg n2,if_neg h3,if_pos h4],by rw [one,if_neg n1,if_neg n2,if_neg h3,if_pos h4]⟩
    ·refine .inr ?_
     by_cases h5:c.toNat=91
     ·exact .inl ⟨rfl,rfl,h3',h4,h5,by rw [Ia,if_neg n1,if_neg n2,if_neg h3,if_neg h4,if_pos h5],by rw [one,if_neg n1,if_neg n2,if_neg h3,if_neg h4,if_pos h5]⟩
     ·refine .inr ?_
      by_cases h6:c.toNat=40
      · exact .inl ⟨rfl,rfl,h3',h4,h5,h6,by rw [Ia,if_neg n1,if_neg n2,if_neg h3,if_neg h4,if_neg h5,if_pos h6],by rw [one,if_neg n1,if_neg n2,if_neg h3,if_neg h4,if_neg h5,if_pos h6]⟩
      · exact .inr ⟨rfl,rfl,h3',h4,h5,h6,by rw [Ia,if_neg n1,if_neg n2,if_neg h3,if_neg h4,if_neg h5,if_neg h6],by rw [one,if_neg n1,if_neg n2,if_neg h3,if_neg h4,if_neg h5,if_neg h6]⟩
end Lex
set_option maxRecDepth 100000 in
theorem Ajm (s:ByteArray) (k:Nat) (hk:k<s.size) (w:World) (hs:s.size<=100000) :
  Calls Tryz.prog 142 #[.string s,.int .i64 k] w λe w'=>e=.returned (.tuple #[.int .i64 (Lex.Ia (s.data.toList.drop k)).1,.bool (Lex.Ia (s.data.toList.drop k)).2])/\w=w':=by
 have hkz:(k:Int)<(s.size:Int):=by omega
 have hkl:(k:Int)<=(s.size:Int):=by omega
 have KA:=Xh s[k] w
 have KI:=Hd ⟨#[60,62,58,59,64,44,46]⟩ s[k] w
 have hi:=Lex.Ic Lex.Afu s[k]
 rw [Lex.Arz] at hi
 rw [show (ByteArray.mk #[60,62,58,59,64,44,46]).data.toList=Lex.Afu from rfl] at KI
 have KW:=Oi (s.extract k s.size) w (by rw [ByteArray.size_extract];omega)
 rw [Lex.Acr] at KW
 have hw:=Lex.Ago (s.data.toList.drop k)
 rw [Aw s k hk] at KW hw ⊢
 generalize Lib.indexByte Lex.Afu s[k]=i at KI hi
 generalize Lex.Cp (s[k]::s.data.toList.drop (k+1))=a at KW hw
 have KI:=Lib.hid KI
 have KW:=Lib.hid KW
 rcases Lex.Iu s[k] (s.data.toList.drop (k+1)) with ⟨h1,e,-⟩ | ⟨h1,h2,e,-⟩ | ⟨h1,h2,h3,e,-⟩ | ⟨h1,h2,h3,h4,e,-⟩ | ⟨h1,h2,h3,h4,h5,e,-⟩ | ⟨h1,h2,h3,h4,h5,h6,e,-⟩ | ⟨h1,h2,h3,h4,h5,h6,e,-⟩
 ·rw [e]
  rw [h1] at KA
  have KA:=Lib.hid KA
  clear e h1 hw hi
  go_enter Tryz.func142,Tryz.ntmps142
  go_wp2_with fail
  with_reducible refine KA.out.mono ?_
  rintro e w1 ⟨rfl,rfl⟩
  go_wp2
  go_ret2
  exact ⟨rfl,rfl⟩
 ·rw [e]
  rw [h1] at KA
  rw [h2] at hi
  have KA:=Lib.hid KA
  clear e h1 h2 hw
  go_enter Tryz.func142,Tryz.ntmps142
  go_wp2_with fail
  with_reducible refine KA.out.mono ?_
  rintro e w1 ⟨rfl,rfl⟩
  go_wp2_with fail
  with_reducible refine KI.out.mono ?_
  rintro e w1 ⟨rfl,rfl⟩
  go_wp2
  go_ret2
  exact ⟨rfl,rfl⟩
 ·rw [e]
  rw [h1] at KA
  rw [h2] at hi
  have KA:=Lib.hid KA
  have hz:(0:Int)<(a:Int):=by have:0<a:=(by rw [hw];exact h3);omega
  clear e h1 h2 h3 hw
  go_enter Tryz.func142,Tryz.ntmps142
  go_wp2_with fail
  with_reducible refine KA.out.mono ?_
  rintro e w1 ⟨rfl,rfl⟩
  go_wp2_with fail
  with_reducible refine KI.out.mono ?_
  rintro e w1 ⟨rfl,rfl⟩
  go_wp2_with fail
  with_reducible refine KW.out.mono ?_
  rintro e w1 ⟨rfl,rfl⟩
  go_wp2
  go_ret2
  exact ⟨rfl,rfl⟩
 all_goals
  rw [e]
  rw [h1] at KA
  rw [h2] at hi
  have KA:=Lib.hid KA
  have hz:¬ (0:Int)<(a:Int):=by
   have:¬ 0<a:=by rw [hw];exact λh=>h h3
   omega
  clear e h1 h2 h3 hw
 ·have e4:((s[k].toNat:Int) == 34)=true:=by simpa using (by omega:(s[k].toNat:Int)=34)
  clear h4
  go_enter Tryz.func142,Tryz.ntmps142
  go_wp2_with fail
  with_reducible refine KA.out.mono ?_
  rintro e w1 ⟨rfl,rfl⟩
  go_wp2_with fail
  with_reducible refine KI.out.mono ?_
  rintro e w1 ⟨rfl,rfl⟩
  go_wp2_with fail
  with_reducible refine KW.out.mono ?_
  rintro e w1 ⟨rfl,rfl⟩
  go_wp2
  go_ret2
  exact ⟨rfl,rfl⟩
 ·have e4:((s[k].toNat:Int) == 34)=false:=by simpa using (by omega:¬ (s[k].toNat:Int)=34)
  have e5:((s[k].toNat:Int) == 91)=true:=by simpa using (by omega:(s[k].toNat:Int)=91)
  clear h4 h5
  go_enter Tryz.func142,Tryz.ntmps142
  go_wp2_with fail
  with_reducible refine KA.out.mono ?_
  rintro e w1 ⟨rfl,rfl⟩
  go_wp2_with fail
  with_reducible refine KI.out.mono ?_
  rintro e w1 ⟨rfl,rfl⟩
  go_wp2_with fail
  with_reducible refine KW.out.mono ?_
  rintro e w1 ⟨rfl,rfl⟩
  go_wp2
  go_ret2
  exact ⟨rfl,rfl⟩
 ·have e4:((s[k].toNat:Int) == 34)=false:=by simpa using (by omega:¬ (s[k].toNat:Int)=34)
  have e5:((s[k].toNat:Int) == 91)=false:=by simpa using (by omega:¬ (s[k].toNat:Int)=91)
  have e6:((s[k].toNat:Int) == 40)=true:=by simpa using (by omega:(s[k].toNat:Int)=40)
  clear h4 h5 h6
  go_enter Tryz.func142,Tryz.ntmps142
  go_wp2_with fail
  with_reducible refine KA.out.mono ?_
  rintro e w1 ⟨rfl,rfl⟩
  go_wp2_with fail
  with_reducible refine KI.out.mono ?_
  rintro e w1 ⟨rfl,rfl⟩
  go_wp2_with fail
  with_reducible refine KW.out.mono ?_
  rintro e w1 ⟨rfl,rfl⟩
  go_wp2
  go_ret2
  exact ⟨rfl,rfl⟩
 ·have e4:((s[k].toNat:Int) == 34)=false:=by simpa using (by omega:¬ (s[k].toNat:Int)=34)
  have e5:((s[k].toNat:Int) == 91)=false:=by simpa using (by omega:¬ (s[k].toNat:Int)=91)
  have e6:((s[k].toNat:Int) == 40)=false:=by simpa using (by omega:¬ (s[k].toNat:Int)=40)
  clear h4 h5 h6
  go_enter Tryz.func142,Tryz.ntmps142
  go_wp2_with fail
  with_reducible refine KA.out.mono ?_
  rintro e w1 ⟨rfl,rfl⟩
  go_wp2_with fail
  with_reducible refine KI.out.mono ?_
  rintro e w1 ⟨rfl,rfl⟩
  go_wp2_with fail
  with_reducible refine KW.out.mono ?_
  rintro e w1 ⟨rfl,rfl⟩
  go_wp2
  go_ret2
  exact ⟨rfl,rfl⟩
namespace Lex
def Am3 (k:Nat):Int × Cut->Value
 | (K,.fine x n)=>.tuple #[.agg #[.int .i64 K,.string ⟨x.toArray⟩,.int .i64 (k:Int)],.int .i64 ((k+n:Nat):Int),.int .i64 0]
 | (_,.bad i)=>.tuple #[.agg #[.int .i64 0,.string ⟨#[]⟩,.int .i64 0],.int .i64 ((k+i:Nat):Int),.int .i64 4]
 | (_,.deep i)=>.tuple #[.agg #[.int .i64 0,.string ⟨#[]⟩,.int .i64 0],.int .i64 ((k+i:Nat):Int),.int .i64 6]
 | (_,.gap)=>.tuple #[.agg #[.int .i64 0,.string ⟨#[]⟩,.int .i64 0],.int .i64 (k:Int),.int .i64 4]
theorem O9 (k:Nat) (K:Int) (r:Cut):(∃ x n,told k r=.tuple #[.string ⟨x.toArray⟩,.int .i64 ((k+n:Nat):Int),.int .i64 0]/\Am3 k (K,r)=.tuple #[.agg #[.int .i64 K,.string ⟨x.toArray⟩,.int .i64 (k:Int)],.int .i64 ((k+n:Nat):Int),.int .i64 0]/\r=.fine x n) \/
  (∃ m E,(E=4\/E=6)/\told k r=.tuple #[.string ⟨#[]⟩,.int .i64 m,.int .i64 E]/\Am3 k (K,r)=.tuple #[.agg #[.int .i64 0,.string ⟨#[]⟩,.int .i64 0],.int .i64 m,.int .i64 E]):=by
 cases r with
 | fine x n=>exact .inl ⟨x,n,rfl,rfl,rfl⟩
 | bad i=>exact .inr ⟨_,4,.inl rfl,rfl,rfl⟩
 | deep i=>exact .inr ⟨_,6,.inr rfl,rfl,rfl⟩
 | gap=>exact .inr ⟨_,4,.inl rfl,rfl,rfl⟩
theorem Ado (r:Cut) (N:Nat) (h:∀ x n,r=.fine x n->x.length<=N):∀ x n,r.top=.fine x n->x.length<=N:=by
 intro x n hx
 cases r with
 | fine y m =>
  injection hx with h1 h2
  subst h1
  exact h y m rfl
 | bad i=>cases hx
 | deep i=>cases hx
 | gap=>cases hx
end Lex
theorem Jq {w w1:World} (hb1:Below (w.alloc (.cells #[.int .i64 0,.string ⟨#[]⟩,.int .i64 0] 46)).heap.size (w.alloc (.cells #[.int .i64 0,.string ⟨#[]⟩,.int .i64 0] 46)) w1) :
  w.heap.size<w1.heap.size/\(∀ i,w1.frozen? ⟨w.heap.size,i,none⟩=false)/\w1.cell? ⟨w.heap.size,0,none⟩=some (.int .i64 0)/\w1.cell? ⟨w.heap.size,1,none⟩=some (.string ⟨#[]⟩)/\w1.cell? ⟨w.heap.size,2,none⟩=some (.int .i64 0):=by
 have hc:∀ i,w1.cell? ⟨w.heap.size,i,none⟩=_:=λi=>hb1.cell (p:=⟨w.heap.size,i,none⟩) (show w.heap.size<_ by simp)
 exact ⟨by have:=hb1.size;simp at this;omega,λi=>(hb1.frozen (p:=⟨w.heap.size,i,none⟩) (show w.heap.size<_ by simp)).trans (by go_simp),
  (hc 0).trans (by go_simp),(hc 1).trans (by go_simp),(hc 2).trans (by go_simp)⟩
theorem Ff {w w1:World} {o:Obj} (hb1:Below (w.alloc o).heap.size (w.alloc o) w1):Below w.heap.size w w1 :=
 ((Below.refl _ w).alloc (Nat.le_refl _) o).trans (hb1.mono (by simp))
theorem Gf {w w1:World} (hb:Below w.heap.size w w1) (a b c:Value):Below w.heap.size w (((w1.setCell ⟨w.heap.size,0,none⟩ a).setCell ⟨w.heap.size,1,none⟩ b).setCell ⟨w.heap.size,2,none⟩ c) :=
 ((hb.setCell (p:=⟨w.heap.size,0,none⟩) (Nat.le_refl _) a).setCell (p:=⟨w.heap.size,1,none⟩) (Nat.le_refl _) b).setCell (p:=⟨w.heap.size,2,none⟩) (Nat.le_refl _) c
set_option maxRecDepth 100000 in
theorem Ap7 (s:ByteArray) (k:Nat) (hk:k<s.size) (w:World) (hs:s.size<=100000) :
  Calls Tryz.prog 89 #[.string s,.int .i64 k] w λe w'=>e=.returned (Lex.Am3 k (Lex.one (s.data.toList.drop k)))/\Below w.heap.size w w':=by
 obtain ⟨R,hR⟩:∃ R,R=Lex.Am3 k (Lex.one (s.data.toList.drop k)):=⟨_,rfl⟩
 rw [<- hR]
 have KA:=Ajm s k hk (w.alloc (.cells #[.int .i64 0,.string ⟨#[]⟩,.int .i64 0] 46)) hs
 have hdr:=Aw s k hk
 rw [hdr] at hR KA
 have hkz:(k:Int)<(s.size:Int):=by omega
 have hkl:(k:Int)<=(s.size:Int):=by omega
 have hsl:s.data.toList.length=s.size:=by simp
 rcases Lex.Iu s[k] (s.data.toList.drop (k+1)) with ⟨-,e,eo⟩ | ⟨-,-,e,eo⟩ | ⟨-,-,-,e,eo⟩ | ⟨-,-,-,-,e,eo⟩ | ⟨-,-,-,-,-,e,eo⟩ | ⟨-,-,-,-,-,h6,e,eo⟩ | ⟨-,-,-,-,-,-,e,eo⟩
 ·rw [eo,<- hdr] at hR
  rw [e] at KA
  have KA:=Lib.hid KA
  clear e eo
  obtain ⟨n,hn⟩:∃ n,n=((s.data.toList.drop k).takeWhile Lex.Au).length:=⟨_,rfl⟩
  rw [<- hn] at hR
  have hle:k+n<=s.size:=by
   have:=(Lex.Fg Lex.Au (s.data.toList.drop k)).1
   rw [List.length_drop] at this
   omega
  have KP:=Lib.hid (λW=>Pn 63 Lex.Q3 Lex.Rc (λ_ _=>by kernel_rfl) (λt W h=>Qm t W h) s k (by omega) W hs)
  rw [Lex.Vk,<- hn] at KP
  have E2:Hid (R=.tuple #[.agg #[.int .i64 0,.string (s.extract k (k+n)),.int .i64 k],.int .i64 ((k+n:Nat):Int),.int .i64 0]):=Lib.hid (by
   rw [hR]
   show Value.tuple #[.agg #[_,.string ⟨List.toArray _⟩,_],_,_]=_
   rw [show s.extract k (k+n)=⟨((s.data.toList.drop k).take n).toArray⟩ by rw [show (s.data.toList.drop k).take n=(s.data.toList.drop k).take (k+n - k) by rw [Nat.add_sub_cancel_left],<- Lex.Tf]]
   rw [hn,<- (Lex.Fg Lex.Au (s.data.toList.drop k)).2.1])
  have KC:=Lib.hid (λW=>Cc (s.extract k (k+n)) W (by rw [ByteArray.size_extract];omega))
  obtain ⟨m,hm⟩:∃ m,m=k+n:=⟨_,rfl⟩
  rw [<- hm] at KP E2 KC hle
  have hmz:(m:Int)<=(s.size:Int):=by omega
  have hkm:(k:Int)<=(m:Int):=by omega
  clear hR hn hm hdr hsl
  ·go_enter Tryz.func89,Tryz.ntmps89
   go_wp2_with fail
   with_reducible refine KA.out.mono ?_
   rintro e w1 ⟨rfl,rfl⟩
   go_wp2_with fail
   with_reducible refine (KP.out _).mono ?_
   rintro e w1 ⟨rfl,rfl⟩
   go_wp2_with fail
   with_reducible refine (KC.out _).mono ?_
   rintro e w2 ⟨rfl,hb2⟩
   have B2:=Lib.hid hb2
   clear hb2
   obtain ⟨hz,fz,d0,d1,d2⟩:=Jq B2.out
   go_wp2
   refine bodyPost_ret (v:=.tuple #[.agg #[.int .i64 0,.string (s.extract k m),.int .i64 k],.int .i64 m,.int .i64 0]) (by simp [results,Tryz.results89,go_sem,d0,d1,d2]) rfl ⟨congrArg Ending.returned E2.out.symm,?_⟩
   exact Gf (Ff B2.out) _ _ _
 ·rw [eo] at hR
  rw [e] at KA
  have KA:=Lib.hid KA
  clear e eo
  have E2:Hid (R=.tuple #[.agg #[.int .i64 2,.string (s.extract k (k+1)),.int .i64 k],.int .i64 ((k:Int)+1),.int .i64 0]):=Lib.hid (by
   rw [hR]
   show Value.tuple #[.agg #[_,.string ⟨List.toArray _⟩,_],.int .i64 ((k+1:Nat):Int),_]=_
   rw [show s.extract k (k+1)=⟨[s[k]].toArray⟩ by
    have h:=Lex.Tf s k (k+1)
    rw [hdr,Nat.add_sub_cancel_left,List.take_succ_cons,List.take_zero] at h
    rw [<- h]]
   rfl)
  have KC:=Lib.hid (λW=>Cc (s.extract k (k+1)) W (by rw [ByteArray.size_extract];omega))
  have hmz:(k:Int)+1<=(s.size:Int):=by omega
  clear hR hdr hsl
  ·go_enter Tryz.func89,Tryz.ntmps89
   go_wp2_with fail
   with_reducible refine KA.out.mono ?_
   rintro e w1 ⟨rfl,rfl⟩
   go_wp2_with fail
   with_reducible refine (KC.out _).mono ?_
   rintro e w2 ⟨rfl,hb2⟩
   have B2:=Lib.hid hb2
   clear hb2
   obtain ⟨hz,fz,d0,d1,d2⟩:=Jq B2.out
   go_wp2
   refine bodyPost_ret (v:=.tuple #[.agg #[.int .i64 2,.string (s.extract k (k+1)),.int .i64 k],.int .i64 ((k:Int)+1),.int .i64 0]) (by simp [results,Tryz.results89,go_sem,d0,d1,d2]) rfl ⟨congrArg Ending.returned E2.out.symm,?_⟩
   exact Gf (Ff B2.out) _ _ _
 ·rw [eo,<- hdr] at hR
  rw [e] at KA
  have KA:=Lib.hid KA
  clear e eo
  obtain ⟨n,hn⟩:∃ n,n=Lex.Ap (s.data.toList.drop k):=⟨_,rfl⟩
  rw [<- hn] at hR
  have hle:k+n<=s.size:=by
   have:=Lex.Afq (s.data.toList.drop k)
   rw [List.length_drop] at this
   omega
  have KP:=Lib.hid (λW=>Pn 146 Lex.Cp Lex.Nj (λ_ _=>by kernel_rfl) (λt W h=>Oi t W h) s k (by omega) W hs)
  rw [Lex.Z8 _ _ (Nat.le_refl _),<- hn] at KP
  have E2:Hid (R=.tuple #[.agg #[.int .i64 4,.string (s.extract k (k+n)),.int .i64 k],.int .i64 ((k+n:Nat):Int),.int .i64 0]):=Lib.hid (by
   rw [hR]
   show Value.tuple #[.agg #[_,.string ⟨List.toArray _⟩,_],_,_]=_
   rw [show s.extract k (k+n)=⟨((s.data.toList.drop k).take n).toArray⟩ by rw [show (s.data.toList.drop k).take n=(s.data.toList.drop k).take (k+n - k) by rw [Nat.add_sub_cancel_left],<- Lex.Tf]])
  have KC:=Lib.hid (λW=>Cc (s.extract k (k+n)) W (by rw [ByteArray.size_extract];omega))
  obtain ⟨m,hm⟩:∃ m,m=k+n:=⟨_,rfl⟩
  rw [<- hm] at KP E2 KC hle
  have hmz:(m:Int)<=(s.size:Int):=by omega
  have hkm:(k:Int)<=(m:Int):=by omega
  clear hR hn hm hdr hsl
  ·go_enter Tryz.func89,Tryz.ntmps89
   go_wp2_with fail
   with_reducible refine KA.out.mono ?_
   rintro e w1 ⟨rfl,rfl⟩
   go_wp2_with fail
   with_reducible refine (KP.out _).mono ?_
   rintro e w1 ⟨rfl,rfl⟩
   go_wp2_with fail
   with_reducible refine (KC.out _).mono ?_
   rintro e w2 ⟨rfl,hb2⟩
   have B2:=Lib.hid hb2
   clear hb2
   obtain ⟨hz,fz,d0,d1,d2⟩:=Jq B2.out
   go_wp2
   refine bodyPost_ret (v:=.tuple #[.agg #[.int .i64 4,.string (s.extract k m),.int .i64 k],.int .i64 m,.int .i64 0]) (by simp [results,Tryz.results89,go_sem,d0,d1,d2]) rfl ⟨congrArg Ending.returned E2.out.symm,?_⟩
   exact Gf (Ff B2.out) _ _ _
 ·rw [eo] at hR
  rw [e] at KA
  have KA:=Lib.hid KA
  clear e eo hdr
  have KP:=Lib.hid (λW=>Apw s k hk W hs)
  rcases Lex.O9 k 1 (Lex.quo (s.data.toList.drop (k+1))).top with ⟨x,n,e1,e2,hx⟩ | ⟨m,E,hE,e1,e2⟩
  ·rw [e1] at KP
   have hxl:=Lex.Ado _ s.size (λy j h=>by have:=Lex.Ahm _ _ _ _ (Nat.le_refl _) h;have h2:=List.length_drop (i:=k+1) (l:=s.data.toList);omega) x n hx
   have E2:=Lib.hid (hR.trans e2)
   have KC:=Lib.hid (λW=>Cc ⟨x.toArray⟩ W (by simp only [ByteArray.size,List.size_toArray];omega))
   clear hR e1 e2 hx hxl hsl
   obtain ⟨m,hm⟩:∃ m:Int,m=((k+n:Nat):Int):=⟨_,rfl⟩
   rw [<- hm] at KP E2
   clear hm
   obtain ⟨X,hX⟩:∃ X:ByteArray,X=⟨x.toArray⟩:=⟨_,rfl⟩
   rw [<- hX] at KP E2 KC
   clear hX
   go_enter Tryz.func89,Tryz.ntmps89
   go_wp2_with fail
   with_reducible refine KA.out.mono ?_
   rintro e w1 ⟨rfl,rfl⟩
   go_wp2_with fail
   with_reducible refine (KP.out _).mono ?_
   rintro e w1 ⟨rfl,hb1⟩
   have B1:=Lib.hid hb1
   clear hb1
   go_wp2_with fail
   with_reducible refine (KC.out _).mono ?_
   rintro e w2 ⟨rfl,hb2⟩
   have B2:=Lib.hid hb2
   clear hb2
   have B3:=Lib.hid (B1.out.trans (B2.out.mono B1.out.size))
   obtain ⟨hz,fz,d0,d1,d2⟩:=Jq B3.out
   go_wp2
   refine bodyPost_ret (v:=.tuple #[.agg #[.int .i64 1,.string X,.int .i64 k],.int .i64 m,.int .i64 0]) (by simp [results,Tryz.results89,go_sem,d0,d1,d2]) rfl ⟨congrArg Ending.returned E2.out.symm,?_⟩
   exact Gf (Ff B3.out) _ _ _
  ·rw [e1] at KP
   have E2:=Lib.hid (hR.trans e2)
   clear hR e1 e2 hsl
   have hEz:(E == 0)=false:=by rcases hE with rfl | rfl<;>rfl
   clear hE
   go_enter Tryz.func89,Tryz.ntmps89
   go_wp2_with fail
   with_reducible refine KA.out.mono ?_
   rintro e w1 ⟨rfl,rfl⟩
   go_wp2_with fail
   with_reducible refine (KP.out _).mono ?_
   rintro e w1 ⟨rfl,hb1⟩
   have B1:=Lib.hid hb1
   clear hb1
   obtain ⟨hz,fz,d0,d1,d2⟩:=Jq B1.out
   go_wp2
   refine bodyPost_ret (v:=.tuple #[.agg #[.int .i64 0,.string ⟨#[]⟩,.int .i64 0],.int .i64 m,.int .i64 E]) (by simp [results,Tryz.results89,go_sem,d0,d1,d2]) rfl ⟨congrArg Ending.returned E2.out.symm,?_⟩
   exact Gf (Ff B1.out) _ _ _
 ·rw [eo] at hR
  rw [e] at KA
  have KA:=Lib.hid KA
  clear e eo hdr
  have KP:Hid (∀ W,Calls Tryz.prog 144 #[.string s,.int .i64 k] W λe w'=>e=.returned (Lex.told k (Lex.lit (s.data.toList.drop (k+1))).top)/\Below W.heap.size W w'):=Lib.hid (λW=>(Aep s k hk W hs).mono λ_ _ h=>⟨h.1,h.2 ▸ Below.refl _ _⟩)
  rcases Lex.O9 k 5 (Lex.lit (s.data.toList.drop (k+1))).top with ⟨x,n,e1,e2,hx⟩ | ⟨m,E,hE,e1,e2⟩
  ·rw [e1] at KP
   have hxl:=Lex.Ado _ s.size (λy j h=>by have h1:=Lex.Ms _ _ _ h;have h2:=List.length_drop (i:=k+1) (l:=s.data.toList);have h3:=congrArg List.length h1.2.2.1;rw [List.length_append,List.length_take] at h3;omega) x n hx
   have E2:=Lib.hid (hR.trans e2)
   have KC:=Lib.hid (λW=>Cc ⟨x.toArray⟩ W (by simp only [ByteArray.size,List.size_toArray];omega))
   clear hR e1 e2 hx hxl hsl
   obtain ⟨m,hm⟩:∃ m:Int,m=((k+n:Nat):Int):=⟨_,rfl⟩
   rw [<- hm] at KP E2
   clear hm
   obtain ⟨X,hX⟩:∃ X:ByteArray,X=⟨x.toArray⟩:=⟨_,rfl⟩
   rw [<- hX] at KP E2 KC
   clear hX
   go_enter Tryz.func89,Tryz.ntmps89
   go_wp2_with fail
   with_reducible refine KA.out.mono ?_
   rintro e w1 ⟨rfl,rfl⟩
   go_wp2_with fail
   with_reducible refine (KP.out _).mono ?_
   rintro e w1 ⟨rfl,hb1⟩
   have B1:=Lib.hid hb1
   clear hb1
   go_wp2_with fail
   with_reducible refine (KC.out _).mono ?_
   rintro e w2 ⟨rfl,hb2⟩
   have B2:=Lib.hid hb2
   clear hb2
   have B3:=Lib.hid (B1.out.trans (B2.out.mono B1.out.size))
   obtain ⟨hz,fz,d0,d1,d2⟩:=Jq B3.out
   go_wp2
   refine bodyPost_ret (v:=.tuple #[.agg #[.int .i64 5,.string X,.int .i64 k],.int .i64 m,.int .i64 0]) (by simp [results,Tryz.results89,go_sem,d0,d1,d2]) rfl ⟨congrArg Ending.returned E2.out.symm,?_⟩
   exact Gf (Ff B3.out) _ _ _
  ·rw [e1] at KP
   have E2:=Lib.hid (hR.trans e2)
   clear hR e1 e2 hsl
   have hEz:(E == 0)=false:=by rcases hE with rfl | rfl<;>rfl
   clear hE
   go_enter Tryz.func89,Tryz.ntmps89
   go_wp2_with fail
   with_reducible refine KA.out.mono ?_
   rintro e w1 ⟨rfl,rfl⟩
   go_wp2_with fail
   with_reducible refine (KP.out _).mono ?_
   rintro e w1 ⟨rfl,hb1⟩
   have B1:=Lib.hid hb1
   clear hb1
   obtain ⟨hz,fz,d0,d1,d2⟩:=Jq B1.out
   go_wp2
   refine bodyPost_ret (v:=.tuple #[.agg #[.int .i64 0,.string ⟨#[]⟩,.int .i64 0],.int .i64 m,.int .i64 E]) (by simp [results,Tryz.results89,go_sem,d0,d1,d2]) rfl ⟨congrArg Ending.returned E2.out.symm,?_⟩
   exact Gf (Ff B1.out) _ _ _
 ·rw [eo] at hR
  rw [e] at KA
  have KA:=Lib.hid KA
  clear e eo hdr
  have KP:Hid (∀ W,Calls Tryz.prog 145 #[.string s,.int .i64 k] W λe w'=>e=.returned (Lex.told k (Lex.note (s.data.toList.drop (k+1)) 1).top)/\Below W.heap.size W w'):=Lib.hid (λW=>(Aul s k hk h6 W hs).mono λ_ _ h=>⟨h.1,h.2 ▸ Below.refl _ _⟩)
  rcases Lex.O9 k 3 (Lex.note (s.data.toList.drop (k+1)) 1).top with ⟨x,n,e1,e2,hx⟩ | ⟨m,E,hE,e1,e2⟩
  ·rw [e1] at KP
   have hxl:=Lex.Ado _ s.size (λy j h=>by have h1:=Lex.Zx _ _ _ _ _ (Nat.le_refl _) h;have h2:=List.length_drop (i:=k+1) (l:=s.data.toList);have h3:=congrArg List.length h1.2.2.1;rw [List.length_append,List.length_take] at h3;omega) x n hx
   have E2:=Lib.hid (hR.trans e2)
   have KC:=Lib.hid (λW=>Cc ⟨x.toArray⟩ W (by simp only [ByteArray.size,List.size_toArray];omega))
   clear hR e1 e2 hx hxl hsl
   obtain ⟨m,hm⟩:∃ m:Int,m=((k+n:Nat):Int):=⟨_,rfl⟩
   rw [<- hm] at KP E2
   clear hm
   obtain ⟨X,hX⟩:∃ X:ByteArray,X=⟨x.toArray⟩:=⟨_,rfl⟩
   rw [<- hX] at KP E2 KC
   clear hX
   go_enter Tryz.func89,Tryz.ntmps89
   go_wp2_with fail
   with_reducible refine KA.out.mono ?_
   rintro e w1 ⟨rfl,rfl⟩
   go_wp2_with fail
   with_reducible refine (KP.out _).mono ?_
   rintro e w1 ⟨rfl,hb1⟩
   have B1:=Lib.hid hb1
   clear hb1
   go_wp2_with fail
   with_reducible refine (KC.out _).mono ?_
   rintro e w2 ⟨rfl,hb2⟩
   have B2:=Lib.hid hb2
   clear hb2
   have B3:=Lib.hid (B1.out.trans (B2.out.mono B1.out.size))
   obtain ⟨hz,fz,d0,d1,d2⟩:=Jq B3.out
   go_wp2
   refine bodyPost_ret (v:=.tuple #[.agg #[.int .i64 3,.string X,.int .i64 k],.int .i64 m,.int .i64 0]) (by simp [results,Tryz.results89,go_sem,d0,d1,d2]) rfl ⟨congrArg Ending.returned E2.out.symm,?_⟩
   exact Gf (Ff B3.out) _ _ _
  ·rw [e1] at KP
   have E2:=Lib.hid (hR.trans e2)
   clear hR e1 e2 hsl
   have hEz:(E == 0)=false:=by rcases hE with rfl | rfl<;>rfl
   clear hE
   go_enter Tryz.func89,Tryz.ntmps89
   go_wp2_with fail
   with_reducible refine KA.out.mono ?_
   rintro e w1 ⟨rfl,rfl⟩
   go_wp2_with fail
   with_reducible refine (KP.out _).mono ?_
   rintro e w1 ⟨rfl,hb1⟩
   have B1:=Lib.hid hb1
   clear hb1
   obtain ⟨hz,fz,d0,d1,d2⟩:=Jq B1.out
   go_wp2
   refine bodyPost_ret (v:=.tuple #[.agg #[.int .i64 0,.string ⟨#[]⟩,.int .i64 0],.int .i64 m,.int .i64 E]) (by simp [results,Tryz.results89,go_sem,d0,d1,d2]) rfl ⟨congrArg Ending.returned E2.out.symm,?_⟩
   exact Gf (Ff B1.out) _ _ _
 ·rw [eo] at hR
  rw [e] at KA
  have KA:=Lib.hid KA
  clear e eo hdr
  have E2:Hid (R=.tuple #[.agg #[.int .i64 0,.string ⟨#[]⟩,.int .i64 0],.int .i64 k,.int .i64 4]):=Lib.hid hR
  clear hR hsl
  ·go_enter Tryz.func89,Tryz.ntmps89
   go_wp2_with fail
   with_reducible refine KA.out.mono ?_
   rintro e w1 ⟨rfl,rfl⟩
   obtain ⟨hz,fz,d0,d1,d2⟩:=Jq (Below.refl (w.alloc (.cells #[.int .i64 0,.string ⟨#[]⟩,.int .i64 0] 46)).heap.size (w.alloc (.cells #[.int .i64 0,.string ⟨#[]⟩,.int .i64 0] 46)))
   go_wp2
   refine bodyPost_ret (v:=.tuple #[.agg #[.int .i64 0,.string ⟨#[]⟩,.int .i64 0],.int .i64 k,.int .i64 4]) (by simp [results,Tryz.results89,go_sem]) rfl ⟨congrArg Ending.returned E2.out.symm,?_⟩
   exact (Below.refl _ w).alloc (Nat.le_refl _) _
end
section
open Go.RowKit Utf
open Lex (Tok)
namespace Lex
def Got (s:List UInt8) (ts:List Tok) (a:Nat):Prop :=
 all s.length 0 s=if (all (s.drop a).length a (s.drop a)).1=0 then (0,0,ts ++ (all (s.drop a).length a (s.drop a)).2.2) else all (s.drop a).length a (s.drop a)
theorem Ax4 (s:List UInt8):Got s [] 0:=by
 unfold Got
 rw [List.drop_zero]
 split
 ·rename_i h
  have:=(Ai4 s.length 0 s (Nat.le_refl _) h).1
  rw [List.nil_append]
  exact Prod.ext h (Prod.ext this rfl)
 ·rfl
theorem all_nil (a:Nat):all 0 a []=(0,0,[]):=rfl
theorem Awi {s:List UInt8} {ts:List Tok} {a:Nat} (h:Got s ts a) (ha:s.length<=a):all s.length 0 s=(0,0,ts):=by
 unfold Got at h
 rw [List.drop_of_length_le ha] at h
 rw [h,show ([]:List UInt8).length=0 from rfl,all_nil,if_pos rfl,List.append_nil]
theorem Amn {l:List UInt8} (hl:l ≠ []) (a:Nat):all l.length a l=match one l with
  | (k,.fine x n)=>if (all (l.length - 1) (a+n) (l.drop n)).1=0 then (0,0,⟨k,x,a⟩::(all (l.length - 1) (a+n) (l.drop n)).2.2) else all (l.length - 1) (a+n) (l.drop n)
  | (_,.bad i)=>(4,a+i,[])
  | (_,.deep i)=>(6,a+i,[])
  | (_,.gap)=>(4,a,[]):=by
 obtain ⟨m,hm⟩:∃ m,l.length=m+1:=⟨l.length - 1,by have:=List.length_pos_iff.2 hl;omega⟩
 rw [hm,Nat.add_sub_cancel,all.eq_def]
 simp only [if_neg hl]
 obtain ⟨k,r⟩:=one l
 cases r<;>rfl
theorem Asb {s:List UInt8} {ts:List Tok} {a:Nat} (h:Got s ts a) (ha:a<s.length) {k:Int} {x:List UInt8} {n:Nat} (h1:one (s.drop a)=(k,.fine x n)):0<n/\a+n<=s.length/\Got s (ts ++ [⟨k,x,a⟩]) (a+n):=by
 have hl:s.drop a ≠ []:=λe=>by have:=congrArg List.length e;rw [List.length_drop] at this;simp at this;omega
 have ho:=J5 h1
 have hn:=ho.1
 have hn2:=ho.2.1
 rw [List.length_drop] at hn2
 refine ⟨hn,by omega,?_⟩
 unfold Got at h ⊢
 rw [Amn hl,h1] at h
 simp only at h
 rw [List.drop_drop,Afl _ (s.drop (a+n)).length (a+n) (s.drop (a+n)) (by simp only [List.length_drop];omega) (Nat.le_refl _)] at h
 rw [h]
 by_cases hz:(all (s.drop (a+n)).length (a+n) (s.drop (a+n))).1=0
 ·rw [if_pos hz,if_pos hz]
  simp only [if_true,List.append_assoc,List.cons_append,List.nil_append]
 ·rw [if_neg hz,if_neg hz,if_neg hz]
theorem Ao5 {s:List UInt8} {ts:List Tok} {a:Nat} (h:Got s ts a) (ha:a<s.length):(∀ k i,one (s.drop a)=(k,.bad i)->all s.length 0 s=(4,a+i,[]))/\(∀ k i,one (s.drop a)=(k,.deep i)->all s.length 0 s=(6,a+i,[]))/\(∀ k,one (s.drop a)=(k,.gap)->all s.length 0 s=(4,a,[])):=by
 have hl:s.drop a ≠ []:=λe=>by have:=congrArg List.length e;rw [List.length_drop] at this;simp at this;omega
 unfold Got at h
 rw [Amn hl] at h
 refine ⟨λk i e=>?_,λk i e=>?_,λk e=>?_⟩<;>(rw [e] at h;simpa using h)
theorem Ah8 {s:List UInt8} {ts:List Tok} {a:Nat} (h:Got s ts a) (ha:a<s.length) :
  (∃ k x n,Am3 a (one (s.drop a))=.tuple #[.agg #[.int .i64 k,.string ⟨x.toArray⟩,.int .i64 (a:Int)],.int .i64 ((a+n:Nat):Int),.int .i64 0]/\0<n/\a+n<=s.length/\Got s (ts ++ [⟨k,x,a⟩]) (a+n)) \/
  (∃ p E,(E=4\/E=6)/\Am3 a (one (s.drop a))=.tuple #[.agg #[.int .i64 0,.string ⟨#[]⟩,.int .i64 0],.int .i64 ((p:Nat):Int),.int .i64 E]/\all s.length 0 s=(E,p,[])):=by
 obtain ⟨w1,w2,w3⟩:=Ao5 h ha
 cases ho:one (s.drop a) with
 | mk k r =>
  cases r with
  | fine x n=>exact .inl ⟨k,x,n,rfl,Asb h ha ho⟩
  | bad i=>exact .inr ⟨a+i,4,.inl rfl,rfl,w1 k i ho⟩
  | deep i=>exact .inr ⟨a+i,6,.inr rfl,rfl,w2 k i ho⟩
  | gap=>exact .inr ⟨a,4,.inl rfl,rfl,w3 k ho⟩
end Lex
set_option maxRecDepth 100000 in
theorem Ar8 (s:ByteArray) (w:World) (hs:s.size<=100000) :
  Calls Tryz.prog 53 #[.string s] w (Ab8 (Lex.Ij s.data.toList).1 (Lex.Ij s.data.toList).2.1 (Lex.Ij s.data.toList).2.2 w):=by
 have hsl:s.data.toList.length=s.size:=by simp
 obtain ⟨R,hR⟩:∃ R,R=Lex.Ij s.data.toList:=⟨_,rfl⟩
 rw [<- hR]
 have hR0:=hR
 unfold Lex.Ij at hR
 rw [hsl] at hR
 by_cases h1:2000<s.size
 ·rw [if_pos h1] at hR
  subst hR
  have h1z:(2000:Int)<(s.size:Int):=by omega
  clear hR0
  go_enter Tryz.func53,Tryz.ntmps53
  go_wp2
  go_ret3
  exact Ln rfl (Yy.nil _) (Below.refl _ _)
 ·rw [if_neg h1] at hR
  have h1z:¬ (2000:Int)<(s.size:Int):=by omega
  have KR:=Lib.hid (Th s w hs)
  obtain ⟨z,hz⟩:∃ z,z=(Aq s.data.toList).2:=⟨_,rfl⟩
  unfold Tk at KR
  rw [<- hz] at KR hR
  by_cases h2:z=-1
  ·rw [if_pos h2] at hR
   have hz2:¬ (0:Int)<=z:=by omega
   have HR:=Lib.hid hR
   have hs2:s.size<=2000:=by omega
   clear hR hR0 hz h2 h1
   go_enter Tryz.func53,Tryz.ntmps53
   go_wp2_with fail
   refine KR.out.mono ?_
   rintro e w1 ⟨v,rfl,-,hb⟩
   have B0:=Lib.hid hb
   clear hb
   go_wp2
   go_loopg [7,8] (s.size+1) (λgk s7 s8 wr=>∃ (a:Nat) (ts:List Tok),s8=.int .i64 a/\a<=s.size/\s.size - a<gk/\Hid (Lex.Got s.data.toList ts a/\Mi w.heap.size s7 ts wr/\ts.length<=a/\Below w.heap.size w wr))
   case atStart=>exact ⟨0,[],rfl,Nat.zero_le _,by omega,Lib.hid ⟨Lex.Ax4 _,Mi.nil _ _,Nat.zero_le _,B0.out⟩⟩
   case round =>
    obtain ⟨a,ts,rfl,ha,hg,I⟩:=hrel
    by_cases hlt:a<s.size
    ·have haz:(a:Int)<(s.size:Int):=by omega
     have KT:=Ap7 s a hlt wr hs
     rcases Lex.Ah8 I.out.1 (by rw [hsl];exact hlt) with ⟨k,x,n,e1,h0,h2,hG⟩ | ⟨p,E,hE,e1,e2⟩
     ·rw [e1] at KT
      have KT:=Lib.hid KT
      rw [hsl] at h2
      obtain ⟨m,hm⟩:∃ m,m=a+n:=⟨_,rfl⟩
      rw [<- hm] at KT hG h2
      have HG:=Lib.hid hG
      have ham:a<m:=by omega
      have hts:ts.length<=1000000:=by have:=I.out.2.2.1;omega
      clear e1 hG hm h0
      go_wp2_with fail
      with_reducible refine KT.out.mono ?_
      rintro e w1 ⟨rfl,hb1⟩
      have B1:=Lib.hid hb1
      clear hb1
      go_wp2_with (at_builtin;refine Akt _ w.heap.size u7 ts ((I.out.2.1.Ac B1.out).Ac ((Below.refl _ w1).alloc (Nat.le_refl _) _)) (Nat.le_trans I.out.2.2.2.size (Nat.le_trans B1.out.size (by simp))) hts ⟨k,x,a⟩ _ (by simp) rfl _ _ rfl rfl rfl ?_;intro v2 w2 ho2 hb2;have HO:=Lib.hid ho2;have HB2:=Lib.hid hb2;clear ho2 hb2)
      have I2:Hid (Lex.Got s.data.toList (ts ++ [⟨k,x,a⟩]) m/\Mi w.heap.size v2 (ts ++ [⟨k,x,a⟩]) w2/\(ts ++ [(⟨k,x,a⟩:Tok)]).length<=m/\Below w.heap.size w w2) :=
       Lib.hid ⟨HG.out,HO.out,by rw [List.length_append];have:=I.out.2.2.1;simp;omega,((I.out.2.2.2.trans (B1.out.mono I.out.2.2.2.size)).alloc (Nat.le_trans I.out.2.2.2.size B1.out.size) _).trans HB2.out⟩
      go_roundg (s.size - a)
      case measure=>omega
      case rel=>exact ⟨m,ts ++ [⟨k,x,a⟩],rfl,h2,by omega,I2⟩
     ·rw [e1] at KT
      have KT:=Lib.hid KT
      have E2:=Lib.hid (HR.out.trans e2)
      have hEz:(E == 0)=false:=by rcases hE with rfl | rfl<;>rfl
      clear e1 e2 hE
      go_wp2_with fail
      with_reducible refine KT.out.mono ?_
      rintro e w1 ⟨rfl,hb1⟩
      have B1:=Lib.hid hb1
      clear hb1
      go_wp2
      go_ret3
      have:=E2.out
      subst this
      exact Ln rfl (Yy.nil _) ((((I.out.2.2.2.trans (B1.out.mono I.out.2.2.2.size)).alloc (Nat.le_trans I.out.2.2.2.size B1.out.size) _)))
    ·obtain rfl:a=s.size:=by omega
     have E2:=Lib.hid (HR.out.trans (Lex.Awi I.out.1 (by rw [hsl];exact Nat.le_refl _)))
     have haz:¬ (s.size:Int)<(s.size:Int):=by omega
     go_wp2
     go_ret3
     have:=E2.out
     subst this
     exact Ln rfl I.out.2.1.Adu I.out.2.2.2
  ·rw [if_neg h2] at hR
   have hz0:0<=z:=by
    obtain ⟨-,-,h3⟩:=Dt (s:=s.data.toList) (m:=(Aq s.data.toList).1) (z:=(Aq s.data.toList).2) rfl
    rcases h3 with ⟨h3,-⟩ | ⟨k,h3,-⟩
    ·exact absurd (hz.trans h3) h2
    ·rw [hz,h3];omega
   subst hR
   clear hR0 hz h2 h1
   go_enter Tryz.func53,Tryz.ntmps53
   go_wp2_with fail
   refine KR.out.mono ?_
   rintro e w1 ⟨v,rfl,-,hb⟩
   have B0:=Lib.hid hb
   clear hb
   go_wp2
   go_ret3
   refine Ln (v:=.slice none 0 0) ?_ (Yy.nil _) B0.out
   show Ending.returned (.tuple #[_,.int .i64 z,_])=.returned (.tuple #[_,.int .i64 ((z.toNat:Nat):Int),_])
   rw [Int.toNat_of_nonneg hz0]
   rfl
set_option maxRecDepth 100000 in
theorem Wp (s:ByteArray) (w:World) (hs:s.size<=100000):Calls Tryz.prog 26 #[.string s] w λe w'=>e=.returned (.bool (Lex.Ed s.data.toList))/\Below w.heap.size w w':=by
 by_cases h0:s.size=0
 ·obtain rfl:s=ByteArray.empty:=ByteArray.size_eq_zero_iff.1 h0
  go_enter Tryz.func26,Tryz.ntmps26
  go_wp2
  go_ret
  exact ⟨rfl,Below.refl _ _⟩
 ·have hpos:0<s.size:=by omega
  have hne:=Lex.ne_nil hpos
  have hsl:s.data.toList.length=s.size:=by simp
  have K:=Pn 63 Lex.Q3 Lex.Rc (λ_ _=>by kernel_rfl) (λt W h=>Qm t W h) s 0 (Nat.zero_le _) w hs
  rw [List.drop_zero,Lex.Vk,Nat.zero_add,show ((0:Nat):Int)=0 from rfl] at K
  have hx:(((s.data.toList.takeWhile Lex.Au).length:Int) == (s.size:Int))=Lex.Ed s.data.toList:=by
   unfold Lex.Ed
   have he:s.data.toList.isEmpty=false:=by
    rw [List.isEmpty_eq_false_iff]
    exact λe=>h0 (by rw [<- hsl,e];rfl)
   rw [he,Bool.not_false,Bool.true_and,<- hsl]
   generalize s.data.toList=l
   rw [Bool.eq_iff_iff,beq_iff_eq,List.all_eq_true]
   have hW:=Lex.Fg Lex.Au l
   constructor
   ·intro h
    have h2:(l.takeWhile Lex.Au).length=l.length:=by omega
    have h3:=hW.2.1
    rw [h2,List.take_length] at h3
    rw [<- h3]
    exact hW.2.2.1
   ·intro h
    have h2:=Lex.Nr Lex.Au l [] h (λc t e=>by cases e)
    rw [List.append_nil] at h2
    rw [h2]
  rw [<- hx]
  generalize (s.data.toList.takeWhile Lex.Au).length=n at K ⊢
  have K:=Lib.hid K
  clear hx hsl h0
  go_enter Tryz.func26,Tryz.ntmps26
  go_wp2_with fail
  with_reducible refine K.out.mono ?_
  rintro e w1 ⟨rfl,rfl⟩
  go_wp2
  go_ret
  exact ⟨rfl,Below.refl _ _⟩
end
end Go.Proofs.YtppmbilonaflfaaGreatDoor
