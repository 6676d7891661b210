namespace Go.Proofs.YtipkfalbepiphaaGreatDoor
theorem jO {p:Prop}(h:p:=by omega):p:=h
theorem jD {p:Prop}(h:p:=by decide):p:=h
theorem jS {p:Prop}(h:p:=by simp):p:=h
theorem jA {p:Prop}(h:p:=by assumption):p:=h
theorem jaa:type_of% @Nat.le_refl:=@Nat.le_refl
theorem jab:type_of% @List.length_append:=@List.length_append
theorem jac:type_of% @List.length_cons:=@List.length_cons
theorem jad:type_of% @List.setIfInBounds_toArray:=@List.setIfInBounds_toArray
theorem jae:type_of% @List.set_cons_zero:=@List.set_cons_zero
theorem jaf:type_of% @List.set_cons_succ:=@List.set_cons_succ
theorem jag:type_of% @Bool.and_eq_true:=@Bool.and_eq_true
theorem jah:type_of% @List.cons_append:=@List.cons_append
theorem jai:type_of% @List.length_map:=@List.length_map
theorem jaj:type_of% @List.length_drop:=@List.length_drop
theorem jak:type_of% @List.length_take:=@List.length_take
theorem jal:type_of% @List.mem_cons:=@List.mem_cons
theorem jao:type_of% @List.flatMap_cons:=@List.flatMap_cons
theorem jap:type_of% @List.mem_append:=@List.mem_append
theorem jaq:type_of% @List.append_assoc:=@List.append_assoc
theorem jar:type_of% @List.all_eq_true:=@List.all_eq_true
theorem jas:type_of% @Nat.lt_of_lt_of_le:=@Nat.lt_of_lt_of_le
section
structure Rg where
 lo:Int
 hi:Int
 cat:Int
 bidi:Int
 join:Int
 script:Int
structure Cl where
 lo:Int
 hi:Int
 cls:Int
 step:Int
structure Lw where
 lo:Int
 hi:Int
 far:Int
structure Sp where
 rune:Int
 one:Int
 two:Int
 soft:Bool
 out:Bool
instance:Inhabited Rg:=⟨⟨0,0,0,0,0,0⟩⟩
instance:Inhabited Cl:=⟨⟨0,0,0,0⟩⟩
instance:Inhabited Lw:=⟨⟨0,0,0⟩⟩
instance:Inhabited Sp:=⟨⟨0,0,0,false,false⟩⟩
def ranges:List Rg:=[
 ⟨0,31,9,0,0,0⟩,⟨32,32,8,0,0,0⟩,⟨33,44,6,0,0,0⟩,⟨45,47,6,7,0,0⟩,⟨48,57,5,4,0,0⟩,⟨58,64,6,0,0,0⟩,⟨65,90,1,1,0,1⟩,⟨91,96,6,0,0,0⟩,
 ⟨97,122,2,1,0,1⟩,⟨123,126,7,0,0,0⟩,⟨127,127,9,0,0,0⟩,⟨160,160,8,0,0,0⟩,⟨178,179,7,4,0,0⟩,⟨183,183,6,0,0,0⟩,⟨192,214,1,1,0,1⟩,⟨215,215,7,0,0,0⟩,
 ⟨216,222,1,1,0,1⟩,⟨223,246,2,1,0,1⟩,⟨247,247,7,0,0,0⟩,⟨248,255,2,1,0,1⟩,⟨768,772,4,6,3,0⟩,⟨774,776,4,6,3,0⟩,⟨778,778,4,6,3,0⟩,⟨803,803,4,6,3,0⟩,
 ⟨807,807,4,6,3,0⟩,⟨885,885,7,0,0,2⟩,⟨913,929,1,1,0,2⟩,⟨931,937,1,1,0,2⟩,⟨945,969,2,1,0,2⟩,⟨1040,1071,1,1,0,3⟩,⟨1072,1103,2,1,0,3⟩,⟨1456,1465,4,6,3,4⟩,
 ⟨1488,1514,3,2,0,4⟩,⟨1523,1524,6,2,0,4⟩,⟨1575,1575,3,3,2,5⟩,⟨1576,1576,3,3,1,5⟩,⟨1577,1577,3,3,2,5⟩,⟨1578,1582,3,3,1,5⟩,⟨1583,1586,3,3,2,5⟩,⟨1587,1594,3,3,1,5⟩,
 ⟨1601,1607,3,3,1,5⟩,⟨1608,1608,3,3,2,5⟩,⟨1610,1610,3,3,1,5⟩,⟨1611,1618,4,6,3,0⟩,⟨1632,1641,5,5,0,5⟩,⟨1776,1785,5,4,0,5⟩,⟨2325,2361,3,1,0,6⟩,⟨2364,2364,4,6,3,6⟩,
 ⟨2381,2381,4,6,3,6⟩,⟨2392,2392,3,1,0,6⟩,⟨4352,4370,3,1,0,9⟩,⟨4449,4469,3,1,0,9⟩,⟨4520,4546,3,1,0,9⟩,⟨7844,7844,1,1,0,1⟩,⟨7845,7845,2,1,0,1⟩,⟨8204,8205,10,0,0,0⟩,
 ⟨8490,8491,1,1,0,1⟩,⟨12290,12290,6,0,0,0⟩,⟨12353,12438,3,1,0,7⟩,⟨12441,12441,4,6,3,0⟩,⟨12449,12538,3,1,0,7⟩,⟨12539,12539,6,0,0,0⟩,⟨19968,40959,3,1,0,8⟩,⟨44032,55203,3,1,0,9⟩,
 ⟨64257,64258,2,1,0,1⟩,⟨65281,65295,6,0,0,0⟩,⟨65296,65305,5,4,0,0⟩,⟨65306,65312,6,0,0,0⟩,⟨65313,65338,1,1,0,1⟩,⟨65339,65344,6,0,0,0⟩,⟨65345,65370,2,1,0,1⟩,⟨65371,65374,7,0,0,0⟩,
 ⟨66560,66599,1,1,0,10⟩,⟨66600,66639,2,1,0,10⟩]
def Hv:List Cl:=[
 ⟨768,772,230,0⟩,⟨774,776,230,0⟩,⟨778,778,230,0⟩,⟨803,803,220,0⟩,⟨807,807,202,0⟩,⟨1456,1465,10,1⟩,⟨1611,1618,27,1⟩,⟨2364,2364,7,0⟩,
 ⟨2381,2381,9,0⟩,⟨12441,12441,8,0⟩]
def lowers:List Lw:=[
 ⟨65,90,32⟩,⟨192,214,32⟩,⟨216,222,32⟩,⟨913,929,32⟩,⟨931,937,32⟩,⟨1040,1071,32⟩,⟨7844,7844,1⟩,⟨8490,8490,(-8383)⟩,
 ⟨8491,8491,(-8262)⟩,⟨65313,65338,32⟩,⟨66560,66599,40⟩]
def splits:List Sp:=[
 ⟨160,32,0,true,true⟩,⟨178,50,0,true,true⟩,⟨179,51,0,true,true⟩,⟨192,65,768,false,false⟩,⟨193,65,769,false,false⟩,⟨194,65,770,false,false⟩,⟨195,65,771,false,false⟩,⟨196,65,776,false,false⟩,
 ⟨197,65,778,false,false⟩,⟨199,67,807,false,false⟩,⟨200,69,768,false,false⟩,⟨201,69,769,false,false⟩,⟨202,69,770,false,false⟩,⟨203,69,776,false,false⟩,⟨209,78,771,false,false⟩,⟨214,79,776,false,false⟩,
 ⟨220,85,776,false,false⟩,⟨224,97,768,false,false⟩,⟨225,97,769,false,false⟩,⟨226,97,770,false,false⟩,⟨227,97,771,false,false⟩,⟨228,97,776,false,false⟩,⟨229,97,778,false,false⟩,⟨231,99,807,false,false⟩,
 ⟨232,101,768,false,false⟩,⟨233,101,769,false,false⟩,⟨234,101,770,false,false⟩,⟨235,101,776,false,false⟩,⟨241,110,771,false,false⟩,⟨246,111,776,false,false⟩,⟨252,117,776,false,false⟩,⟨1049,1048,774,false,false⟩,
 ⟨1081,1080,774,false,false⟩,⟨2392,2325,2364,false,true⟩,⟨7844,194,769,false,false⟩,⟨7845,226,769,false,false⟩,⟨8490,75,0,false,true⟩,⟨8491,197,0,false,true⟩,⟨12460,12459,12441,false,false⟩,⟨12468,12467,12441,false,false⟩,
 ⟨64257,102,105,true,true⟩,⟨64258,102,108,true,true⟩]
section
variable {α:Type} [Inhabited α]
def Hn (lo hi:α->Int):List α->Int->Option α
 | [],_=>none
 | x::t,r=>if r<=hi x then (if lo x<=r then some x else none) else Hn lo hi t r
def rising (lo hi:α->Int):List α->Bool
 | []=>true
 | x::t=>decide (lo x<=hi x) && (match t with | []=>true | y::_=>decide (hi x<lo y)) && rising lo hi t
omit [Inhabited α] in
theorem V9 {lo hi:α->Int} {x:α} {t:List α} (h:rising lo hi (x::t)=true):rising lo hi t=true:=by
 simp only [rising,jag] at h;exact h.2
omit [Inhabited α] in
theorem Sy {lo hi:α->Int}:∀ {t:List α} {x:α},rising lo hi (x::t)=true->∀ y ∈ t,hi x<lo y/\hi x<hi y
 | [],_,_,_,h=>by cases h
 | z::t,x,h,y,hy=>by
  have ht:=V9 h;have h1:hi x<lo z:=by simp only [rising,jag,decide_eq_true_eq] at h;exact h.1.2
  have h2:lo z<=hi z:=by simp only [rising,jag,decide_eq_true_eq] at ht;exact ht.1.1
  rcases jal.1 hy with rfl | hy
  · exact ⟨h1,by omega⟩
  · have:=Sy ht y hy;omega
theorem Ik {lo hi:α->Int}:∀ {l:List α},rising lo hi l=true->∀ a b,a<=b->b<l.length->hi l[a]!<=hi l[b]!
 | [],_,_,_,_,h=>by simp at h
 | x::t,h,a,b,hab,hb=>by
  match a,b,hab with
  | 0,0,_=>exact Int.le_refl _
  | 0,b+1,_ =>
   have hb':b<t.length:=by simpa using hb
   have:=(Sy h t[b] (List.getElem_mem hb')).2;simp only [List.getElem!_cons_zero,List.getElem!_cons_succ];rw [getElem!_pos t b hb'];omega
  | a+1,b+1,hab =>
   simp only [List.getElem!_cons_succ];exact Ik (V9 h) a b jO (by simpa using hb)
theorem Td {lo hi:α->Int} (r:Int):∀ (l:List α) (k:Nat),k<=l.length->(∀ t,t<k->decide (r<=hi l[t]!)=false)->(∀ t,k<=t->t<l.length->decide (r<=hi l[t]!)=true) ->
  Hn lo hi l r=if k<l.length then (if lo l[k]!<=r then some l[k]! else none) else none
 | [],k,_,_,_=>by simp [Hn]
 | x::t,0,_,_,h=>by
  have:=h 0 (jaa _) jS;simp only [List.getElem!_cons_zero,decide_eq_true_eq] at this;simp [Hn,this]
 | x::t,k+1,hk,h1,h2=>by
  have h0:=h1 0 jO;simp only [List.getElem!_cons_zero,decide_eq_false_iff_not] at h0;have:=Td (lo:=lo) r t k (by simpa using hk) (λj hj=>by have:=h1 (j+1) jO;simpa using this) (λj h3 h4=>by have:=h2 (j+1) jO (by simpa using h4);simpa using this);simp only [Hn,if_neg h0,this,jac,Nat.add_lt_add_iff_right,List.getElem!_cons_succ]
omit [Inhabited α] in
theorem Dm {lo hi:α->Int} {r:Int} {y:α}:∀ {l:List α},Hn lo hi l r=some y->y ∈ l/\lo y<=r/\r<=hi y
 | [],h=>by simp [Hn] at h
 | x::t,h=>by
  simp only [Hn] at h;by_cases h1:r<=hi x
  ·rw [if_pos h1] at h;by_cases h2:lo x<=r
   · rw [if_pos h2] at h;obtain rfl:=Option.some.inj h;exact ⟨by simp,h2,h1⟩
   · rw [if_neg h2] at h;cases h
  ·rw [if_neg h1] at h;have:=Dm h;exact ⟨List.mem_cons_of_mem _ this.1,this.2⟩
end
theorem Ak5:rising Rg.lo Rg.hi ranges=true:=by decide +kernel
theorem Afh:rising Cl.lo Cl.hi Hv=true:=by decide +kernel
theorem Aj2:rising Lw.lo Lw.hi lowers=true:=by decide +kernel
theorem Als:rising Sp.rune Sp.rune splits=true:=by decide +kernel
def Gx (r:Int):Option Rg:=Hn Rg.lo Rg.hi ranges r
def Ec (r:Int):Int:=((Gx r).getD default).cat
def Cd (r:Int):Int:=((Gx r).getD default).bidi
def Dt (r:Int):Int:=((Gx r).getD default).join
def Ax (r:Int):Int:=((Gx r).getD default).script
def Afg (r:Int):Option Cl:=Hn Cl.lo Cl.hi Hv r
def Ad (r:Int):Int:=match Afg r with | some x=>x.cls+x.step*(r - x.lo) | none=>0
def Mn (r:Int):Option Lw:=Hn Lw.lo Lw.hi lowers r
def Fx (r:Int):Int:=match Mn r with | some x=>r+x.far | none=>r
def rowOf (r:Int):Option Sp:=Hn Sp.rune Sp.rune splits r
def Bp (r:Int):Bool:=decide (65281<=r) && decide (r<=65374)
def Ak (r:Int):Option Sp:=match rowOf r with | some x=>some x | none=>if Bp r then some ⟨r,r - 65248,0,true,true⟩ else none
def makes (a b:Int) (s:Sp):Bool:=!s.soft && !s.out && s.one == a && s.two == b
def Gv (a b:Int):Option Int:=if b=0 then none else (splits.find? (makes a b)).map Sp.rune
end
section
namespace Utf
def right (r:Nat):Bool:=decide (r<55296) || (decide (57343<r) && decide (r<=1114111))
def u (n:Nat):UInt8:=UInt8.ofNat n
theorem Bb {n:Nat} (h:n<256):(u n).toNat=n:=by
 show (UInt8.ofNat n).toNat=n;rw [UInt8.toNat_ofNat'];omega
theorem A65 (b:UInt8):u b.toNat=b:=UInt8.ofNat_toNat
theorem Dq (b:UInt8):b.toNat<256:=UInt8.toNat_lt b
def enc (r:Nat):List UInt8 :=
 if r<128 then [u r]
 else if r<2048 then [u (192+r / 64),u (128+r % 64)]
 else if r<65536 then [u (224+r / 4096),u (128+r / 64 % 64),u (128+r % 64)]
 else [u (240+r / 262144),u (128+r / 4096 % 64),u (128+r / 64 % 64),u (128+r % 64)]
def cont (b:UInt8):Bool:=decide (128<=b.toNat) && decide (b.toNat<192)
def dec:List UInt8->Option (Nat × Nat)
 | []=>none
 | a::t =>
  if a.toNat<128 then some (a.toNat,1)
  else if a.toNat<194 then none
  else if a.toNat<224 then
   match t with
   | b::_=>if cont b then some ((a.toNat - 192)*64+(b.toNat - 128),2) else none
   | _=>none
  else if a.toNat<240 then
   match t with
   | b::c::_ =>
    if cont b && cont c && decide (2048<=(a.toNat - 224)*4096+(b.toNat - 128)*64+(c.toNat - 128)) && right ((a.toNat - 224)*4096+(b.toNat - 128)*64+(c.toNat - 128))
    then some ((a.toNat - 224)*4096+(b.toNat - 128)*64+(c.toNat - 128),3) else none
   | _=>none
  else if a.toNat<248 then
   match t with
   | b::c::d::_ =>
    if cont b && cont c && cont d && decide (65536<=(a.toNat - 240)*262144+(b.toNat - 128)*4096+(c.toNat - 128)*64+(d.toNat - 128)) && right ((a.toNat - 240)*262144+(b.toNat - 128)*4096+(c.toNat - 128)*64+(d.toNat - 128))
    then some ((a.toNat - 240)*262144+(b.toNat - 128)*4096+(c.toNat - 128)*64+(d.toNat - 128),4) else none
   | _=>none
  else none
theorem Dw (r:Nat):right r=true ↔ r<55296\/(57343<r/\r<=1114111):=by
 unfold right;simp
theorem Afl (r:Nat) (h:right r=true) (t:List UInt8):dec (enc r ++ t)=some (r,(enc r).length):=by
 rw [Dw] at h;unfold enc;by_cases h1:r<128
 ·rw [if_pos h1];simp only [jah,List.nil_append,dec,Bb (show r<256 by omega),if_pos h1,jac,List.length_nil]
 rw [if_neg h1];by_cases h2:r<2048
 ·rw [if_pos h2];have a:=Bb (show 192+r / 64<256 by omega);have b:=Bb (show 128+r % 64<256 by omega);have cb:cont (u (128+r % 64))=true:=by unfold cont;rw [b];simp;omega
  simp only [jah,List.nil_append,dec,a,b,cb,if_true,jac,List.length_nil];rw [if_neg jO,if_neg jO,if_pos jO,show (192+r / 64 - 192)*64+(128+r % 64 - 128)=r by omega]
 rw [if_neg h2];by_cases h3:r<65536
 ·rw [if_pos h3];have a:=Bb (show 224+r / 4096<256 by omega);have b:=Bb (show 128+r / 64 % 64<256 by omega);have c:=Bb (show 128+r % 64<256 by omega);have cb:cont (u (128+r / 64 % 64))=true:=by unfold cont;rw [b];simp;omega
  have cc:cont (u (128+r % 64))=true:=by unfold cont;rw [c];simp;omega
  have e:(224+r / 4096 - 224)*4096+(128+r / 64 % 64 - 128)*64+(128+r % 64 - 128)=r:=jO
  have hr:right r=true:=(Dw r).2 h;have h2':decide (2048<=r)=true:=by simp;omega
  simp only [jah,List.nil_append,dec,a,b,c,cb,cc,e,hr,h2',Bool.and_self,if_true,jac,List.length_nil];rw [if_neg jO,if_neg jO,if_neg jO,if_pos jO]
 rw [if_neg h3];have a:=Bb (show 240+r / 262144<256 by omega);have b:=Bb (show 128+r / 4096 % 64<256 by omega);have c:=Bb (show 128+r / 64 % 64<256 by omega);have d:=Bb (show 128+r % 64<256 by omega);have cb:cont (u (128+r / 4096 % 64))=true:=by unfold cont;rw [b];simp;omega
 have cc:cont (u (128+r / 64 % 64))=true:=by unfold cont;rw [c];simp;omega
 have cd:cont (u (128+r % 64))=true:=by unfold cont;rw [d];simp;omega
 have e:(240+r / 262144 - 240)*262144+(128+r / 4096 % 64 - 128)*4096+(128+r / 64 % 64 - 128)*64+(128+r % 64 - 128)=r:=jO
 have hr:right r=true:=(Dw r).2 h;have h2':decide (65536<=r)=true:=by simp;omega
 simp only [jah,List.nil_append,dec,a,b,c,d,cb,cc,cd,e,hr,h2',Bool.and_self,if_true,jac,List.length_nil];rw [if_neg jO,if_neg jO,if_neg jO,if_neg jO,if_pos jO]
theorem Ahe {b:UInt8} {n:Nat} (h:b.toNat=n):u n=b:=by rw [<- h];exact A65 b
theorem Uc {s:List UInt8} {r n:Nat} (h:dec s=some (r,n)):right r=true/\n=(enc r).length/\s=enc r ++ s.drop n:=by
 match s,h with
 | [],h=>simp [dec] at h
 | a::t,h =>
  have ha:=Dq a;unfold dec at h;dsimp only at h;by_cases h1:a.toNat<128
  ·rw [if_pos h1] at h;simp only [Option.some.injEq,Prod.mk.injEq] at h;obtain ⟨rfl,rfl⟩:=h;refine ⟨(Dw _).2 jO,?_,?_⟩
   ·simp [enc,h1]
   ·simp [enc,h1,A65]
  rw [if_neg h1] at h;by_cases h2:a.toNat<194
  ·rw [if_pos h2] at h;cases h
  rw [if_neg h2] at h;by_cases h3:a.toNat<224
  ·rw [if_pos h3] at h;match t,h with
   | [],h=>cases h
   | b::t,h =>
    have hb:=Dq b;cases cb:cont b with
    | false=>simp [cb] at h
    | true =>
     simp only [cb,if_true,Option.some.injEq,Prod.mk.injEq] at h;obtain ⟨hr,rfl⟩:=h;simp only [cont,jag,decide_eq_true_eq] at cb;have e:enc r=[a,b]:=by
      unfold enc;rw [if_neg jO,if_pos jO,Ahe (b:=a) jO,Ahe (b:=b) jO]
     exact ⟨(Dw _).2 jO,by rw [e];rfl,by rw [e];rfl⟩
  rw [if_neg h3] at h;by_cases h4:a.toNat<240
  ·rw [if_pos h4] at h;match t,h with
   | [],h=>cases h
   | [_],h=>cases h
   | b::c::t,h =>
    have hb:=Dq b;have hc:=Dq c;simp only at h;split at h
    ·rename_i hh
     simp only [Option.some.injEq,Prod.mk.injEq] at h;obtain ⟨hr,rfl⟩:=h;simp only [jag,cont,decide_eq_true_eq] at hh;obtain ⟨⟨⟨cb,cc⟩,h5⟩,h6⟩:=hh;have e:enc r=[a,b,c]:=by
      unfold enc;rw [if_neg jO,if_neg jO,if_pos jO,Ahe (b:=a) jO,Ahe (b:=b) jO,Ahe (b:=c) jO]
     exact ⟨by rw [<- hr];exact h6,by rw [e];rfl,by rw [e];rfl⟩
    ·cases h
  rw [if_neg h4] at h;by_cases h5:a.toNat<248
  ·rw [if_pos h5] at h;match t,h with
   | [],h=>cases h
   | [_],h=>cases h
   | [_,_],h=>cases h
   | b::c::d::t,h =>
    have hb:=Dq b;have hc:=Dq c;have hd:=Dq d;simp only at h;split at h
    ·rename_i hh
     simp only [Option.some.injEq,Prod.mk.injEq] at h;obtain ⟨hr,rfl⟩:=h;simp only [jag,cont,decide_eq_true_eq] at hh;obtain ⟨⟨⟨⟨cb,cc⟩,cd⟩,h6⟩,h7⟩:=hh;have e:enc r=[a,b,c,d]:=by
      unfold enc;rw [if_neg jO,if_neg jO,if_neg jO,Ahe (b:=a) jO,Ahe (b:=b) jO,Ahe (b:=c) jO,Ahe (b:=d) jO]
     exact ⟨by rw [<- hr];exact h7,by rw [e];rfl,by rw [e];rfl⟩
    ·cases h
  rw [if_neg h5] at h;cases h
theorem Mf (r:Nat):0<(enc r).length:=by
 unfold enc
 repeat' split
 all_goals simp
theorem Ayu (r:Nat):(enc r).length<=4:=by
 unfold enc
 repeat' split
 all_goals simp
def Ek (l:List Nat):List UInt8:=l.flatMap enc
def J3 (l:List Nat):Bool:=l.all right
def readAll:Nat->List UInt8->List Nat × List UInt8
 | 0,s=>([],s)
 | k+1,s =>
  match dec s with
  | some (r,n)=>(r::(readAll k (s.drop n)).1,(readAll k (s.drop n)).2)
  | none=>([],s)
theorem P9:∀ (k:Nat) (s:List UInt8),J3 (readAll k s).1=true/\s=Ek (readAll k s).1 ++ (readAll k s).2
 | 0,s=>⟨rfl,rfl⟩
 | k+1,s=>by
  unfold readAll;cases h:dec s with
  | none=>exact ⟨rfl,rfl⟩
  | some p =>
   obtain ⟨r,n⟩:=p;obtain ⟨h1,h2,h3⟩:=Uc h;obtain ⟨h4,h5⟩:=P9 k (s.drop n);refine ⟨?_,?_⟩
   ·simp only [J3,List.all_cons,jag];exact ⟨h1,h4⟩
   ·simp only [Ek,jao,jaq];have h6:s.drop n=(readAll k (s.drop n)).1.flatMap enc ++ (readAll k (s.drop n)).2:=h5;rw [<- h6];exact h3
theorem My:∀ (l:List Nat) (k:Nat) (s t:List UInt8),s=Ek l ++ t->J3 l=true->dec t=none->s.length<=k->readAll k s=(l,t)
 | [],k,s,t,hs,_,ht,_=>by
  simp only [Ek,List.flatMap_nil,List.nil_append] at hs;subst hs;cases k with
  | zero=>rfl
  | succ k=>unfold readAll;rw [ht]
 | r::l,k,s,t,hs,hl,ht,hk=>by
  simp only [J3,List.all_cons,jag] at hl;simp only [Ek,jao,jaq] at hs;have hp:=Mf r;have hlen:s.length=(enc r).length+(l.flatMap enc ++ t).length:=by rw [hs,jab]
  match k,hk with
  | 0,hk=>omega
  | k+1,hk =>
   unfold readAll;rw [hs,Afl r hl.1 _];have h1:(enc r ++ (l.flatMap enc ++ t)).drop (enc r).length=l.flatMap enc ++ t:=by simp
   simp only [h1];rw [My l k (l.flatMap enc ++ t) t rfl hl.2 ht jO]
def less:List UInt8->List UInt8->Bool
 | _,[]=>false
 | [],_::_=>true
 | a::x,b::y=>decide (a<b) || (a == b && less x y)
theorem Ac6 {a:Nat} (h:a<128):enc a=[u a]:=by unfold enc;rw [if_pos h]
def lenOf (r:Nat):Nat:=if r<128 then 1 else if r<2048 then 2 else if r<65536 then 3 else 4
theorem Me (r:Nat):(enc r).length=lenOf r:=by
 unfold enc lenOf
 repeat' split
 all_goals rfl
end Utf
end
