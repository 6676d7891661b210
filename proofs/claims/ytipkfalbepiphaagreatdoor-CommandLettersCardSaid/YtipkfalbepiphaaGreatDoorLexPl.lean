import Derived.Test.YtipkfalbepiphaaGreatDoorUtfB
namespace Go.Proofs.YtipkfalbepiphaaGreatDoor
section
open Utf
namespace Lex
def ok (l:List UInt8):Prop:=(Au l).2=-1
theorem Qx (l:List UInt8):ok l ↔ ∃ m:List Int,Ae m=true/\l=Ah m:=by
 constructor
 ·intro h;obtain ⟨h1,-,h3⟩:=Eu (s:=l) (m:=(Au l).1) (z:=(Au l).2) rfl;obtain ⟨h4,h5⟩:=Mh _ h1;rcases h3 with ⟨-,h3⟩ | ⟨k,hk,-⟩
  ·exact ⟨_,h4,by rw [h5,h3]⟩
  ·unfold ok at h;omega
 ·rintro ⟨m,hm,rfl⟩;unfold ok;rw [Gy hm]
theorem Jw {a b:List UInt8} (ha:ok a) (hb:ok b):ok (a ++ b):=by
 obtain ⟨m,hm,rfl⟩:=(Qx a).1 ha;obtain ⟨q,hq,rfl⟩:=(Qx b).1 hb;refine (Qx _).2 ⟨m ++ q,?_,?_⟩
 ·unfold Ae at hm hq ⊢;rw [List.all_append,hm,hq];rfl
 ·unfold Ah;exact List.flatMap_append.symm
theorem D0 {l:List UInt8} (h:∀ b ∈ l,b.toNat<128):ok l:=by
 unfold ok;rw [Axu h]
theorem Ym {r:Nat} (h:128<=r) (hr:right r=true):∀ b ∈ enc r,128<=b.toNat:=by
 rw [Dw] at hr;unfold enc;rw [if_neg jO];split
 ·intro b hb;simp only [jal,List.not_mem_nil,or_false] at hb;rcases hb with rfl | rfl<;>rw [Bb jO]<;>omega
 ·split
  ·intro b hb;simp only [jal,List.not_mem_nil,or_false] at hb;rcases hb with rfl | rfl | rfl<;>rw [Bb jO]<;>omega
  ·intro b hb;simp only [jal,List.not_mem_nil,or_false] at hb;rcases hb with rfl | rfl | rfl | rfl<;>rw [Bb jO]<;>omega
theorem Vd {c:UInt8} (hc:c.toNat<128):∀ (m:List Int) (A B:List UInt8),Ae m=true->Ah m=A ++ c::B->∃ p q:List Int,Ae p=true/\Ae q=true/\A=Ah p/\B=Ah q
 | [],A,B,_,h=>by
  have:=congrArg List.length h;simp [Ah] at this
 | y::m,A,B,hm,h=>by
  have hy:Aj y=true/\Ae m=true:=by
   unfold Ae at hm ⊢;rw [List.all_cons,jag] at hm;exact hm
  have hyr:right y.toNat=true:=by
   have:=hy.1;unfold Aj at this;rw [jag] at this;exact this.2
  have he:Ah (y::m)=enc y.toNat ++ Ah m:=by simp [Ah]
  rw [he,List.append_eq_append_iff] at h;rcases h with ⟨A2,h1,h2⟩ | ⟨bs,h1,h2⟩
  ·obtain ⟨p,q,hp,hq,rfl,rfl⟩:=Vd hc m A2 B hy.2 h2;refine ⟨y::p,q,?_,hq,?_,rfl⟩
   ·unfold Ae at hp ⊢;rw [List.all_cons,hy.1,hp];rfl
   ·rw [h1];simp [Ah]
  ·cases bs with
   | nil =>
    rw [List.append_nil] at h1;rw [List.nil_append] at h2;obtain ⟨p,q,hp,hq,e,rfl⟩:=Vd hc m [] B hy.2 h2.symm;refine ⟨[y],q,?_,hq,?_,rfl⟩
    ·unfold Ae;rw [List.all_cons,hy.1];rfl
    ·rw [<- h1];simp [Ah]
   | cons d bs =>
    rw [jah] at h2;injection h2 with h3 h4
    subst h3;by_cases hb:y.toNat<128
    ·have e:enc y.toNat=[u y.toNat]:=by unfold enc;rw [if_pos hb]
     rw [e] at h1;cases A with
     | nil =>
      rw [List.nil_append] at h1;injection h1 with h5 h6
      subst h6;exact ⟨[],m,rfl,hy.2,rfl,h4⟩
     | cons a A =>
      rw [jah] at h1;injection h1 with h5 h6
      have:=congrArg List.length h6;simp at this
    ·have:=Ym jO hyr c (by rw [h1];simp);omega
theorem N6 {c:UInt8} (hc:c.toNat<128) {A B:List UInt8} (h:ok (A ++ c::B)):ok A/\ok B:=by
 obtain ⟨m,hm,e⟩:=(Qx _).1 h;obtain ⟨p,q,hp,hq,rfl,rfl⟩:=Vd hc m A B hm e.symm;exact ⟨(Qx _).2 ⟨p,hp,rfl⟩,(Qx _).2 ⟨q,hq,rfl⟩⟩
theorem A37 {c:UInt8} (hc:c.toNat<128) {A B:List UInt8} (h:ok (A ++ c::B)):ok (A ++ B):=Jw (N6 hc h).1 (N6 hc h).2
end Lex
end
section
open Utf
namespace Lex
def Vq (n:Nat):Bool :=
 decide (128<=n) || (decide (97<=n) && decide (n<=122)) || (decide (65<=n) && decide (n<=90)) || (decide (48<=n) && decide (n<=57)) ||
  [33,35,36,37,38,39,42,43,45,47,61,63,94,95,96,123,124,125,126].contains n
def Em (n:Nat):Bool:=(decide (33<=n) && decide (n<=126)) || decide (128<=n)
def E8 (n:Nat):Bool:=n == 32 || n == 9
def D9 (n:Nat):Bool:=n == 60 || n == 62 || n == 58 || n == 59 || n == 64 || n == 44 || n == 46
def Ai3 (n:Nat):Bool:=E8 n || Em n
def Al (c:UInt8):Bool:=Vq c.toNat
def Bm (c:UInt8):Bool:=E8 c.toNat
def Aw (c:UInt8):Bool:=Ai3 c.toNat
def Am:List UInt8->Nat
 | []=>0
 | c::t =>
  if Bm c then Am t+1
  else match t with
   | d::e::r=>if c.toNat=13/\d.toNat=10/\Bm e=true then Am r+3 else 0
   | _=>0
inductive Cut where
 | fine (x:List UInt8) (n:Nat)
 | bad (i:Nat)
 | gap
 | deep (i:Nat)
def Cut.on (x:List UInt8) (k:Nat):Cut->Cut
 | .fine y n=>.fine (x ++ y) (n+k)
 | .bad i=>.bad (i+k)
 | .gap=>.gap
 | .deep i=>.deep (i+k)
def Cut.top:Cut->Cut
 | .fine x n=>.fine x (n+1)
 | .bad i=>.bad (i+1)
 | .gap=>.bad 0
 | .deep i=>.deep (i+1)
def quo:List UInt8->Cut
 | []=>.gap
 | c::t =>
  if c.toNat=34 then .fine [] 1
  else if c.toNat=92 then
   match t with
   | []=>.gap
   | d::r=>if Aw d then (quo r).on [d] 2 else .bad 1
  else if Aw c then (quo t).on [c] 1
  else .bad 0
def lit:List UInt8->Cut
 | []=>.gap
 | c::t =>
  if c.toNat=93 then .fine [] 1
  else if Em c.toNat=true/\c.toNat ≠ 91/\c.toNat ≠ 92 then (lit t).on [c] 1
  else .bad 0
def note:List UInt8->Nat->Cut
 | [],_=>.gap
 | c::t,d =>
  if c.toNat=40 then (if 32<=d then .deep 0 else (note t (d+1)).on [c] 1)
  else if c.toNat=41 then (if d<=1 then .fine [] 1 else (note t (d - 1)).on [c] 1)
  else if c.toNat=92 then
   match t with
   | []=>.gap
   | e::r=>if Aw e then (note r d).on [c,e] 2 else .bad 1
  else if Aw c then (note t d).on [c] 1
  else .bad 0
def one:List UInt8->Int × Cut
 | []=>(0,.bad 0)
 | c::t =>
  if Al c then (0,.fine ((c::t).takeWhile Al) ((c::t).takeWhile Al).length)
  else if D9 c.toNat then (2,.fine [c] 1)
  else if Am (c::t) ≠ 0 then (4,.fine ((c::t).take (Am (c::t))) (Am (c::t)))
  else if c.toNat=34 then (1,(quo t).top)
  else if c.toNat=91 then (5,(lit t).top)
  else if c.toNat=40 then (3,(note t 1).top)
  else (0,.bad 0)
structure Tok where
 kind:Int
 text:List UInt8
 place:Nat
def all:Nat->Nat->List UInt8->Int × Nat × List Tok
 | 0,_,_=>(0,0,[])
 | f+1,a,l =>
  if l=[] then (0,0,[])
  else match one l with
   | (k,.fine x n)=>if (all f (a+n) (l.drop n)).1=0 then (0,0,⟨k,x,a⟩::(all f (a+n) (l.drop n)).2.2) else all f (a+n) (l.drop n)
   | (_,.bad i)=>(4,a+i,[])
   | (_,.deep i)=>(6,a+i,[])
   | (_,.gap)=>(4,a,[])
def Ee (l:List UInt8):Int × Nat × List Tok :=
 if 2000<l.length then (5,0,[])
 else if (Au l).2=-1 then all l.length 0 l
 else (7,(Au l).2.toNat,[])
def esc:List UInt8->List UInt8
 | []=>[]
 | c::t=>if c.toNat=34\/c.toNat=92 then 92::c::esc t else c::esc t
def Co (k:Int) (x:List UInt8):List UInt8 :=
 if k=3 then 40::(x ++ [41]) else if k=5 then 91::(x ++ [93]) else if k=1 then 34::(esc x ++ [34]) else x
def Fg (l:List UInt8):Bool:=!l.isEmpty && l.all Al
def I8:List UInt8->List (List UInt8)
 | []=>[[]]
 | c::t=>if c.toNat=46 then []::I8 t else match I8 t with
  | []=>[[c]]
  | h::r=>(c::h)::r
def Df (l:List UInt8):Bool:=(I8 l).all Fg
theorem Dl {p:UInt8->Bool} (h:∀ n,n<256->p (UInt8.ofNat n)=true) (c:UInt8):p c=true:=by
 have:=h c.toNat (UInt8.toNat_lt c);rwa [UInt8.ofNat_toNat] at this
theorem A2u:∀ n,n<256->(!Vq n || (Ai3 n && !D9 n && !E8 n && n != 13 && n != 34 && n != 91 && n != 40 && n != 46 && n != 41 && n != 92 && n != 93))=true:=by decide +kernel
theorem A1q:∀ n,n<256->(!D9 n || (Ai3 n && !Vq n && !E8 n && n != 13 && n != 34 && n != 91 && n != 40 && decide (n<128)))=true:=by decide +kernel
theorem On {c:UInt8} {t:List UInt8} (h:Bm c=true):Am (c::t)=Am t+1:=by
 rw [Am.eq_def];simp only [h,if_true]
theorem Q8 {c d e:UInt8} {r:List UInt8} (h0:Bm c=false) (h:c.toNat=13/\d.toNat=10/\Bm e=true):Am (c::d::e::r)=Am r+3:=by
 rw [Am.eq_def];simp only [h0,if_pos h,Bool.false_eq_true,if_false]
theorem Wl (l:List UInt8):(Am l=0)\/(∃ c t,l=c::t/\Bm c=true)\/(∃ c d e r,l=c::d::e::r/\Bm c=false/\c.toNat=13/\d.toNat=10/\Bm e=true):=by
 match l with
 | []=>exact .inl rfl
 | c::t =>
  cases hc:Bm c with
  | true=>exact .inr (.inl ⟨c,t,rfl,hc⟩)
  | false =>
   match t with
   | []=>left;rw [Am.eq_def];simp [hc]
   | [_]=>left;rw [Am.eq_def];simp [hc]
   | d::e::r =>
    by_cases h:c.toNat=13/\d.toNat=10/\Bm e=true
    ·exact .inr (.inr ⟨c,d,e,r,rfl,hc,h⟩)
    ·left;rw [Am.eq_def];simp only [hc,if_neg h,Bool.false_eq_true,if_false]
theorem Aey (n:Nat):∀ l r:List UInt8,l.length<=n->Am l<=l.length/\Am (l.take (Am l) ++ r)=Am l+Am r:=by
 induction n with
 | zero =>
  intro l r h;obtain rfl:l=[]:=List.eq_nil_of_length_eq_zero jO;exact ⟨jaa _,by show Am r=0+Am r;omega⟩
 | succ n ih =>
  intro l r h;rcases Wl l with h0 | ⟨c,t,rfl,hc⟩ | ⟨c,d,e,q,rfl,hc,hf⟩
  ·rw [h0];exact ⟨Nat.zero_le _,by simp⟩
  ·rw [jac] at h;obtain ⟨h1,h2⟩:=ih t r jO;rw [On hc,List.take_succ_cons,jah,On hc,h2,jac];omega
  ·simp only [jac] at h;obtain ⟨h1,h2⟩:=ih q r jO;rw [Q8 hc hf,List.take_succ_cons,List.take_succ_cons,List.take_succ_cons,jah,jah,jah,Q8 hc hf,h2];simp only [jac];omega
theorem Al5 (l:List UInt8):Am l<=l.length:=(Aey _ l [] (jaa _)).1
theorem Aez (l r:List UInt8):Am (l.take (Am l) ++ r)=Am l+Am r:=(Aey _ l r (jaa _)).2
theorem Aw4 (l:List UInt8):Am (l.drop (Am l))=0:=by
 have:=Aez l (l.drop (Am l));rw [List.take_append_drop] at this;omega
theorem Aa2 {c:UInt8} {t:List UInt8} (h:Am (c::t) ≠ 0):E8 c.toNat=true\/c.toNat=13:=by
 rcases Wl (c::t) with h0 | ⟨c',t',e,hc⟩ | ⟨c',d,e',q,e,hc,hf⟩
 · exact absurd h0 h
 · injection e with e1 e2;subst e1;exact .inl hc
 · injection e with e1 e2;subst e1;exact .inr hf.1
theorem Q9 {c:UInt8} {t:List UInt8} (h:E8 c.toNat=false) (h2:c.toNat ≠ 13):Am (c::t)=0:=by
 by_cases h0:Am (c::t)=0
 ·exact h0
 ·rcases Aa2 h0 with h3 | h3
  · rw [h] at h3;cases h3
  · exact absurd h3 h2
end Lex
end
section
open Utf
namespace Lex
theorem Gu {r:Cut} {y x:List UInt8} {k n:Nat} (h:r.on y k=.fine x n):∃ x' n',r=.fine x' n'/\x=y ++ x'/\n=n'+k:=by
 cases r with
 | fine x' n'=>injection h with h1 h2;exact ⟨x',n',rfl,h1.symm,h2.symm⟩
 | bad i=>cases h
 | gap=>cases h
 | deep i=>cases h
theorem Qy {r:Cut} {y:List UInt8} {k i:Nat} (h:r.on y k=.bad i):∃ i',r=.bad i'/\i=i'+k:=by
 cases r with
 | fine x' n'=>cases h
 | bad i'=>injection h with h1;exact ⟨i',rfl,h1.symm⟩
 | gap=>cases h
 | deep i=>cases h
theorem Mt {r:Cut} {y:List UInt8} {k i:Nat} (h:r.on y k=.deep i):∃ i',r=.deep i'/\i=i'+k:=by
 cases r with
 | fine x' n'=>cases h
 | bad i'=>cases h
 | gap=>cases h
 | deep i'=>injection h with h1;exact ⟨i',rfl,h1.symm⟩
theorem Pj (l:List UInt8):(l=[]/\quo l=.gap)\/(∃ c t,l=c::t/\c.toNat=34/\quo l=.fine [] 1)\/(∃ c,l=[c]/\c.toNat=92/\quo l=.gap) \/
  (∃ c d r,l=c::d::r/\c.toNat=92/\Aw d=true/\quo l=(quo r).on [d] 2)\/(∃ c d r,l=c::d::r/\c.toNat=92/\Aw d=false/\quo l=.bad 1) \/
  (∃ c t,l=c::t/\c.toNat ≠ 34/\c.toNat ≠ 92/\Aw c=true/\quo l=(quo t).on [c] 1)\/(∃ c t,l=c::t/\c.toNat ≠ 34/\c.toNat ≠ 92/\Aw c=false/\quo l=.bad 0):=by
 match l with
 | []=>exact .inl ⟨rfl,rfl⟩
 | c::t =>
  right;by_cases h34:c.toNat=34
  ·exact .inl ⟨c,t,rfl,h34,by rw [quo.eq_def];simp only [if_pos h34]⟩
  right;by_cases h92:c.toNat=92
  ·match t with
   | []=>exact .inl ⟨c,rfl,h92,by rw [quo.eq_def];simp only [if_neg h34,if_pos h92]⟩
   | d::r =>
    right;cases hd:Aw d with
    | true=>exact .inl ⟨c,d,r,rfl,h92,hd,by rw [quo.eq_def];simp only [if_neg h34,if_pos h92,hd,if_true]⟩
    | false=>exact .inr (.inl ⟨c,d,r,rfl,h92,hd,by rw [quo.eq_def];simp only [if_neg h34,if_pos h92,hd,Bool.false_eq_true,if_false]⟩)
  ·right;right;right;cases hc:Aw c with
   | true=>exact .inl ⟨c,t,rfl,h34,h92,hc,by rw [quo.eq_def];simp only [if_neg h34,if_neg h92,hc,if_true]⟩
   | false=>exact .inr ⟨c,t,rfl,h34,h92,hc,by rw [quo.eq_def];simp only [if_neg h34,if_neg h92,hc,Bool.false_eq_true,if_false]⟩
theorem Hu {c:UInt8} {n:Nat} (h:c.toNat=n):c=UInt8.ofNat n:=by rw [<- h,UInt8.ofNat_toNat]
theorem Afw {c:UInt8} {t:List UInt8} (h:c.toNat=34\/c.toNat=92):esc (c::t)=92::c::esc t:=by rw [esc,if_pos h]
theorem Uf {c:UInt8} {t:List UInt8} (h:¬ (c.toNat=34\/c.toNat=92)):esc (c::t)=c::esc t:=by rw [esc,if_neg h]
theorem Arb:∀ x:List UInt8,(esc x).length<=2*x.length
 | []=>jaa _
 | c::t=>by
  have ih:=Arb t;rw [esc];split<;>simp only [jac]<;>omega
theorem Ak2 (m:Nat):∀ (t x:List UInt8) (n:Nat),t.length<=m->quo t=.fine x n->0<n/\n<=t.length/\x.length+1<=n/\(esc x).length+1<=n/\(∀ b ∈ x,Aw b=true)/\∀ pre,ok (pre ++ t)->ok (pre ++ (esc x ++ 34::t.drop n)):=by
 induction m with
 | zero =>
  intro t x n ht h;obtain rfl:t=[]:=List.eq_nil_of_length_eq_zero jO;cases h
 | succ m ih =>
  intro t x n ht h;rcases Pj t with ⟨rfl,e⟩ | ⟨c,r,rfl,hc,e⟩ | ⟨c,rfl,hc,e⟩ | ⟨c,d,r,rfl,hc,hd,e⟩ | ⟨c,d,r,rfl,hc,hd,e⟩ | ⟨c,r,rfl,h1,h2,hc,e⟩ | ⟨c,r,rfl,h1,h2,hc,e⟩
  ·rw [e] at h;cases h
  ·rw [e] at h;injection h with h1 h2
   subst h1 h2;refine ⟨by omega,by simp,by simp,by simp [esc],λb hb=>(by cases hb),λpre hp=>?_⟩;rw [Hu hc] at hp;exact hp
  ·rw [e] at h;cases h
  ·rw [e] at h;obtain ⟨x',n',hr,rfl,rfl⟩:=Gu h;simp only [jac] at ht;obtain ⟨g1,g2,g3,g4,g5,g6⟩:=ih r x' n' jO hr;refine ⟨by omega,by simp only [jac];omega,by simp only [jab,jac,List.length_nil];omega,?_,?_,?_⟩
   ·show (esc (d::x')).length+1<=_;rw [esc];split<;>simp only [jac]<;>omega
   ·intro b hb;rcases jal.1 hb with rfl | hb
    ·exact hd
    ·exact g5 b hb
   ·intro pre hp;show ok (pre ++ (esc (d::x') ++ 34::(c::d::r).drop (n'+2)));rw [List.drop_succ_cons,List.drop_succ_cons];by_cases hs:d.toNat=34\/d.toNat=92
    ·rw [Afw hs];have:=g6 (pre ++ [92,d]) (by rw [Hu hc] at hp;simpa using hp);simpa using this
    ·rw [Uf hs];have h2:=A37 jO hp;have:=g6 (pre ++ [d]) (by simpa using h2);simpa using this
  ·rw [e] at h;cases h
  ·rw [e] at h;obtain ⟨x',n',hr,rfl,rfl⟩:=Gu h;simp only [jac] at ht;obtain ⟨g1,g2,g3,g4,g5,g6⟩:=ih r x' n' jO hr;have hs:¬ (c.toNat=34\/c.toNat=92):=jO
   refine ⟨by omega,by simp only [jac];omega,by simp only [jab,jac,List.length_nil];omega,?_,?_,?_⟩
   ·show (esc (c::x')).length+1<=_;rw [Uf hs];simp only [jac];omega
   ·intro b hb;rcases jal.1 hb with rfl | hb
    ·exact hc
    ·exact g5 b hb
   ·intro pre hp;show ok (pre ++ (esc (c::x') ++ 34::(c::r).drop (n'+1)));rw [List.drop_succ_cons,Uf hs];have:=g6 (pre ++ [c]) (by simpa using hp);simpa using this
  ·rw [e] at h;cases h
theorem A6g (r:List UInt8):quo (34::r)=.fine [] 1:=by rw [quo.eq_def];rfl
theorem A4f {d:UInt8} (hd:Aw d=true) (r:List UInt8):quo (92::d::r)=(quo r).on [d] 2:=by
 rw [quo.eq_def];simp only [show (92:UInt8).toNat=92 from rfl,hd,if_true];rfl
theorem A6i {c:UInt8} (h1:c.toNat ≠ 34) (h2:c.toNat ≠ 92) (hc:Aw c=true) (r:List UInt8):quo (c::r)=(quo r).on [c] 1:=by
 rw [quo.eq_def];simp only [if_neg h1,if_neg h2,hc,if_true]
theorem Z3:∀ (x r:List UInt8),(∀ b ∈ x,Aw b=true)->quo (esc x ++ 34::r)=.fine x ((esc x).length+1)
 | [],r,_=>A6g r
 | c::x,r,h=>by
  have hc:=h c jS;have ih:=Z3 x r (λb hb=>h b (by simp [hb]));by_cases hs:c.toNat=34\/c.toNat=92
  ·rw [Afw hs,jah,jah,A4f hc,ih];rfl
  ·rw [Uf hs,jah,A6i jO jO hc,ih];rfl
theorem Nx:∀ (t x:List UInt8) (n:Nat),lit t=.fine x n->0<n/\n<=t.length/\x ++ [93]=t.take n/\∀ r,lit (t.take n ++ r)=.fine x n
 | [],x,n,h=>by cases h
 | c::t,x,n,h=>by
  rw [lit] at h;by_cases h1:c.toNat=93
  ·rw [if_pos h1] at h;injection h with h2 h3
   subst h2 h3;refine ⟨by omega,by simp,by rw [Hu h1];rfl,λr=>?_⟩;show lit (c::r)=_;rw [lit,if_pos h1]
  ·rw [if_neg h1] at h;by_cases h2:Em c.toNat=true/\c.toNat ≠ 91/\c.toNat ≠ 92
   ·rw [if_pos h2] at h;obtain ⟨x',n',hr,rfl,rfl⟩:=Gu h;obtain ⟨g1,g2,g3,g4⟩:=Nx t x' n' hr;refine ⟨by omega,by simp only [jac];omega,by rw [List.take_succ_cons,<- g3];rfl,λr=>?_⟩;rw [List.take_succ_cons,jah,lit,if_neg h1,if_pos h2,g4 r];rfl
   ·rw [if_neg h2] at h;cases h
theorem Zi (l:List UInt8) (d:Nat):(l=[]/\note l d=.gap)\/(∃ c t,l=c::t/\c.toNat=40/\note l d=if 32<=d then .deep 0 else (note t (d+1)).on [c] 1) \/
  (∃ c t,l=c::t/\c.toNat=41/\note l d=if d<=1 then .fine [] 1 else (note t (d - 1)).on [c] 1)\/(∃ c,l=[c]/\c.toNat=92/\note l d=.gap) \/
  (∃ c e r,l=c::e::r/\c.toNat=92/\note l d=if Aw e then (note r d).on [c,e] 2 else .bad 1) \/
  (∃ c t,l=c::t/\c.toNat ≠ 40/\c.toNat ≠ 41/\c.toNat ≠ 92/\note l d=if Aw c then (note t d).on [c] 1 else .bad 0):=by
 match l with
 | []=>exact .inl ⟨rfl,by rw [note]⟩
 | c::t =>
  right;by_cases h40:c.toNat=40
  ·exact .inl ⟨c,t,rfl,h40,by rw [note.eq_def];simp only [if_pos h40]⟩
  right;by_cases h41:c.toNat=41
  ·exact .inl ⟨c,t,rfl,h41,by rw [note.eq_def];simp only [if_neg h40,if_pos h41]⟩
  right;by_cases h92:c.toNat=92
  ·match t with
   | []=>exact .inl ⟨c,rfl,h92,by rw [note.eq_def];simp only [if_neg h40,if_neg h41,if_pos h92]⟩
   | e::r=>exact .inr (.inl ⟨c,e,r,rfl,h92,by rw [note.eq_def];simp only [if_neg h40,if_neg h41,if_pos h92]⟩)
  ·exact .inr (.inr ⟨c,t,rfl,h40,h41,h92,by rw [note.eq_def];simp only [if_neg h40,if_neg h41,if_neg h92]⟩)
theorem Agc {c:UInt8} {t:List UInt8} {d:Nat} (h:c.toNat=40):note (c::t) d=if 32<=d then .deep 0 else (note t (d+1)).on [c] 1:=by rw [note.eq_def];simp only [if_pos h]
theorem Xf {c:UInt8} {t:List UInt8} {d:Nat} (h:c.toNat=41):note (c::t) d=if d<=1 then .fine [] 1 else (note t (d - 1)).on [c] 1:=by
 rw [note.eq_def];simp only [if_neg (show ¬ c.toNat=40 by omega),if_pos h]
theorem Arz {c e:UInt8} {t:List UInt8} {d:Nat} (h:c.toNat=92):note (c::e::t) d=if Aw e then (note t d).on [c,e] 2 else .bad 1:=by
 rw [note.eq_def];simp only [if_neg (show ¬ c.toNat=40 by omega),if_neg (show ¬ c.toNat=41 by omega),if_pos h]
theorem Ar0 {c:UInt8} {t:List UInt8} {d:Nat} (h0:c.toNat ≠ 40) (h1:c.toNat ≠ 41) (h2:c.toNat ≠ 92):note (c::t) d=if Aw c then (note t d).on [c] 1 else .bad 0:=by
 rw [note.eq_def];simp only [if_neg h0,if_neg h1,if_neg h2]
theorem Ady (m:Nat):∀ (t x:List UInt8) (n d:Nat),t.length<=m->note t d=.fine x n->0<n/\n<=t.length/\x ++ [41]=t.take n/\∀ r,note (t.take n ++ r) d=.fine x n:=by
 induction m with
 | zero =>
  intro t x n d ht h;obtain rfl:t=[]:=List.eq_nil_of_length_eq_zero jO;rw [note] at h;cases h
 | succ m ih =>
  intro t x n d ht h;rcases Zi t d with ⟨rfl,e⟩ | ⟨c,r,rfl,hc,e⟩ | ⟨c,r,rfl,hc,e⟩ | ⟨c,rfl,hc,e⟩ | ⟨c,b,r,rfl,hc,e⟩ | ⟨c,r,rfl,h0,h1,h2,e⟩
  ·rw [e] at h;cases h
  ·rw [e] at h;by_cases hd:32<=d
   ·rw [if_pos hd] at h;cases h
   ·rw [if_neg hd] at h;obtain ⟨x',n',hr,rfl,rfl⟩:=Gu h;simp only [jac] at ht;obtain ⟨g1,g2,g3,g4⟩:=ih r x' n' _ jO hr;refine ⟨by omega,by simp only [jac];omega,by rw [List.take_succ_cons,<- g3];rfl,λq=>?_⟩;rw [List.take_succ_cons,jah,Agc hc,if_neg hd,g4 q];rfl
  ·rw [e] at h;by_cases hd:d<=1
   ·rw [if_pos hd] at h;injection h with h2 h3
    subst h2 h3;refine ⟨by omega,by simp,by rw [Hu hc];rfl,λq=>?_⟩;show note (c::q) d=_;rw [Xf hc,if_pos hd]
   ·rw [if_neg hd] at h;obtain ⟨x',n',hr,rfl,rfl⟩:=Gu h;simp only [jac] at ht;obtain ⟨g1,g2,g3,g4⟩:=ih r x' n' _ jO hr;refine ⟨by omega,by simp only [jac];omega,by rw [List.take_succ_cons,<- g3];rfl,λq=>?_⟩;rw [List.take_succ_cons,jah,Xf hc,if_neg hd,g4 q];rfl
  ·rw [e] at h;cases h
  ·rw [e] at h;cases hb:Aw b with
   | false=>rw [hb] at h;cases h
   | true =>
    rw [hb] at h;obtain ⟨x',n',hr,rfl,rfl⟩:=Gu h;simp only [jac] at ht;obtain ⟨g1,g2,g3,g4⟩:=ih r x' n' _ jO hr;refine ⟨by omega,by simp only [jac];omega,by rw [List.take_succ_cons,List.take_succ_cons,<- g3];rfl,λq=>?_⟩;rw [List.take_succ_cons,List.take_succ_cons,jah,jah,Arz hc,hb,g4 q];rfl
  ·rw [e] at h;cases hb:Aw c with
   | false=>rw [hb] at h;cases h
   | true =>
    rw [hb] at h;obtain ⟨x',n',hr,rfl,rfl⟩:=Gu h;simp only [jac] at ht;obtain ⟨g1,g2,g3,g4⟩:=ih r x' n' _ jO hr;refine ⟨by omega,by simp only [jac];omega,by rw [List.take_succ_cons,<- g3];rfl,λq=>?_⟩;rw [List.take_succ_cons,jah,Ar0 h0 h1 h2,hb,g4 q];rfl
end Lex
end
section
open Utf
namespace Lex
theorem Fo (p:UInt8->Bool):∀ l:List UInt8,(l.takeWhile p).length<=l.length/\l.takeWhile p=l.take (l.takeWhile p).length/\(∀ b ∈ l.takeWhile p,p b=true)/\∀ c t,l.drop (l.takeWhile p).length=c::t->p c=false
 | []=>⟨jaa _,rfl,λb hb=>(by cases hb),λc t h=>(by cases h)⟩
 | x::l=>by
  obtain ⟨h1,h2,h3,h4⟩:=Fo p l;cases hx:p x with
  | true =>
   rw [List.takeWhile_cons,hx];simp only [if_true,jac,List.take_succ_cons,List.drop_succ_cons];refine ⟨by omega,congrArg _ h2,λb hb=>?_,h4⟩;rcases jal.1 hb with rfl | hb
   · exact hx
   · exact h3 b hb
  | false =>
   rw [List.takeWhile_cons,hx];simp only [Bool.false_eq_true,if_false];refine ⟨Nat.zero_le _,rfl,λb hb=>(by cases hb),λc t h=>?_⟩;injection h with e1 e2
   rw [<- e1];exact hx
theorem Pn (p:UInt8->Bool):∀ (x r:List UInt8),(∀ b ∈ x,p b=true)->(∀ c t,r=c::t->p c=false)->(x ++ r).takeWhile p=x
 | [],r,_,hr=>by
  cases r with
  | nil=>rfl
  | cons c t =>
   show (c::t).takeWhile p=[]
   rw [List.takeWhile_cons,hr c t rfl];rfl
 | b::x,r,hx,hr=>by
  rw [jah,List.takeWhile_cons,hx b jS,if_pos rfl,Pn p x r (λy hy=>hx y (by simp [hy])) hr]
theorem Ahw (c:UInt8):Al c=true->Aw c=true/\D9 c.toNat=false/\E8 c.toNat=false/\c.toNat ≠ 13/\c.toNat ≠ 34/\c.toNat ≠ 91/\c.toNat ≠ 40/\c.toNat ≠ 41/\c.toNat ≠ 92:=by
 intro h;have h2:=A2u c.toNat (Dq c);unfold Al at h;rw [h] at h2;simp only [Bool.not_true,Bool.false_or,jag,Bool.not_eq_true',bne_iff_ne,ne_eq] at h2;unfold Aw;obtain ⟨⟨⟨⟨⟨⟨⟨⟨⟨⟨g1,g2⟩,g3⟩,g4⟩,g5⟩,g6⟩,g7⟩,-⟩,g8⟩,g9⟩,-⟩:=h2;exact ⟨g1,g2,g3,g4,g5,g6,g7,g8,g9⟩
theorem All (c:UInt8):D9 c.toNat=true->Aw c=true/\Al c=false/\E8 c.toNat=false/\c.toNat ≠ 13/\c.toNat ≠ 34/\c.toNat ≠ 91/\c.toNat ≠ 40/\c.toNat<128:=by
 intro h;have h2:=A1q c.toNat (Dq c);rw [h] at h2;simp only [Bool.not_true,Bool.false_or,jag,Bool.not_eq_true',bne_iff_ne,ne_eq,decide_eq_true_eq] at h2;unfold Aw Al;obtain ⟨⟨⟨⟨⟨⟨⟨g1,g2⟩,g3⟩,g4⟩,g5⟩,g6⟩,g7⟩,g8⟩:=h2;exact ⟨g1,g2,g3,g4,g5,g6,g7,g8⟩
theorem Mw:(∀ n,n<256->(!(E8 n || n == 13 || n == 34 || n == 91 || n == 40) || (!Vq n && !D9 n))=true)/\E8 34=false/\E8 91=false/\E8 40=false/\E8 13=false:=by decide +kernel
theorem Sq {c:UInt8} (h:E8 c.toNat=true\/c.toNat=13\/c.toNat=34\/c.toNat=91\/c.toNat=40):Al c=false/\D9 c.toNat=false:=by
 have h2:=Mw.1 c.toNat (Dq c);have:(E8 c.toNat || c.toNat == 13 || c.toNat == 34 || c.toNat == 91 || c.toNat == 40)=true:=by
  rcases h with h | h | h | h | h<;>simp [h]
 rw [this] at h2;simp only [Bool.not_true,Bool.false_or,jag,Bool.not_eq_true'] at h2;exact h2
theorem Sl {c:UInt8} (t:List UInt8) (h:Al c=true):one (c::t)=(0,.fine ((c::t).takeWhile Al) ((c::t).takeWhile Al).length):=by rw [one,if_pos h]
theorem Jz {c:UInt8} (t:List UInt8) (h:D9 c.toNat=true):one (c::t)=(2,.fine [c] 1):=by rw [one,if_neg (by rw [(All c h).2.1];decide),if_pos h]
theorem Uz {c:UInt8} {t:List UInt8} (h:Am (c::t) ≠ 0):one (c::t)=(4,.fine ((c::t).take (Am (c::t))) (Am (c::t))):=by
 obtain ⟨h1,h2⟩:=Sq (c:=c) (by rcases Aa2 h with h | h;exact .inl h;exact .inr (.inl h));rw [one,if_neg (by rw [h1];decide),if_neg (by rw [h2];decide),if_pos h]
theorem Sm (c:UInt8) (t:List UInt8) (hc:c.toNat=34):one (c::t)=(1,(quo t).top):=by
 obtain ⟨h1,h2⟩:=Sq (c:=c) (.inr (.inr (.inl hc)));rw [one,if_neg (by rw [h1];decide),if_neg (by rw [h2];decide),if_neg (by rw [Q9 (by rw [hc];exact Mw.2.1) jO];decide),if_pos hc]
theorem Xi (c:UInt8) (t:List UInt8) (hc:c.toNat=91):one (c::t)=(5,(lit t).top):=by
 obtain ⟨h1,h2⟩:=Sq (c:=c) (.inr (.inr (.inr (.inl hc))));rw [one,if_neg (by rw [h1];decide),if_neg (by rw [h2];decide),if_neg (by rw [Q9 (by rw [hc];exact Mw.2.2.1) jO];decide),if_neg jO,if_pos hc]
theorem Zp (c:UInt8) (t:List UInt8) (hc:c.toNat=40):one (c::t)=(3,(note t 1).top):=by
 obtain ⟨h1,h2⟩:=Sq (c:=c) (.inr (.inr (.inr (.inr hc))));rw [one,if_neg (by rw [h1];decide),if_neg (by rw [h2];decide),if_neg (by rw [Q9 (by rw [hc];exact Mw.2.2.2.1) jO];decide),if_neg jO,if_neg jO,if_pos hc]
theorem Adz (c:UInt8) (t:List UInt8):(Al c=true)\/(D9 c.toNat=true)\/(Am (c::t) ≠ 0)\/c.toNat=34\/c.toNat=91\/c.toNat=40\/(one (c::t)=(0,.bad 0)):=by
 by_cases h1:Al c=true
 · exact .inl h1
 by_cases h2:D9 c.toNat=true
 · exact .inr (.inl h2)
 by_cases h3:Am (c::t) ≠ 0
 · exact .inr (.inr (.inl h3))
 by_cases h4:c.toNat=34
 · exact .inr (.inr (.inr (.inl h4)))
 by_cases h5:c.toNat=91
 · exact .inr (.inr (.inr (.inr (.inl h5))))
 by_cases h6:c.toNat=40
 · exact .inr (.inr (.inr (.inr (.inr (.inl h6)))))
 · exact .inr (.inr (.inr (.inr (.inr (.inr (by rw [one,if_neg h1,if_neg h2,if_neg h3,if_neg h4,if_neg h5,if_neg h6]))))))
theorem Tl {r:Cut} {x:List UInt8} {n:Nat} (h:r.top=.fine x n):∃ m,r=.fine x m/\n=m+1:=by
 cases r with
 | fine x' n'=>injection h with h1 h2;exact ⟨n',by rw [h1],h2.symm⟩
 | bad i=>cases h
 | gap=>cases h
 | deep i=>cases h
theorem Jy {l x:List UInt8} {k:Int} {n:Nat} (h:one l=(k,.fine x n)):0<n/\n<=l.length/\(Co k x).length<=n/\(k ≠ 1->Co k x=l.take n) /\
  (k=1->x.length+2<=n/\∀ pre,ok (pre ++ l)->ok (pre ++ (Co k x ++ l.drop n)))/\(∃ c t u,l=c::t/\Co k x=c::u/\(c.toNat=13->Am l ≠ 0)) /\
  ∀ r,(k=0->(∀ c t,l.drop n=c::t->Al c=false)->∀ c t,r=c::t->Al c=false)->(k=4->Am (l.drop n)=0->Am r=0)->one (Co k x ++ r)=(k,.fine x (Co k x).length):=by
 cases l with
 | nil=>exact absurd h (by rw [one];intro e;cases e)
 | cons c t =>
  rcases Adz c t with h1 | h1 | h1 | h1 | h1 | h1 | h1
  ·obtain ⟨w1,w2,w3,w4⟩:=Fo Al (c::t);have hne:(c::t).takeWhile Al=c::t.takeWhile Al:=by rw [List.takeWhile_cons,if_pos h1]
   rw [Sl t h1] at h;injection h with hk hx
   injection hx with hx hn
   subst hk hx hn;have hs:Co 0 ((c::t).takeWhile Al)=(c::t).takeWhile Al:=rfl;rw [hs];refine ⟨by rw [hne];simp,w1,jaa _,λ_=>w2,λe=>absurd e jD,⟨c,t,_,rfl,hne,λe=>absurd e (Ahw c h1).2.2.2.1⟩,λr hr _=>?_⟩;have hr':=hr rfl w4;have hw:=Pn Al _ r w3 hr';rw [hne,jah] at hw ⊢;rw [Sl _ h1,hw]
  ·rw [Jz t h1] at h;injection h with hk hx
   injection hx with hx hn
   subst hk hx hn;refine ⟨by omega,by simp,by simp [Co],λ_=>rfl,λe=>absurd e jD,⟨c,t,[],rfl,rfl,λe=>absurd e (All c h1).2.2.2.1⟩,λr _ _=>?_⟩;show one (c::r)=_;rw [Jz r h1];rfl
  ·have hwl:=Al5 (c::t);have hwa:=Aez (c::t);have hwe:=Aw4 (c::t);rw [Uz h1] at h;injection h with hk hx
   injection hx with hx hn
   obtain ⟨n,hn'⟩:∃ n,n=Am (c::t):=⟨_,rfl⟩
   rw [<- hn'] at hx hn hwl hwa hwe h1;subst hk hx hn;have hs:Co 4 ((c::t).take n)=(c::t).take n:=rfl;have hl:((c::t).take n).length=n:=by rw [jak];omega
   obtain ⟨n',rfl⟩:∃ n',n=n'+1:=⟨n - 1,by omega⟩
   rw [hs,hl];refine ⟨by omega,hwl,jaa _,λ_=>rfl,λe=>absurd e jD,⟨c,t,_,rfl,rfl,λ_=>by rw [<- hn'];exact h1⟩,λr _ hr=>?_⟩;have hwr:=hwa r;rw [hr rfl hwe,Nat.add_zero] at hwr;rw [List.take_succ_cons,jah] at hwr ⊢;rw [Uz (by rw [hwr];omega),hwr];rw [List.take_succ_cons,List.take_append_of_le_length (by rw [jak];simp only [jac] at hwl;omega),List.take_take,Nat.min_self]
  ·rw [Sm c t h1] at h;injection h with hk hx
   obtain ⟨m,hq,rfl⟩:=Tl hx;subst hk;obtain ⟨g1,g2,g3,g4,g5,g6⟩:=Ak2 _ t x m (jaa _) hq;have hs:Co 1 x=c::(esc x ++ [34]):=by rw [Hu h1];rfl
   rw [hs];refine ⟨by omega,by simp only [jac];omega,by simp only [jac,jab,List.length_nil];omega,λe=>absurd rfl e,λ_=>⟨by omega,λpre hp=>?_⟩,⟨c,t,_,rfl,rfl,λe=>by omega⟩,λr _ _=>?_⟩
   ·have:=g6 (pre ++ [c]) (by simpa using hp);simpa using this
   ·rw [jah,jaq,Sm c _ h1];show (1,(quo (esc x ++ 34::r)).top)=_;rw [Z3 x r g5];simp only [Cut.top,jac,jab,List.length_nil]
  ·rw [Xi c t h1] at h;injection h with hk hx
   obtain ⟨m,hq,rfl⟩:=Tl hx;subst hk;obtain ⟨g1,g2,g3,g4⟩:=Nx t x m hq;have hs:Co 5 x=c::t.take m:=by rw [Hu h1,<- g3];rfl
   have hl:(c::t.take m).length=m+1:=by rw [jac,jak];omega
   rw [hs,hl];refine ⟨by omega,by simp only [jac];omega,jaa _,λ_=>(List.take_succ_cons).symm,λe=>absurd e jD,⟨c,t,_,rfl,rfl,λe=>by omega⟩,λr _ _=>?_⟩;rw [jah,Xi c _ h1,g4 r];rfl
  ·rw [Zp c t h1] at h;injection h with hk hx
   obtain ⟨m,hq,rfl⟩:=Tl hx;subst hk;obtain ⟨g1,g2,g3,g4⟩:=Ady _ t x m 1 (jaa _) hq;have hs:Co 3 x=c::t.take m:=by rw [Hu h1,<- g3];rfl
   have hl:(c::t.take m).length=m+1:=by rw [jac,jak];omega
   rw [hs,hl];refine ⟨by omega,by simp only [jac];omega,jaa _,λ_=>(List.take_succ_cons).symm,λe=>absurd e jD,⟨c,t,_,rfl,rfl,λe=>by omega⟩,λr _ _=>?_⟩;rw [jah,Zp c _ h1,g4 r];rfl
  ·rw [h1] at h;injection h with hk hx
   cases hx
end Lex
end
section
open Utf
namespace Lex
inductive Cuts:Nat->List UInt8->List Tok->Prop
 | nil (a:Nat):Cuts a [] []
 | cons {a n:Nat} {l x:List UInt8} {k:Int} {ts:List Tok} (h:one l=(k,.fine x n)) (t:Cuts (a+n) (l.drop n) ts):Cuts a l (⟨k,x,a⟩::ts)
theorem Amn:∀ (f a:Nat) (l:List UInt8),l.length<=f->(all f a l).1=0->(all f a l).2.1=0/\Cuts a l (all f a l).2.2
 | 0,a,l,h,_=>by
  obtain rfl:l=[]:=List.eq_nil_of_length_eq_zero jO;exact ⟨rfl,.nil a⟩
 | f+1,a,l,h,h0=>by
  rw [all] at h0 ⊢;by_cases hl:l=[]
  ·rw [if_pos hl] at h0 ⊢;subst hl;exact ⟨rfl,.nil a⟩
  ·rw [if_neg hl] at h0 ⊢;obtain ⟨⟨k,r⟩,hk⟩:∃ q,q=one l:=⟨_,rfl⟩
   rw [<- hk] at h0 ⊢;cases r with
   | fine x n =>
    obtain ⟨g1,g2,-⟩:=Jy hk.symm;simp only at h0 ⊢;have ih:=Amn f (a+n) (l.drop n) (by rw [jaj];omega);by_cases hz:(all f (a+n) (l.drop n)).1=0
    ·rw [if_pos hz];exact ⟨rfl,.cons hk.symm (ih hz).2⟩
    ·rw [if_neg hz] at h0;exact absurd h0 hz
   | bad i=>exact absurd (show (4:Int)=0 from h0) jD
   | gap=>exact absurd (show (4:Int)=0 from h0) jD
   | deep i=>exact absurd (show (6:Int)=0 from h0) jD
theorem A5c:∀ {a:Nat} {l:List UInt8} {ts:List Tok},Cuts a l ts->∀ f,l.length<=f->all f a l=(0,0,ts):=by
 intro a l ts h;induction h with
 | nil a =>
  intro f _;cases f with
  | zero=>rfl
  | succ f=>rw [all,if_pos rfl]
 | @cons a n l x k ts h1 _ ih =>
  intro f hf;obtain ⟨g1,g2,-⟩:=Jy h1;cases f with
  | zero=>omega
  | succ f =>
   have h2:=ih f (by rw [jaj];omega);rw [all,if_neg (λe=>by rw [e] at g2;simp at g2;omega),h1];simp only;rw [h2];simp only;rfl
theorem all_none:∀ (f a:Nat) (l:List UInt8),(all f a l).1 ≠ 0->(all f a l).2.2=[]
 | 0,_,_,h=>absurd rfl h
 | f+1,a,l,h=>by
  rw [all] at h ⊢;by_cases hl:l=[]
  ·rw [if_pos hl] at h;exact absurd rfl h
  ·rw [if_neg hl] at h ⊢;obtain ⟨⟨k,r⟩,hk⟩:∃ q,q=one l:=⟨_,rfl⟩
   rw [<- hk] at h ⊢;cases r with
   | fine x n =>
    simp only at h ⊢;by_cases hz:(all f (a+n) (l.drop n)).1=0
    ·rw [if_pos hz] at h;exact absurd rfl h
    ·rw [if_neg hz] at h ⊢;exact all_none f _ _ h
   | bad i=>rfl
   | gap=>rfl
   | deep i=>rfl
theorem Ahs:∀ (f g a:Nat) (l:List UInt8),l.length<=f->l.length<=g->all f a l=all g a l
 | 0,g,a,l,h,_=>by
  obtain rfl:l=[]:=List.eq_nil_of_length_eq_zero jO;cases g with
  | zero=>rfl
  | succ g=>rw [all,all,if_pos rfl]
 | f+1,0,a,l,_,h=>by
  obtain rfl:l=[]:=List.eq_nil_of_length_eq_zero jO;rw [all,all,if_pos rfl]
 | f+1,g+1,a,l,h1,h2=>by
  rw [all,all];by_cases hl:l=[]
  ·rw [if_pos hl,if_pos hl]
  ·rw [if_neg hl,if_neg hl];obtain ⟨⟨k,r⟩,hk⟩:∃ q,q=one l:=⟨_,rfl⟩
   rw [<- hk];cases r with
   | fine x n =>
    obtain ⟨g1,g2,-⟩:=Jy hk.symm;simp only;rw [Ahs f g (a+n) (l.drop n) (by rw [jaj];omega) (by rw [jaj];omega)]
   | bad i=>rfl
   | gap=>rfl
   | deep i=>rfl
def outs:List Tok->List UInt8
 | []=>[]
 | k::ts=>Co k.kind k.text ++ outs ts
def Fi (k:Tok):Int × List UInt8:=(k.kind,k.text)
theorem Akn {a:Nat} {l:List UInt8} {ts:List Tok} (h:Cuts a l ts):(outs ts).length<=l.length/\ts.length<=l.length:=by
 induction h with
 | nil a=>exact ⟨jaa _,jaa _⟩
 | @cons a n l x k ts h1 h2 ih =>
  obtain ⟨g1,g2,g3,-⟩:=Jy h1;rw [jaj] at ih;show (Co k x ++ outs ts).length<=_/\_;rw [jab,jac];omega
theorem A4e (m:Nat):∀ (t:List UInt8) (i:Nat),t.length<=m->quo t=.bad i->i<t.length:=by
 induction m with
 | zero =>
  intro t i ht h;obtain rfl:t=[]:=List.eq_nil_of_length_eq_zero jO;cases h
 | succ m ih =>
  intro t i ht h;rcases Pj t with ⟨rfl,e⟩ | ⟨c,r,rfl,hc,e⟩ | ⟨c,rfl,hc,e⟩ | ⟨c,d,r,rfl,hc,hd,e⟩ | ⟨c,d,r,rfl,hc,hd,e⟩ | ⟨c,r,rfl,h1,h2,hc,e⟩ | ⟨c,r,rfl,h1,h2,hc,e⟩<;>rw [e] at h
  ·cases h
  ·cases h
  ·cases h
  ·obtain ⟨i',hr,rfl⟩:=Qy h;simp only [jac] at ht ⊢;have:=ih r i' jO hr;omega
  ·injection h with h;subst h;simp
  ·obtain ⟨i',hr,rfl⟩:=Qy h;simp only [jac] at ht ⊢;have:=ih r i' jO hr;omega
  ·injection h with h;subst h;simp
theorem A02 (m:Nat):∀ (t:List UInt8) (i:Nat),t.length<=m->quo t ≠ .deep i:=by
 induction m with
 | zero =>
  intro t i ht h;obtain rfl:t=[]:=List.eq_nil_of_length_eq_zero jO;cases h
 | succ m ih =>
  intro t i ht h;rcases Pj t with ⟨rfl,e⟩ | ⟨c,r,rfl,hc,e⟩ | ⟨c,rfl,hc,e⟩ | ⟨c,d,r,rfl,hc,hd,e⟩ | ⟨c,d,r,rfl,hc,hd,e⟩ | ⟨c,r,rfl,h1,h2,hc,e⟩ | ⟨c,r,rfl,h1,h2,hc,e⟩<;>rw [e] at h
  ·cases h
  ·cases h
  ·cases h
  ·obtain ⟨i',hr,rfl⟩:=Mt h;simp only [jac] at ht;exact ih r i' jO hr
  ·cases h
  ·obtain ⟨i',hr,rfl⟩:=Mt h;simp only [jac] at ht;exact ih r i' jO hr
  ·cases h
theorem Xb:∀ (t:List UInt8) (i:Nat),(lit t=.bad i->i<t.length)/\lit t ≠ .deep i
 | [],i=>⟨λh=>(by cases h),λh=>(by cases h)⟩
 | c::t,i=>by
  rw [lit];split
  ·exact ⟨λh=>(by cases h),λh=>(by cases h)⟩
  ·split
   ·refine ⟨λh=>?_,λh=>?_⟩
    ·obtain ⟨i',hr,rfl⟩:=Qy h;have:=(Xb t i').1 hr;simp only [jac];omega
    ·obtain ⟨i',hr,rfl⟩:=Mt h;exact (Xb t i').2 hr
   ·exact ⟨λh=>(by injection h with h;subst h;simp),λh=>(by cases h)⟩
theorem Akg (m:Nat):∀ (t:List UInt8) (i d:Nat),t.length<=m->note t d=.bad i\/note t d=.deep i->i<t.length:=by
 induction m with
 | zero =>
  intro t i d ht h;obtain rfl:t=[]:=List.eq_nil_of_length_eq_zero jO;rw [note] at h;rcases h with h | h<;>cases h
 | succ m ih =>
  intro t i d ht h;rcases Zi t d with ⟨rfl,e⟩ | ⟨c,r,rfl,hc,e⟩ | ⟨c,r,rfl,hc,e⟩ | ⟨c,rfl,hc,e⟩ | ⟨c,b,r,rfl,hc,e⟩ | ⟨c,r,rfl,h0,h1,h2,e⟩<;>rw [e] at h
  ·rcases h with h | h<;>cases h
  ·simp only [jac] at ht ⊢;split at h
   ·rcases h with h | h
    ·cases h
    ·injection h with h;omega
   ·rcases h with h | h
    ·obtain ⟨i',hr,rfl⟩:=Qy h;have:=ih r i' _ jO (.inl hr);omega
    ·obtain ⟨i',hr,rfl⟩:=Mt h;have:=ih r i' _ jO (.inr hr);omega
  ·simp only [jac] at ht ⊢;split at h
   ·rcases h with h | h<;>cases h
   ·rcases h with h | h
    ·obtain ⟨i',hr,rfl⟩:=Qy h;have:=ih r i' _ jO (.inl hr);omega
    ·obtain ⟨i',hr,rfl⟩:=Mt h;have:=ih r i' _ jO (.inr hr);omega
  ·rcases h with h | h<;>cases h
  ·simp only [jac] at ht ⊢;split at h
   ·rcases h with h | h
    ·obtain ⟨i',hr,rfl⟩:=Qy h;have:=ih r i' _ jO (.inl hr);omega
    ·obtain ⟨i',hr,rfl⟩:=Mt h;have:=ih r i' _ jO (.inr hr);omega
   ·rcases h with h | h
    ·injection h with h;omega
    ·cases h
  ·simp only [jac] at ht ⊢;split at h
   ·rcases h with h | h
    ·obtain ⟨i',hr,rfl⟩:=Qy h;have:=ih r i' _ jO (.inl hr);omega
    ·obtain ⟨i',hr,rfl⟩:=Mt h;have:=ih r i' _ jO (.inr hr);omega
   ·rcases h with h | h
    ·injection h with h;omega
    ·cases h
theorem Jd {r:Cut}:(∀ i,r.top=.bad i->i=0\/∃ j,r=.bad j/\i=j+1)/\(∀ i,r.top=.deep i->∃ j,r=.deep j/\i=j+1)/\r.top ≠ .gap:=by
 cases r with
 | fine x n=>exact ⟨λi h=>(by cases h),λi h=>(by cases h),λh=>(by cases h)⟩
 | bad j=>exact ⟨λi h=>(by injection h with h;exact .inr ⟨j,rfl,h.symm⟩),λi h=>(by cases h),λh=>(by cases h)⟩
 | gap=>exact ⟨λi h=>(by injection h with h;exact .inl h.symm),λi h=>(by cases h),λh=>(by cases h)⟩
 | deep j=>exact ⟨λi h=>(by cases h),λi h=>(by injection h with h;exact ⟨j,rfl,h.symm⟩),λh=>(by cases h)⟩
theorem A39 {l:List UInt8} (hl:l ≠ []):(∀ k i,one l=(k,.bad i)->i<l.length)/\(∀ k i,one l=(k,.deep i)->i<l.length)/\∀ k,one l ≠ (k,.gap):=by
 cases l with
 | nil=>exact absurd rfl hl
 | cons c t =>
  rcases Adz c t with h1 | h1 | h1 | h1 | h1 | h1 | h1
  ·rw [Sl t h1];exact ⟨λk i h=>(by cases h),λk i h=>(by cases h),λk h=>(by cases h)⟩
  ·rw [Jz t h1];exact ⟨λk i h=>(by cases h),λk i h=>(by cases h),λk h=>(by cases h)⟩
  ·rw [Uz h1];exact ⟨λk i h=>(by cases h),λk i h=>(by cases h),λk h=>(by cases h)⟩
  ·rw [Sm c t h1];refine ⟨λk i h=>?_,λk i h=>?_,λk h=>?_⟩<;>injection h with _ h
   ·rcases Jd.1 i h with rfl | ⟨j,hj,rfl⟩
    ·simp
    ·have:=A4e _ t j (jaa _) hj;simp only [jac];omega
   ·obtain ⟨j,hj,rfl⟩:=Jd.2.1 i h;exact absurd hj (A02 _ t j (jaa _))
   ·exact Jd.2.2 h
  ·rw [Xi c t h1];refine ⟨λk i h=>?_,λk i h=>?_,λk h=>?_⟩<;>injection h with _ h
   ·rcases Jd.1 i h with rfl | ⟨j,hj,rfl⟩
    ·simp
    ·have:=(Xb t j).1 hj;simp only [jac];omega
   ·obtain ⟨j,hj,rfl⟩:=Jd.2.1 i h;exact absurd hj (Xb t j).2
   ·exact Jd.2.2 h
  ·rw [Zp c t h1];refine ⟨λk i h=>?_,λk i h=>?_,λk h=>?_⟩<;>injection h with _ h
   ·rcases Jd.1 i h with rfl | ⟨j,hj,rfl⟩
    ·simp
    ·have:=Akg _ t j 1 (jaa _) (.inl hj);simp only [jac];omega
   ·obtain ⟨j,hj,rfl⟩:=Jd.2.1 i h;have:=Akg _ t j 1 (jaa _) (.inr hj);simp only [jac];omega
   ·exact Jd.2.2 h
  ·rw [h1];refine ⟨λk i h=>?_,λk i h=>(by cases h),λk h=>(by cases h)⟩;injection h with _ h
   injection h with h
   subst h;simp
theorem Aqt:∀ (f a:Nat) (l:List UInt8),(all f a l).1 ≠ 0->((all f a l).1=4\/(all f a l).1=6)/\(all f a l).2.1<a+l.length
 | 0,_,_,h=>absurd rfl h
 | f+1,a,l,h=>by
  rw [all] at h ⊢;by_cases hl:l=[]
  ·rw [if_pos hl] at h;exact absurd rfl h
  ·rw [if_neg hl] at h ⊢;obtain ⟨o1,o2,o3⟩:=A39 hl;obtain ⟨⟨k,r⟩,hk⟩:∃ q,q=one l:=⟨_,rfl⟩
   rw [<- hk] at h o1 o2 o3 ⊢;cases r with
   | fine x n =>
    obtain ⟨g1,g2,-⟩:=Jy hk.symm;simp only at h ⊢;by_cases hz:(all f (a+n) (l.drop n)).1=0
    ·rw [if_pos hz] at h;exact absurd rfl h
    ·rw [if_neg hz];have:=Aqt f _ _ hz;rw [jaj] at this;exact ⟨this.1,by omega⟩
   | bad i=>exact ⟨.inl rfl,by have:=o1 k i rfl;show a+i<_;omega⟩
   | gap=>exact absurd rfl (o3 k)
   | deep i=>exact ⟨.inr rfl,by have:=o2 k i rfl;show a+i<_;omega⟩
theorem Jg (s:List UInt8):(2000<s.length/\Ee s=(5,0,[]))\/(s.length<=2000/\∃ E p,Ee s=(E,p,[])/\(E=4\/E=6\/E=7)/\p<s.length)\/(s.length<=2000/\∃ ts,Ee s=(0,0,ts)/\Cuts 0 s ts/\ok s):=by
 unfold Ee;by_cases hl:2000<s.length
 ·exact .inl ⟨hl,by rw [if_pos hl]⟩
 rw [if_neg hl];right;by_cases hr:(Au s).2=-1
 ·rw [if_pos hr];by_cases h0:(all s.length 0 s).1=0
  ·obtain ⟨h1,h2⟩:=Amn s.length 0 s (jaa _) h0;exact .inr ⟨by omega,_,Prod.ext h0 (Prod.ext h1 rfl),h2,hr⟩
  ·have h1:=all_none _ _ _ h0;have h2:=Aqt _ _ _ h0;exact .inl ⟨by omega,(all s.length 0 s).1,(all s.length 0 s).2.1,Prod.ext rfl (Prod.ext rfl h1),by rcases h2.1 with h | h;exact .inl h;exact .inr (.inl h),by have:=h2.2;omega⟩
 ·rw [if_neg hr];obtain ⟨-,-,h3⟩:=Eu (s:=s) (m:=(Au s).1) (z:=(Au s).2) rfl;rcases h3 with ⟨h3,-⟩ | ⟨k,hk,h4,-⟩
  ·exact absurd h3 hr
  ·exact .inl ⟨by omega,7,k,by rw [hk];rfl,.inr (.inr rfl),h4⟩
def nth (ts:List Tok) (i:Nat):Tok:=ts.getD i ⟨0,[],0⟩
theorem A0i (k:Tok) (ts:List Tok) (i:Nat):nth (k::ts) (i+1)=nth ts i:=rfl
def wrap:Nat->List UInt8->List UInt8
 | 0,s=>s
 | n+1,s=>40::(wrap n s ++ [41])
end Lex
end
