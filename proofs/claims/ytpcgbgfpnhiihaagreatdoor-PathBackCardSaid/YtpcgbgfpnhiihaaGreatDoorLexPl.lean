import Derived.Test.YtpcgbgfpnhiihaaGreatDoorUtfB
namespace Go.Proofs.YtpcgbgfpnhiihaaGreatDoor
section
open Utf
namespace Lex
def ok (l:List UInt8):Prop:=(As l).2=-1
theorem Pd (l:List UInt8):ok l ↔ ∃ m:List Int,Af m=true/\l=Ah m:=by
 constructor
 ·intro h
  obtain ⟨h1,-,h3⟩:=Dw (s:=l) (m:=(As l).1) (z:=(As l).2) rfl
  obtain ⟨h4,h5⟩:=Ky _ h1
  rcases h3 with ⟨-,h3⟩ | ⟨k,hk,-⟩
  ·exact ⟨_,h4,by rw [h5,h3]⟩
  ·unfold ok at h
   omega
 ·rintro ⟨m,hm,rfl⟩
  unfold ok
  rw [Fv hm]
theorem It {a b:List UInt8} (ha:ok a) (hb:ok b):ok (a ++ b):=by
 obtain ⟨m,hm,rfl⟩:=(Pd a).1 ha
 obtain ⟨q,hq,rfl⟩:=(Pd b).1 hb
 refine (Pd _).2 ⟨m ++ q,?_,?_⟩
 ·unfold Af at hm hq ⊢
  rw [List.all_append,hm,hq]
  rfl
 ·unfold Ah
  exact List.flatMap_append.symm
theorem Hl {l:List UInt8} (h:∀ b ∈ l,b.toNat<128):ok l:=by
 unfold ok
 rw [Aru h]
theorem Wh {r:Nat} (h:128<=r) (hr:right r=true):∀ b ∈ enc r,128<=b.toNat:=by
 rw [Dh] at hr
 unfold enc
 rw [if_neg (by omega)]
 split
 ·intro b hb
  simp only [List.mem_cons,List.not_mem_nil,or_false] at hb
  rcases hb with rfl | rfl<;>rw [A9 (by omega)]<;>omega
 ·split
  ·intro b hb
   simp only [List.mem_cons,List.not_mem_nil,or_false] at hb
   rcases hb with rfl | rfl | rfl<;>rw [A9 (by omega)]<;>omega
  ·intro b hb
   simp only [List.mem_cons,List.not_mem_nil,or_false] at hb
   rcases hb with rfl | rfl | rfl | rfl<;>rw [A9 (by omega)]<;>omega
theorem Th {c:UInt8} (hc:c.toNat<128):∀ (m:List Int) (A B:List UInt8),Af m=true->Ah m=A ++ c::B->∃ p q:List Int,Af p=true/\Af q=true/\A=Ah p/\B=Ah q
 | [],A,B,_,h=>by
  have:=congrArg List.length h
  simp [Ah] at this
 | y::m,A,B,hm,h=>by
  have hy:Ak y=true/\Af m=true:=by
   unfold Af at hm ⊢
   rw [List.all_cons,Bool.and_eq_true] at hm
   exact hm
  have hyr:right y.toNat=true:=by
   have:=hy.1
   unfold Ak at this
   rw [Bool.and_eq_true] at this
   exact this.2
  have he:Ah (y::m)=enc y.toNat ++ Ah m:=by simp [Ah]
  rw [he,List.append_eq_append_iff] at h
  rcases h with ⟨A2,h1,h2⟩ | ⟨bs,h1,h2⟩
  ·obtain ⟨p,q,hp,hq,rfl,rfl⟩:=Th hc m A2 B hy.2 h2
   refine ⟨y::p,q,?_,hq,?_,rfl⟩
   ·unfold Af at hp ⊢
    rw [List.all_cons,hy.1,hp]
    rfl
   ·rw [h1]
    simp [Ah]
  ·cases bs with
   | nil =>
    rw [List.append_nil] at h1
    rw [List.nil_append] at h2
    obtain ⟨p,q,hp,hq,e,rfl⟩:=Th hc m [] B hy.2 h2.symm
    refine ⟨[y],q,?_,hq,?_,rfl⟩
    ·unfold Af
     rw [List.all_cons,hy.1]
     rfl
    ·rw [<- h1]
     simp [Ah]
   | cons d bs =>
    rw [List.cons_append] at h2
    injection h2 with h3 h4
    subst h3
    by_cases hb:y.toNat<128
    ·have e:enc y.toNat=[u y.toNat]:=by unfold enc;rw [if_pos hb]
     rw [e] at h1
     cases A with
     | nil =>
      rw [List.nil_append] at h1
      injection h1 with h5 h6
      subst h6
      exact ⟨[],m,rfl,hy.2,rfl,h4⟩
     | cons a A =>
      rw [List.cons_append] at h1
      injection h1 with h5 h6
      have:=congrArg List.length h6
      simp at this
    ·have:=Wh (by omega) hyr c (by rw [h1];simp)
     omega
theorem Mq {c:UInt8} (hc:c.toNat<128) {A B:List UInt8} (h:ok (A ++ c::B)):ok A/\ok B:=by
 obtain ⟨m,hm,e⟩:=(Pd _).1 h
 obtain ⟨p,q,hp,hq,rfl,rfl⟩:=Th hc m A B hm e.symm
 exact ⟨(Pd _).2 ⟨p,hp,rfl⟩,(Pd _).2 ⟨q,hq,rfl⟩⟩
theorem Awo {c:UInt8} (hc:c.toNat<128) {A B:List UInt8} (h:ok (A ++ c::B)):ok (A ++ B):=It (Mq hc h).1 (Mq hc h).2
end Lex
end
section
open Utf
namespace Lex
def Tu (n:Nat):Bool :=
 decide (128<=n) || (decide (97<=n) && decide (n<=122)) || (decide (65<=n) && decide (n<=90)) || (decide (48<=n) && decide (n<=57)) ||
  [33,35,36,37,38,39,42,43,45,47,61,63,94,95,96,123,124,125,126].contains n
def Gu (n:Nat):Bool:=(decide (33<=n) && decide (n<=126)) || decide (128<=n)
def Ep (n:Nat):Bool:=n == 32 || n == 9
def Ey (n:Nat):Bool:=n == 60 || n == 62 || n == 58 || n == 59 || n == 64 || n == 44 || n == 46
def J8 (n:Nat):Bool:=Ep n || Gu n
def Ao (c:UInt8):Bool:=Tu c.toNat
def Cb (c:UInt8):Bool:=Ep c.toNat
def Az (c:UInt8):Bool:=J8 c.toNat
def Ap:List UInt8->Nat
 | []=>0
 | c::t =>
  if Cb c then Ap t+1
  else match t with
   | d::e::r=>if c.toNat=13/\d.toNat=10/\Cb e=true then Ap r+3 else 0
   | _=>0
inductive Cut where
 | fine (x:List UInt8) (n:Nat)
 | bad (i:Nat)
 | gap
 | deep (i:Nat)
def Cut.on (x:List UInt8) (k:Nat):Cut->Cut
 | .fine y n=>.fine (x ++ y) (n+k)
 | .bad i=>.bad (i+k)
 | .gap=>.gap
 | .deep i=>.deep (i+k)
def Cut.top:Cut->Cut
 | .fine x n=>.fine x (n+1)
 | .bad i=>.bad (i+1)
 | .gap=>.bad 0
 | .deep i=>.deep (i+1)
def quo:List UInt8->Cut
 | []=>.gap
 | c::t =>
  if c.toNat=34 then .fine [] 1
  else if c.toNat=92 then
   match t with
   | []=>.gap
   | d::r=>if Az d then (quo r).on [d] 2 else .bad 1
  else if Az c then (quo t).on [c] 1
  else .bad 0
def lit:List UInt8->Cut
 | []=>.gap
 | c::t =>
  if c.toNat=93 then .fine [] 1
  else if Gu c.toNat=true/\c.toNat ≠ 91/\c.toNat ≠ 92 then (lit t).on [c] 1
  else .bad 0
def note:List UInt8->Nat->Cut
 | [],_=>.gap
 | c::t,d =>
  if c.toNat=40 then (if 32<=d then .deep 0 else (note t (d+1)).on [c] 1)
  else if c.toNat=41 then (if d<=1 then .fine [] 1 else (note t (d - 1)).on [c] 1)
  else if c.toNat=92 then
   match t with
   | []=>.gap
   | e::r=>if Az e then (note r d).on [c,e] 2 else .bad 1
  else if Az c then (note t d).on [c] 1
  else .bad 0
def one:List UInt8->Int × Cut
 | []=>(0,.bad 0)
 | c::t =>
  if Ao c then (0,.fine ((c::t).takeWhile Ao) ((c::t).takeWhile Ao).length)
  else if Ey c.toNat then (2,.fine [c] 1)
  else if Ap (c::t) ≠ 0 then (4,.fine ((c::t).take (Ap (c::t))) (Ap (c::t)))
  else if c.toNat=34 then (1,(quo t).top)
  else if c.toNat=91 then (5,(lit t).top)
  else if c.toNat=40 then (3,(note t 1).top)
  else (0,.bad 0)
structure Tok where
 kind:Int
 text:List UInt8
 place:Nat
def all:Nat->Nat->List UInt8->Int × Nat × List Tok
 | 0,_,_=>(0,0,[])
 | f+1,a,l =>
  if l=[] then (0,0,[])
  else match one l with
   | (k,.fine x n)=>if (all f (a+n) (l.drop n)).1=0 then (0,0,⟨k,x,a⟩::(all f (a+n) (l.drop n)).2.2) else all f (a+n) (l.drop n)
   | (_,.bad i)=>(4,a+i,[])
   | (_,.deep i)=>(6,a+i,[])
   | (_,.gap)=>(4,a,[])
def Em (l:List UInt8):Int × Nat × List Tok :=
 if 2000<l.length then (5,0,[])
 else if (As l).2=-1 then all l.length 0 l
 else (7,(As l).2.toNat,[])
def esc:List UInt8->List UInt8
 | []=>[]
 | c::t=>if c.toNat=34\/c.toNat=92 then 92::c::esc t else c::esc t
def C9 (k:Int) (x:List UInt8):List UInt8 :=
 if k=3 then 40::(x ++ [41]) else if k=5 then 91::(x ++ [93]) else if k=1 then 34::(esc x ++ [34]) else x
def Eb (l:List UInt8):Bool:=!l.isEmpty && l.all Ao
def Ds:List UInt8->List (List UInt8)
 | []=>[[]]
 | c::t=>if c.toNat=46 then []::Ds t else match Ds t with
  | []=>[[c]]
  | h::r=>(c::h)::r
def Dy (l:List UInt8):Bool:=(Ds l).all Eb
theorem Nq {p:UInt8->Bool} (h:∀ n,n<256->p (UInt8.ofNat n)=true) (c:UInt8):p c=true:=by
 have:=h c.toNat (UInt8.toNat_lt c)
 rwa [UInt8.ofNat_toNat] at this
theorem Avp:∀ n,n<256->(!Tu n || (J8 n && !Ey n && !Ep n && n != 13 && n != 34 && n != 91 && n != 40 && n != 46 && n != 41 && n != 92 && n != 93))=true:=by decide +kernel
theorem Auu:∀ n,n<256->(!Ey n || (J8 n && !Tu n && !Ep n && n != 13 && n != 34 && n != 91 && n != 40 && decide (n<128)))=true:=by decide +kernel
theorem Aai:J8 34=true/\J8 92=true/\J8 40=true/\J8 41=true:=by decide
theorem Nj {c:UInt8} {t:List UInt8} (h:Cb c=true):Ap (c::t)=Ap t+1:=by
 rw [Ap.eq_def]
 simp only [h,if_true]
theorem Pp {c d e:UInt8} {r:List UInt8} (h0:Cb c=false) (h:c.toNat=13/\d.toNat=10/\Cb e=true):Ap (c::d::e::r)=Ap r+3:=by
 rw [Ap.eq_def]
 simp only [h0,if_pos h,Bool.false_eq_true,if_false]
theorem Ur (l:List UInt8):(Ap l=0)\/(∃ c t,l=c::t/\Cb c=true)\/(∃ c d e r,l=c::d::e::r/\Cb c=false/\c.toNat=13/\d.toNat=10/\Cb e=true):=by
 match l with
 | []=>exact .inl rfl
 | c::t =>
  cases hc:Cb c with
  | true=>exact .inr (.inl ⟨c,t,rfl,hc⟩)
  | false =>
   match t with
   | []=>left;rw [Ap.eq_def];simp [hc]
   | [_]=>left;rw [Ap.eq_def];simp [hc]
   | d::e::r =>
    by_cases h:c.toNat=13/\d.toNat=10/\Cb e=true
    ·exact .inr (.inr ⟨c,d,e,r,rfl,hc,h⟩)
    ·left
     rw [Ap.eq_def]
     simp only [hc,if_neg h,Bool.false_eq_true,if_false]
theorem Abz (n:Nat):∀ l r:List UInt8,l.length<=n->Ap l<=l.length/\Ap (l.take (Ap l) ++ r)=Ap l+Ap r:=by
 induction n with
 | zero =>
  intro l r h
  obtain rfl:l=[]:=List.eq_nil_of_length_eq_zero (by omega)
  exact ⟨Nat.le_refl _,by show Ap r=0+Ap r;omega⟩
 | succ n ih =>
  intro l r h
  rcases Ur l with h0 | ⟨c,t,rfl,hc⟩ | ⟨c,d,e,q,rfl,hc,hf⟩
  ·rw [h0]
   exact ⟨Nat.zero_le _,by simp⟩
  ·rw [List.length_cons] at h
   obtain ⟨h1,h2⟩:=ih t r (by omega)
   rw [Nj hc,List.take_succ_cons,List.cons_append,Nj hc,h2,List.length_cons]
   omega
  ·simp only [List.length_cons] at h
   obtain ⟨h1,h2⟩:=ih q r (by omega)
   rw [Pp hc hf,List.take_succ_cons,List.take_succ_cons,List.take_succ_cons,List.cons_append,List.cons_append,List.cons_append,Pp hc hf,h2]
   simp only [List.length_cons]
   omega
theorem Ahz (l:List UInt8):Ap l<=l.length:=(Abz _ l [] (Nat.le_refl _)).1
theorem Ab0 (l r:List UInt8):Ap (l.take (Ap l) ++ r)=Ap l+Ap r:=(Abz _ l r (Nat.le_refl _)).2
theorem Aq6 (l:List UInt8):Ap (l.drop (Ap l))=0:=by
 have:=Ab0 l (l.drop (Ap l))
 rw [List.take_append_drop] at this
 omega
theorem Yr {c:UInt8} {t:List UInt8} (h:Ap (c::t) ≠ 0):Ep c.toNat=true\/c.toNat=13:=by
 rcases Ur (c::t) with h0 | ⟨c',t',e,hc⟩ | ⟨c',d,e',q,e,hc,hf⟩
 · exact absurd h0 h
 · injection e with e1 e2;subst e1;exact .inl hc
 · injection e with e1 e2;subst e1;exact .inr hf.1
theorem Pq {c:UInt8} {t:List UInt8} (h:Ep c.toNat=false) (h2:c.toNat ≠ 13):Ap (c::t)=0:=by
 by_cases h0:Ap (c::t)=0
 ·exact h0
 ·rcases Yr h0 with h3 | h3
  · rw [h] at h3;cases h3
  · exact absurd h3 h2
end Lex
end
section
open Utf
namespace Lex
theorem Jb {r:Cut} {y x:List UInt8} {k n:Nat} (h:r.on y k=.fine x n):∃ x' n',r=.fine x' n'/\x=y ++ x'/\n=n'+k:=by
 cases r with
 | fine x' n'=>injection h with h1 h2;exact ⟨x',n',rfl,h1.symm,h2.symm⟩
 | bad i=>cases h
 | gap=>cases h
 | deep i=>cases h
theorem Pe {r:Cut} {y:List UInt8} {k i:Nat} (h:r.on y k=.bad i):∃ i',r=.bad i'/\i=i'+k:=by
 cases r with
 | fine x' n'=>cases h
 | bad i'=>injection h with h1;exact ⟨i',rfl,h1.symm⟩
 | gap=>cases h
 | deep i=>cases h
theorem Lc {r:Cut} {y:List UInt8} {k i:Nat} (h:r.on y k=.deep i):∃ i',r=.deep i'/\i=i'+k:=by
 cases r with
 | fine x' n'=>cases h
 | bad i'=>cases h
 | gap=>cases h
 | deep i'=>injection h with h1;exact ⟨i',rfl,h1.symm⟩
theorem Tc (l:List UInt8):(l=[]/\quo l=.gap)\/(∃ c t,l=c::t/\c.toNat=34/\quo l=.fine [] 1)\/(∃ c,l=[c]/\c.toNat=92/\quo l=.gap) \/
  (∃ c d r,l=c::d::r/\c.toNat=92/\Az d=true/\quo l=(quo r).on [d] 2)\/(∃ c d r,l=c::d::r/\c.toNat=92/\Az d=false/\quo l=.bad 1) \/
  (∃ c t,l=c::t/\c.toNat ≠ 34/\c.toNat ≠ 92/\Az c=true/\quo l=(quo t).on [c] 1)\/(∃ c t,l=c::t/\c.toNat ≠ 34/\c.toNat ≠ 92/\Az c=false/\quo l=.bad 0):=by
 match l with
 | []=>exact .inl ⟨rfl,rfl⟩
 | c::t =>
  right
  by_cases h34:c.toNat=34
  ·exact .inl ⟨c,t,rfl,h34,by rw [quo.eq_def];simp only [if_pos h34]⟩
  right
  by_cases h92:c.toNat=92
  ·match t with
   | []=>exact .inl ⟨c,rfl,h92,by rw [quo.eq_def];simp only [if_neg h34,if_pos h92]⟩
   | d::r =>
    right
    cases hd:Az d with
    | true=>exact .inl ⟨c,d,r,rfl,h92,hd,by rw [quo.eq_def];simp only [if_neg h34,if_pos h92,hd,if_true]⟩
    | false=>exact .inr (.inl ⟨c,d,r,rfl,h92,hd,by rw [quo.eq_def];simp only [if_neg h34,if_pos h92,hd,Bool.false_eq_true,if_false]⟩)
  ·right;right;right
   cases hc:Az c with
   | true=>exact .inl ⟨c,t,rfl,h34,h92,hc,by rw [quo.eq_def];simp only [if_neg h34,if_neg h92,hc,if_true]⟩
   | false=>exact .inr ⟨c,t,rfl,h34,h92,hc,by rw [quo.eq_def];simp only [if_neg h34,if_neg h92,hc,Bool.false_eq_true,if_false]⟩
theorem Hv {c:UInt8} {n:Nat} (h:c.toNat=n):c=UInt8.ofNat n:=by rw [<- h,UInt8.ofNat_toNat]
theorem Acx {c:UInt8} {t:List UInt8} (h:c.toNat=34\/c.toNat=92):esc (c::t)=92::c::esc t:=by rw [esc,if_pos h]
theorem O0 {c:UInt8} {t:List UInt8} (h:¬ (c.toNat=34\/c.toNat=92)):esc (c::t)=c::esc t:=by rw [esc,if_neg h]
theorem Al7:∀ x:List UInt8,(esc x).length<=2*x.length
 | []=>Nat.le_refl _
 | c::t=>by
  have ih:=Al7 t
  rw [esc]
  split<;>simp only [List.length_cons]<;>omega
theorem Ag4 (m:Nat):∀ (t x:List UInt8) (n:Nat),t.length<=m->quo t=.fine x n->0<n/\n<=t.length/\x.length+1<=n/\(esc x).length+1<=n/\(∀ b ∈ x,Az b=true)/\∀ pre,ok (pre ++ t)->ok (pre ++ (esc x ++ 34::t.drop n)):=by
 induction m with
 | zero =>
  intro t x n ht h
  obtain rfl:t=[]:=List.eq_nil_of_length_eq_zero (by omega)
  cases h
 | succ m ih =>
  intro t x n ht h
  rcases Tc t with ⟨rfl,e⟩ | ⟨c,r,rfl,hc,e⟩ | ⟨c,rfl,hc,e⟩ | ⟨c,d,r,rfl,hc,hd,e⟩ | ⟨c,d,r,rfl,hc,hd,e⟩ | ⟨c,r,rfl,h1,h2,hc,e⟩ | ⟨c,r,rfl,h1,h2,hc,e⟩
  ·rw [e] at h;cases h
  ·rw [e] at h
   injection h with h1 h2
   subst h1 h2
   refine ⟨by omega,by simp,by simp,by simp [esc],λb hb=>(by cases hb),λpre hp=>?_⟩
   rw [Hv hc] at hp
   exact hp
  ·rw [e] at h;cases h
  ·rw [e] at h
   obtain ⟨x',n',hr,rfl,rfl⟩:=Jb h
   simp only [List.length_cons] at ht
   obtain ⟨g1,g2,g3,g4,g5,g6⟩:=ih r x' n' (by omega) hr
   refine ⟨by omega,by simp only [List.length_cons];omega,by simp only [List.length_append,List.length_cons,List.length_nil];omega,?_,?_,?_⟩
   ·show (esc (d::x')).length+1<=_
    rw [esc]
    split<;>simp only [List.length_cons]<;>omega
   ·intro b hb
    rcases List.mem_cons.1 hb with rfl | hb
    ·exact hd
    ·exact g5 b hb
   ·intro pre hp
    show ok (pre ++ (esc (d::x') ++ 34::(c::d::r).drop (n'+2)))
    rw [List.drop_succ_cons,List.drop_succ_cons]
    by_cases hs:d.toNat=34\/d.toNat=92
    ·rw [Acx hs]
     have:=g6 (pre ++ [92,d]) (by rw [Hv hc] at hp;simpa using hp)
     simpa using this
    ·rw [O0 hs]
     have h2:=Awo (by omega) hp
     have:=g6 (pre ++ [d]) (by simpa using h2)
     simpa using this
  ·rw [e] at h;cases h
  ·rw [e] at h
   obtain ⟨x',n',hr,rfl,rfl⟩:=Jb h
   simp only [List.length_cons] at ht
   obtain ⟨g1,g2,g3,g4,g5,g6⟩:=ih r x' n' (by omega) hr
   have hs:¬ (c.toNat=34\/c.toNat=92):=by omega
   refine ⟨by omega,by simp only [List.length_cons];omega,by simp only [List.length_append,List.length_cons,List.length_nil];omega,?_,?_,?_⟩
   ·show (esc (c::x')).length+1<=_
    rw [O0 hs]
    simp only [List.length_cons]
    omega
   ·intro b hb
    rcases List.mem_cons.1 hb with rfl | hb
    ·exact hc
    ·exact g5 b hb
   ·intro pre hp
    show ok (pre ++ (esc (c::x') ++ 34::(c::r).drop (n'+1)))
    rw [List.drop_succ_cons,O0 hs]
    have:=g6 (pre ++ [c]) (by simpa using hp)
    simpa using this
  ·rw [e] at h;cases h
theorem Ayk (r:List UInt8):quo (34::r)=.fine [] 1:=by rw [quo.eq_def];rfl
theorem Amr {d:UInt8} (hd:Az d=true) (r:List UInt8):quo (92::d::r)=(quo r).on [d] 2:=by
 rw [quo.eq_def]
 simp only [show (92:UInt8).toNat=92 from rfl,hd,if_true]
 rfl
theorem At6 {c:UInt8} (h1:c.toNat ≠ 34) (h2:c.toNat ≠ 92) (hc:Az c=true) (r:List UInt8):quo (c::r)=(quo r).on [c] 1:=by
 rw [quo.eq_def]
 simp only [if_neg h1,if_neg h2,hc,if_true]
theorem Rb:∀ (x r:List UInt8),(∀ b ∈ x,Az b=true)->quo (esc x ++ 34::r)=.fine x ((esc x).length+1)
 | [],r,_=>Ayk r
 | c::x,r,h=>by
  have hc:=h c (by simp)
  have ih:=Rb x r (λb hb=>h b (by simp [hb]))
  by_cases hs:c.toNat=34\/c.toNat=92
  ·rw [Acx hs,List.cons_append,List.cons_append,Amr hc,ih]
   rfl
  ·rw [O0 hs,List.cons_append,At6 (by omega) (by omega) hc,ih]
   rfl
theorem Ams:∀ (x r:List UInt8),(∃ b ∈ x,Az b=false)->∃ i,quo (esc x ++ 34::r)=.bad i
 | [],r,h=>by obtain ⟨b,hb,-⟩:=h;cases hb
 | c::x,r,h=>by
  cases hc:Az c with
  | false =>
   have h1:c.toNat ≠ 34:=λe=>by have h2:Az c=J8 34:=congrArg J8 e;rw [hc,Aai.1] at h2;cases h2
   have h2:c.toNat ≠ 92:=λe=>by have h2:Az c=J8 92:=congrArg J8 e;rw [hc,Aai.2.1] at h2;cases h2
   refine ⟨0,?_⟩
   rw [O0 (by omega),List.cons_append,quo.eq_def]
   simp only [if_neg h1,if_neg h2,hc,Bool.false_eq_true,if_false]
  | true =>
   obtain ⟨b,hb,hf⟩:=h
   have hb':b ∈ x:=by
    rcases List.mem_cons.1 hb with rfl | hb
    · rw [hc] at hf;cases hf
    · exact hb
   obtain ⟨i,hi⟩:=Ams x r ⟨b,hb',hf⟩
   by_cases hs:c.toNat=34\/c.toNat=92
   ·exact ⟨i+2,by rw [Acx hs,List.cons_append,List.cons_append,Amr hc,hi];rfl⟩
   ·exact ⟨i+1,by rw [O0 hs,List.cons_append,At6 (by omega) (by omega) hc,hi];rfl⟩
theorem Mn:∀ (t x:List UInt8) (n:Nat),lit t=.fine x n->0<n/\n<=t.length/\x ++ [93]=t.take n/\∀ r,lit (t.take n ++ r)=.fine x n
 | [],x,n,h=>by cases h
 | c::t,x,n,h=>by
  rw [lit] at h
  by_cases h1:c.toNat=93
  ·rw [if_pos h1] at h
   injection h with h2 h3
   subst h2 h3
   refine ⟨by omega,by simp,by rw [Hv h1];rfl,λr=>?_⟩
   show lit (c::r)=_
   rw [lit,if_pos h1]
  ·rw [if_neg h1] at h
   by_cases h2:Gu c.toNat=true/\c.toNat ≠ 91/\c.toNat ≠ 92
   ·rw [if_pos h2] at h
    obtain ⟨x',n',hr,rfl,rfl⟩:=Jb h
    obtain ⟨g1,g2,g3,g4⟩:=Mn t x' n' hr
    refine ⟨by omega,by simp only [List.length_cons];omega,by rw [List.take_succ_cons,<- g3];rfl,λr=>?_⟩
    rw [List.take_succ_cons,List.cons_append,lit,if_neg h1,if_pos h2,g4 r]
    rfl
   ·rw [if_neg h2] at h;cases h
theorem Xa (l:List UInt8) (d:Nat):(l=[]/\note l d=.gap)\/(∃ c t,l=c::t/\c.toNat=40/\note l d=if 32<=d then .deep 0 else (note t (d+1)).on [c] 1) \/
  (∃ c t,l=c::t/\c.toNat=41/\note l d=if d<=1 then .fine [] 1 else (note t (d - 1)).on [c] 1)\/(∃ c,l=[c]/\c.toNat=92/\note l d=.gap) \/
  (∃ c e r,l=c::e::r/\c.toNat=92/\note l d=if Az e then (note r d).on [c,e] 2 else .bad 1) \/
  (∃ c t,l=c::t/\c.toNat ≠ 40/\c.toNat ≠ 41/\c.toNat ≠ 92/\note l d=if Az c then (note t d).on [c] 1 else .bad 0):=by
 match l with
 | []=>exact .inl ⟨rfl,by rw [note]⟩
 | c::t =>
  right
  by_cases h40:c.toNat=40
  ·exact .inl ⟨c,t,rfl,h40,by rw [note.eq_def];simp only [if_pos h40]⟩
  right
  by_cases h41:c.toNat=41
  ·exact .inl ⟨c,t,rfl,h41,by rw [note.eq_def];simp only [if_neg h40,if_pos h41]⟩
  right
  by_cases h92:c.toNat=92
  ·match t with
   | []=>exact .inl ⟨c,rfl,h92,by rw [note.eq_def];simp only [if_neg h40,if_neg h41,if_pos h92]⟩
   | e::r=>exact .inr (.inl ⟨c,e,r,rfl,h92,by rw [note.eq_def];simp only [if_neg h40,if_neg h41,if_pos h92]⟩)
  ·exact .inr (.inr ⟨c,t,rfl,h40,h41,h92,by rw [note.eq_def];simp only [if_neg h40,if_neg h41,if_neg h92]⟩)
theorem Adf {c:UInt8} {t:List UInt8} {d:Nat} (h:c.toNat=40):note (c::t) d=if 32<=d then .deep 0 else (note t (d+1)).on [c] 1:=by rw [note.eq_def];simp only [if_pos h]
theorem Ve {c:UInt8} {t:List UInt8} {d:Nat} (h:c.toNat=41):note (c::t) d=if d<=1 then .fine [] 1 else (note t (d - 1)).on [c] 1:=by
 rw [note.eq_def];simp only [if_neg (show ¬ c.toNat=40 by omega),if_pos h]
theorem Amo {c e:UInt8} {t:List UInt8} {d:Nat} (h:c.toNat=92):note (c::e::t) d=if Az e then (note t d).on [c,e] 2 else .bad 1:=by
 rw [note.eq_def];simp only [if_neg (show ¬ c.toNat=40 by omega),if_neg (show ¬ c.toNat=41 by omega),if_pos h]
theorem Amp {c:UInt8} {t:List UInt8} {d:Nat} (h0:c.toNat ≠ 40) (h1:c.toNat ≠ 41) (h2:c.toNat ≠ 92):note (c::t) d=if Az c then (note t d).on [c] 1 else .bad 0:=by
 rw [note.eq_def];simp only [if_neg h0,if_neg h1,if_neg h2]
theorem Aa3 (m:Nat):∀ (t x:List UInt8) (n d:Nat),t.length<=m->note t d=.fine x n->0<n/\n<=t.length/\x ++ [41]=t.take n/\∀ r,note (t.take n ++ r) d=.fine x n:=by
 induction m with
 | zero =>
  intro t x n d ht h
  obtain rfl:t=[]:=List.eq_nil_of_length_eq_zero (by omega)
  rw [note] at h
  cases h
 | succ m ih =>
  intro t x n d ht h
  rcases Xa t d with ⟨rfl,e⟩ | ⟨c,r,rfl,hc,e⟩ | ⟨c,r,rfl,hc,e⟩ | ⟨c,rfl,hc,e⟩ | ⟨c,b,r,rfl,hc,e⟩ | ⟨c,r,rfl,h0,h1,h2,e⟩
  ·rw [e] at h;cases h
  ·rw [e] at h
   by_cases hd:32<=d
   ·rw [if_pos hd] at h;cases h
   ·rw [if_neg hd] at h
    obtain ⟨x',n',hr,rfl,rfl⟩:=Jb h
    simp only [List.length_cons] at ht
    obtain ⟨g1,g2,g3,g4⟩:=ih r x' n' _ (by omega) hr
    refine ⟨by omega,by simp only [List.length_cons];omega,by rw [List.take_succ_cons,<- g3];rfl,λq=>?_⟩
    rw [List.take_succ_cons,List.cons_append,Adf hc,if_neg hd,g4 q]
    rfl
  ·rw [e] at h
   by_cases hd:d<=1
   ·rw [if_pos hd] at h
    injection h with h2 h3
    subst h2 h3
    refine ⟨by omega,by simp,by rw [Hv hc];rfl,λq=>?_⟩
    show note (c::q) d=_
    rw [Ve hc,if_pos hd]
   ·rw [if_neg hd] at h
    obtain ⟨x',n',hr,rfl,rfl⟩:=Jb h
    simp only [List.length_cons] at ht
    obtain ⟨g1,g2,g3,g4⟩:=ih r x' n' _ (by omega) hr
    refine ⟨by omega,by simp only [List.length_cons];omega,by rw [List.take_succ_cons,<- g3];rfl,λq=>?_⟩
    rw [List.take_succ_cons,List.cons_append,Ve hc,if_neg hd,g4 q]
    rfl
  ·rw [e] at h;cases h
  ·rw [e] at h
   cases hb:Az b with
   | false=>rw [hb] at h;cases h
   | true =>
    rw [hb] at h
    obtain ⟨x',n',hr,rfl,rfl⟩:=Jb h
    simp only [List.length_cons] at ht
    obtain ⟨g1,g2,g3,g4⟩:=ih r x' n' _ (by omega) hr
    refine ⟨by omega,by simp only [List.length_cons];omega,by rw [List.take_succ_cons,List.take_succ_cons,<- g3];rfl,λq=>?_⟩
    rw [List.take_succ_cons,List.take_succ_cons,List.cons_append,List.cons_append,Amo hc,hb,g4 q]
    rfl
  ·rw [e] at h
   cases hb:Az c with
   | false=>rw [hb] at h;cases h
   | true =>
    rw [hb] at h
    obtain ⟨x',n',hr,rfl,rfl⟩:=Jb h
    simp only [List.length_cons] at ht
    obtain ⟨g1,g2,g3,g4⟩:=ih r x' n' _ (by omega) hr
    refine ⟨by omega,by simp only [List.length_cons];omega,by rw [List.take_succ_cons,<- g3];rfl,λq=>?_⟩
    rw [List.take_succ_cons,List.cons_append,Amp h0 h1 h2,hb,g4 q]
    rfl
end Lex
end
section
open Utf
namespace Lex
theorem E9 (p:UInt8->Bool):∀ l:List UInt8,(l.takeWhile p).length<=l.length/\l.takeWhile p=l.take (l.takeWhile p).length/\(∀ b ∈ l.takeWhile p,p b=true)/\∀ c t,l.drop (l.takeWhile p).length=c::t->p c=false
 | []=>⟨Nat.le_refl _,rfl,λb hb=>(by cases hb),λc t h=>(by cases h)⟩
 | x::l=>by
  obtain ⟨h1,h2,h3,h4⟩:=E9 p l
  cases hx:p x with
  | true =>
   rw [List.takeWhile_cons,hx]
   simp only [if_true,List.length_cons,List.take_succ_cons,List.drop_succ_cons]
   refine ⟨by omega,congrArg _ h2,λb hb=>?_,h4⟩
   rcases List.mem_cons.1 hb with rfl | hb
   · exact hx
   · exact h3 b hb
  | false =>
   rw [List.takeWhile_cons,hx]
   simp only [Bool.false_eq_true,if_false]
   refine ⟨Nat.zero_le _,rfl,λb hb=>(by cases hb),λc t h=>?_⟩
   injection h with e1 e2
   rw [<- e1]
   exact hx
theorem Kk (p:UInt8->Bool):∀ (x r:List UInt8),(∀ b ∈ x,p b=true)->(∀ c t,r=c::t->p c=false)->(x ++ r).takeWhile p=x
 | [],r,_,hr=>by
  cases r with
  | nil=>rfl
  | cons c t =>
   show (c::t).takeWhile p=[]
   rw [List.takeWhile_cons,hr c t rfl]
   rfl
 | b::x,r,hx,hr=>by
  rw [List.cons_append,List.takeWhile_cons,hx b (by simp),if_pos rfl,Kk p x r (λy hy=>hx y (by simp [hy])) hr]
theorem Arw (c:UInt8):Ao c=true->Az c=true/\Ey c.toNat=false/\Ep c.toNat=false/\c.toNat ≠ 13/\c.toNat ≠ 34/\c.toNat ≠ 91/\c.toNat ≠ 40/\c.toNat ≠ 41/\c.toNat ≠ 92:=by
 intro h
 have h2:=Avp c.toNat (C7 c)
 unfold Ao at h
 rw [h] at h2
 simp only [Bool.not_true,Bool.false_or,Bool.and_eq_true,Bool.not_eq_true',bne_iff_ne,ne_eq] at h2
 unfold Az
 obtain ⟨⟨⟨⟨⟨⟨⟨⟨⟨⟨g1,g2⟩,g3⟩,g4⟩,g5⟩,g6⟩,g7⟩,-⟩,g8⟩,g9⟩,-⟩:=h2
 exact ⟨g1,g2,g3,g4,g5,g6,g7,g8,g9⟩
theorem Ahl (c:UInt8):Ey c.toNat=true->Az c=true/\Ao c=false/\Ep c.toNat=false/\c.toNat ≠ 13/\c.toNat ≠ 34/\c.toNat ≠ 91/\c.toNat ≠ 40/\c.toNat<128:=by
 intro h
 have h2:=Auu c.toNat (C7 c)
 rw [h] at h2
 simp only [Bool.not_true,Bool.false_or,Bool.and_eq_true,Bool.not_eq_true',bne_iff_ne,ne_eq,decide_eq_true_eq] at h2
 unfold Az Ao
 obtain ⟨⟨⟨⟨⟨⟨⟨g1,g2⟩,g3⟩,g4⟩,g5⟩,g6⟩,g7⟩,g8⟩:=h2
 exact ⟨g1,g2,g3,g4,g5,g6,g7,g8⟩
theorem Le:(∀ n,n<256->(!(Ep n || n == 13 || n == 34 || n == 91 || n == 40) || (!Tu n && !Ey n))=true)/\Ep 34=false/\Ep 91=false/\Ep 40=false/\Ep 13=false:=by decide +kernel
theorem Q5 {c:UInt8} (h:Ep c.toNat=true\/c.toNat=13\/c.toNat=34\/c.toNat=91\/c.toNat=40):Ao c=false/\Ey c.toNat=false:=by
 have h2:=Le.1 c.toNat (C7 c)
 have:(Ep c.toNat || c.toNat == 13 || c.toNat == 34 || c.toNat == 91 || c.toNat == 40)=true:=by
  rcases h with h | h | h | h | h<;>simp [h]
 rw [this] at h2
 simp only [Bool.not_true,Bool.false_or,Bool.and_eq_true,Bool.not_eq_true'] at h2
 exact h2
theorem Mr {c:UInt8} (t:List UInt8) (h:Ao c=true):one (c::t)=(0,.fine ((c::t).takeWhile Ao) ((c::t).takeWhile Ao).length):=by rw [one,if_pos h]
theorem Ms {c:UInt8} (t:List UInt8) (h:Ey c.toNat=true):one (c::t)=(2,.fine [c] 1):=by rw [one,if_neg (by rw [(Ahl c h).2.1];decide),if_pos h]
theorem Sz {c:UInt8} {t:List UInt8} (h:Ap (c::t) ≠ 0):one (c::t)=(4,.fine ((c::t).take (Ap (c::t))) (Ap (c::t))):=by
 obtain ⟨h1,h2⟩:=Q5 (c:=c) (by rcases Yr h with h | h;exact .inl h;exact .inr (.inl h))
 rw [one,if_neg (by rw [h1];decide),if_neg (by rw [h2];decide),if_pos h]
theorem N6 (c:UInt8) (t:List UInt8) (hc:c.toNat=34):one (c::t)=(1,(quo t).top):=by
 obtain ⟨h1,h2⟩:=Q5 (c:=c) (.inr (.inr (.inl hc)))
 rw [one,if_neg (by rw [h1];decide),if_neg (by rw [h2];decide),if_neg (by rw [Pq (by rw [hc];exact Le.2.1) (by omega)];decide),if_pos hc]
theorem Vg (c:UInt8) (t:List UInt8) (hc:c.toNat=91):one (c::t)=(5,(lit t).top):=by
 obtain ⟨h1,h2⟩:=Q5 (c:=c) (.inr (.inr (.inr (.inl hc))))
 rw [one,if_neg (by rw [h1];decide),if_neg (by rw [h2];decide),if_neg (by rw [Pq (by rw [hc];exact Le.2.2.1) (by omega)];decide),if_neg (by omega),if_pos hc]
theorem Xg (c:UInt8) (t:List UInt8) (hc:c.toNat=40):one (c::t)=(3,(note t 1).top):=by
 obtain ⟨h1,h2⟩:=Q5 (c:=c) (.inr (.inr (.inr (.inr hc))))
 rw [one,if_neg (by rw [h1];decide),if_neg (by rw [h2];decide),if_neg (by rw [Pq (by rw [hc];exact Le.2.2.2.1) (by omega)];decide),if_neg (by omega),if_neg (by omega),if_pos hc]
theorem Aa4 (c:UInt8) (t:List UInt8):(Ao c=true)\/(Ey c.toNat=true)\/(Ap (c::t) ≠ 0)\/c.toNat=34\/c.toNat=91\/c.toNat=40\/(one (c::t)=(0,.bad 0)):=by
 by_cases h1:Ao c=true
 · exact .inl h1
 by_cases h2:Ey c.toNat=true
 · exact .inr (.inl h2)
 by_cases h3:Ap (c::t) ≠ 0
 · exact .inr (.inr (.inl h3))
 by_cases h4:c.toNat=34
 · exact .inr (.inr (.inr (.inl h4)))
 by_cases h5:c.toNat=91
 · exact .inr (.inr (.inr (.inr (.inl h5))))
 by_cases h6:c.toNat=40
 · exact .inr (.inr (.inr (.inr (.inr (.inl h6)))))
 · exact .inr (.inr (.inr (.inr (.inr (.inr (by rw [one,if_neg h1,if_neg h2,if_neg h3,if_neg h4,if_neg h5,if_neg h6]))))))
theorem Yl {r:Cut} {x:List UInt8} {n:Nat} (h:r.top=.fine x n):∃ m,r=.fine x m/\n=m+1:=by
 cases r with
 | fine x' n'=>injection h with h1 h2;exact ⟨n',by rw [h1],h2.symm⟩
 | bad i=>cases h
 | gap=>cases h
 | deep i=>cases h
theorem Iu {l x:List UInt8} {k:Int} {n:Nat} (h:one l=(k,.fine x n)):0<n/\n<=l.length/\(C9 k x).length<=n/\(k ≠ 1->C9 k x=l.take n) /\
  (k=1->x.length+2<=n/\∀ pre,ok (pre ++ l)->ok (pre ++ (C9 k x ++ l.drop n)))/\(∃ c t u,l=c::t/\C9 k x=c::u/\(c.toNat=13->Ap l ≠ 0)) /\
  ∀ r,(k=0->(∀ c t,l.drop n=c::t->Ao c=false)->∀ c t,r=c::t->Ao c=false)->(k=4->Ap (l.drop n)=0->Ap r=0)->one (C9 k x ++ r)=(k,.fine x (C9 k x).length):=by
 cases l with
 | nil=>exact absurd h (by rw [one];intro e;cases e)
 | cons c t =>
  rcases Aa4 c t with h1 | h1 | h1 | h1 | h1 | h1 | h1
  ·obtain ⟨w1,w2,w3,w4⟩:=E9 Ao (c::t)
   have hne:(c::t).takeWhile Ao=c::t.takeWhile Ao:=by rw [List.takeWhile_cons,if_pos h1]
   rw [Mr t h1] at h
   injection h with hk hx
   injection hx with hx hn
   subst hk hx hn
   have hs:C9 0 ((c::t).takeWhile Ao)=(c::t).takeWhile Ao:=rfl
   rw [hs]
   refine ⟨by rw [hne];simp,w1,Nat.le_refl _,λ_=>w2,λe=>absurd e (by decide),⟨c,t,_,rfl,hne,λe=>absurd e (Arw c h1).2.2.2.1⟩,λr hr _=>?_⟩
   have hr':=hr rfl w4
   have hw:=Kk Ao _ r w3 hr'
   rw [hne,List.cons_append] at hw ⊢
   rw [Mr _ h1,hw]
  ·rw [Ms t h1] at h
   injection h with hk hx
   injection hx with hx hn
   subst hk hx hn
   refine ⟨by omega,by simp,by simp [C9],λ_=>rfl,λe=>absurd e (by decide),⟨c,t,[],rfl,rfl,λe=>absurd e (Ahl c h1).2.2.2.1⟩,λr _ _=>?_⟩
   show one (c::r)=_
   rw [Ms r h1]
   rfl
  ·have hwl:=Ahz (c::t)
   have hwa:=Ab0 (c::t)
   have hwe:=Aq6 (c::t)
   rw [Sz h1] at h
   injection h with hk hx
   injection hx with hx hn
   obtain ⟨n,hn'⟩:∃ n,n=Ap (c::t):=⟨_,rfl⟩
   rw [<- hn'] at hx hn hwl hwa hwe h1
   subst hk hx hn
   have hs:C9 4 ((c::t).take n)=(c::t).take n:=rfl
   have hl:((c::t).take n).length=n:=by rw [List.length_take];omega
   obtain ⟨n',rfl⟩:∃ n',n=n'+1:=⟨n - 1,by omega⟩
   rw [hs,hl]
   refine ⟨by omega,hwl,Nat.le_refl _,λ_=>rfl,λe=>absurd e (by decide),⟨c,t,_,rfl,rfl,λ_=>by rw [<- hn'];exact h1⟩,λr _ hr=>?_⟩
   have hwr:=hwa r
   rw [hr rfl hwe,Nat.add_zero] at hwr
   rw [List.take_succ_cons,List.cons_append] at hwr ⊢
   rw [Sz (by rw [hwr];omega),hwr]
   rw [List.take_succ_cons,List.take_append_of_le_length (by rw [List.length_take];simp only [List.length_cons] at hwl;omega),List.take_take,Nat.min_self]
  ·rw [N6 c t h1] at h
   injection h with hk hx
   obtain ⟨m,hq,rfl⟩:=Yl hx
   subst hk
   obtain ⟨g1,g2,g3,g4,g5,g6⟩:=Ag4 _ t x m (Nat.le_refl _) hq
   have hs:C9 1 x=c::(esc x ++ [34]):=by rw [Hv h1];rfl
   rw [hs]
   refine ⟨by omega,by simp only [List.length_cons];omega,by simp only [List.length_cons,List.length_append,List.length_nil];omega,λe=>absurd rfl e,λ_=>⟨by omega,λpre hp=>?_⟩,⟨c,t,_,rfl,rfl,λe=>by omega⟩,λr _ _=>?_⟩
   ·have:=g6 (pre ++ [c]) (by simpa using hp)
    simpa using this
   ·rw [List.cons_append,List.append_assoc,N6 c _ h1]
    show (1,(quo (esc x ++ 34::r)).top)=_
    rw [Rb x r g5]
    simp only [Cut.top,List.length_cons,List.length_append,List.length_nil]
  ·rw [Vg c t h1] at h
   injection h with hk hx
   obtain ⟨m,hq,rfl⟩:=Yl hx
   subst hk
   obtain ⟨g1,g2,g3,g4⟩:=Mn t x m hq
   have hs:C9 5 x=c::t.take m:=by rw [Hv h1,<- g3];rfl
   have hl:(c::t.take m).length=m+1:=by rw [List.length_cons,List.length_take];omega
   rw [hs,hl]
   refine ⟨by omega,by simp only [List.length_cons];omega,Nat.le_refl _,λ_=>(List.take_succ_cons).symm,λe=>absurd e (by decide),⟨c,t,_,rfl,rfl,λe=>by omega⟩,λr _ _=>?_⟩
   rw [List.cons_append,Vg c _ h1,g4 r]
   rfl
  ·rw [Xg c t h1] at h
   injection h with hk hx
   obtain ⟨m,hq,rfl⟩:=Yl hx
   subst hk
   obtain ⟨g1,g2,g3,g4⟩:=Aa3 _ t x m 1 (Nat.le_refl _) hq
   have hs:C9 3 x=c::t.take m:=by rw [Hv h1,<- g3];rfl
   have hl:(c::t.take m).length=m+1:=by rw [List.length_cons,List.length_take];omega
   rw [hs,hl]
   refine ⟨by omega,by simp only [List.length_cons];omega,Nat.le_refl _,λ_=>(List.take_succ_cons).symm,λe=>absurd e (by decide),⟨c,t,_,rfl,rfl,λe=>by omega⟩,λr _ _=>?_⟩
   rw [List.cons_append,Xg c _ h1,g4 r]
   rfl
  ·rw [h1] at h
   injection h with hk hx
   cases hx
end Lex
end
section
open Utf
namespace Lex
inductive Cuts:Nat->List UInt8->List Tok->Prop
 | nil (a:Nat):Cuts a [] []
 | cons {a n:Nat} {l x:List UInt8} {k:Int} {ts:List Tok} (h:one l=(k,.fine x n)) (t:Cuts (a+n) (l.drop n) ts):Cuts a l (⟨k,x,a⟩::ts)
theorem Awq:one []=(0,.bad 0):=rfl
theorem Aic:∀ (f a:Nat) (l:List UInt8),l.length<=f->(all f a l).1=0->(all f a l).2.1=0/\Cuts a l (all f a l).2.2
 | 0,a,l,h,_=>by
  obtain rfl:l=[]:=List.eq_nil_of_length_eq_zero (by omega)
  exact ⟨rfl,.nil a⟩
 | f+1,a,l,h,h0=>by
  rw [all] at h0 ⊢
  by_cases hl:l=[]
  ·rw [if_pos hl] at h0 ⊢
   subst hl
   exact ⟨rfl,.nil a⟩
  ·rw [if_neg hl] at h0 ⊢
   obtain ⟨⟨k,r⟩,hk⟩:∃ q,q=one l:=⟨_,rfl⟩
   rw [<- hk] at h0 ⊢
   cases r with
   | fine x n =>
    obtain ⟨g1,g2,-⟩:=Iu hk.symm
    simp only at h0 ⊢
    have ih:=Aic f (a+n) (l.drop n) (by rw [List.length_drop];omega)
    by_cases hz:(all f (a+n) (l.drop n)).1=0
    ·rw [if_pos hz]
     exact ⟨rfl,.cons hk.symm (ih hz).2⟩
    ·rw [if_neg hz] at h0
     exact absurd h0 hz
   | bad i=>exact absurd (show (4:Int)=0 from h0) (by decide)
   | gap=>exact absurd (show (4:Int)=0 from h0) (by decide)
   | deep i=>exact absurd (show (6:Int)=0 from h0) (by decide)
theorem Axv:∀ {a:Nat} {l:List UInt8} {ts:List Tok},Cuts a l ts->∀ f,l.length<=f->all f a l=(0,0,ts):=by
 intro a l ts h
 induction h with
 | nil a =>
  intro f _
  cases f with
  | zero=>rfl
  | succ f=>rw [all,if_pos rfl]
 | @cons a n l x k ts h1 _ ih =>
  intro f hf
  obtain ⟨g1,g2,-⟩:=Iu h1
  cases f with
  | zero=>omega
  | succ f =>
   have h2:=ih f (by rw [List.length_drop];omega)
   rw [all,if_neg (λe=>by rw [e] at g2;simp at g2;omega),h1]
   simp only
   rw [h2]
   simp only
   rfl
theorem all_none:∀ (f a:Nat) (l:List UInt8),(all f a l).1 ≠ 0->(all f a l).2.2=[]
 | 0,_,_,h=>absurd rfl h
 | f+1,a,l,h=>by
  rw [all] at h ⊢
  by_cases hl:l=[]
  ·rw [if_pos hl] at h;exact absurd rfl h
  ·rw [if_neg hl] at h ⊢
   obtain ⟨⟨k,r⟩,hk⟩:∃ q,q=one l:=⟨_,rfl⟩
   rw [<- hk] at h ⊢
   cases r with
   | fine x n =>
    simp only at h ⊢
    by_cases hz:(all f (a+n) (l.drop n)).1=0
    ·rw [if_pos hz] at h;exact absurd rfl h
    ·rw [if_neg hz] at h ⊢
     exact all_none f _ _ h
   | bad i=>rfl
   | gap=>rfl
   | deep i=>rfl
theorem Aeg:∀ (f g a:Nat) (l:List UInt8),l.length<=f->l.length<=g->all f a l=all g a l
 | 0,g,a,l,h,_=>by
  obtain rfl:l=[]:=List.eq_nil_of_length_eq_zero (by omega)
  cases g with
  | zero=>rfl
  | succ g=>rw [all,all,if_pos rfl]
 | f+1,0,a,l,_,h=>by
  obtain rfl:l=[]:=List.eq_nil_of_length_eq_zero (by omega)
  rw [all,all,if_pos rfl]
 | f+1,g+1,a,l,h1,h2=>by
  rw [all,all]
  by_cases hl:l=[]
  ·rw [if_pos hl,if_pos hl]
  ·rw [if_neg hl,if_neg hl]
   obtain ⟨⟨k,r⟩,hk⟩:∃ q,q=one l:=⟨_,rfl⟩
   rw [<- hk]
   cases r with
   | fine x n =>
    obtain ⟨g1,g2,-⟩:=Iu hk.symm
    simp only
    rw [Aeg f g (a+n) (l.drop n) (by rw [List.length_drop];omega) (by rw [List.length_drop];omega)]
   | bad i=>rfl
   | gap=>rfl
   | deep i=>rfl
def outs:List Tok->List UInt8
 | []=>[]
 | k::ts=>C9 k.kind k.text ++ outs ts
def Dx (k:Tok):Int × List UInt8:=(k.kind,k.text)
theorem Xi {a:Nat} {l:List UInt8} {ts:List Tok} (h:Cuts a l ts):(outs ts).length<=l.length/\ts.length<=l.length:=by
 induction h with
 | nil a=>exact ⟨Nat.le_refl _,Nat.le_refl _⟩
 | @cons a n l x k ts h1 h2 ih =>
  obtain ⟨g1,g2,g3,-⟩:=Iu h1
  rw [List.length_drop] at ih
  show (C9 k x ++ outs ts).length<=_/\_
  rw [List.length_append,List.length_cons]
  omega
theorem Akf {a:Nat} {l:List UInt8} {ts:List Tok} (h:Cuts a l ts):(∀ k ∈ ts,k.kind ≠ 1)->outs ts=l:=by
 induction h with
 | nil a=>exact λ_=>rfl
 | @cons a n l x k ts h1 h2 ih =>
  intro hq
  obtain ⟨-,-,-,g,-⟩:=Iu h1
  show C9 k x ++ outs ts=l
  rw [g (hq ⟨k,x,a⟩ (by simp)),ih (λk hk=>hq k (by simp [hk])),List.take_append_drop]
theorem Aw0 (m:Nat):∀ (t:List UInt8) (i:Nat),t.length<=m->quo t=.bad i->i<t.length:=by
 induction m with
 | zero =>
  intro t i ht h
  obtain rfl:t=[]:=List.eq_nil_of_length_eq_zero (by omega)
  cases h
 | succ m ih =>
  intro t i ht h
  rcases Tc t with ⟨rfl,e⟩ | ⟨c,r,rfl,hc,e⟩ | ⟨c,rfl,hc,e⟩ | ⟨c,d,r,rfl,hc,hd,e⟩ | ⟨c,d,r,rfl,hc,hd,e⟩ | ⟨c,r,rfl,h1,h2,hc,e⟩ | ⟨c,r,rfl,h1,h2,hc,e⟩<;>rw [e] at h
  ·cases h
  ·cases h
  ·cases h
  ·obtain ⟨i',hr,rfl⟩:=Pe h
   simp only [List.length_cons] at ht ⊢
   have:=ih r i' (by omega) hr
   omega
  ·injection h with h;subst h;simp
  ·obtain ⟨i',hr,rfl⟩:=Pe h
   simp only [List.length_cons] at ht ⊢
   have:=ih r i' (by omega) hr
   omega
  ·injection h with h;subst h;simp
theorem At5 (m:Nat):∀ (t:List UInt8) (i:Nat),t.length<=m->quo t ≠ .deep i:=by
 induction m with
 | zero =>
  intro t i ht h
  obtain rfl:t=[]:=List.eq_nil_of_length_eq_zero (by omega)
  cases h
 | succ m ih =>
  intro t i ht h
  rcases Tc t with ⟨rfl,e⟩ | ⟨c,r,rfl,hc,e⟩ | ⟨c,rfl,hc,e⟩ | ⟨c,d,r,rfl,hc,hd,e⟩ | ⟨c,d,r,rfl,hc,hd,e⟩ | ⟨c,r,rfl,h1,h2,hc,e⟩ | ⟨c,r,rfl,h1,h2,hc,e⟩<;>rw [e] at h
  ·cases h
  ·cases h
  ·cases h
  ·obtain ⟨i',hr,rfl⟩:=Lc h
   simp only [List.length_cons] at ht
   exact ih r i' (by omega) hr
  ·cases h
  ·obtain ⟨i',hr,rfl⟩:=Lc h
   simp only [List.length_cons] at ht
   exact ih r i' (by omega) hr
  ·cases h
theorem Vb:∀ (t:List UInt8) (i:Nat),(lit t=.bad i->i<t.length)/\lit t ≠ .deep i
 | [],i=>⟨λh=>(by cases h),λh=>(by cases h)⟩
 | c::t,i=>by
  rw [lit]
  split
  ·exact ⟨λh=>(by cases h),λh=>(by cases h)⟩
  ·split
   ·refine ⟨λh=>?_,λh=>?_⟩
    ·obtain ⟨i',hr,rfl⟩:=Pe h
     have:=(Vb t i').1 hr
     simp only [List.length_cons]
     omega
    ·obtain ⟨i',hr,rfl⟩:=Lc h
     exact (Vb t i').2 hr
   ·exact ⟨λh=>(by injection h with h;subst h;simp),λh=>(by cases h)⟩
theorem Agl (m:Nat):∀ (t:List UInt8) (i d:Nat),t.length<=m->note t d=.bad i\/note t d=.deep i->i<t.length:=by
 induction m with
 | zero =>
  intro t i d ht h
  obtain rfl:t=[]:=List.eq_nil_of_length_eq_zero (by omega)
  rw [note] at h
  rcases h with h | h<;>cases h
 | succ m ih =>
  intro t i d ht h
  rcases Xa t d with ⟨rfl,e⟩ | ⟨c,r,rfl,hc,e⟩ | ⟨c,r,rfl,hc,e⟩ | ⟨c,rfl,hc,e⟩ | ⟨c,b,r,rfl,hc,e⟩ | ⟨c,r,rfl,h0,h1,h2,e⟩<;>rw [e] at h
  ·rcases h with h | h<;>cases h
  ·simp only [List.length_cons] at ht ⊢
   split at h
   ·rcases h with h | h
    ·cases h
    ·injection h with h;omega
   ·rcases h with h | h
    ·obtain ⟨i',hr,rfl⟩:=Pe h
     have:=ih r i' _ (by omega) (.inl hr)
     omega
    ·obtain ⟨i',hr,rfl⟩:=Lc h
     have:=ih r i' _ (by omega) (.inr hr)
     omega
  ·simp only [List.length_cons] at ht ⊢
   split at h
   ·rcases h with h | h<;>cases h
   ·rcases h with h | h
    ·obtain ⟨i',hr,rfl⟩:=Pe h
     have:=ih r i' _ (by omega) (.inl hr)
     omega
    ·obtain ⟨i',hr,rfl⟩:=Lc h
     have:=ih r i' _ (by omega) (.inr hr)
     omega
  ·rcases h with h | h<;>cases h
  ·simp only [List.length_cons] at ht ⊢
   split at h
   ·rcases h with h | h
    ·obtain ⟨i',hr,rfl⟩:=Pe h
     have:=ih r i' _ (by omega) (.inl hr)
     omega
    ·obtain ⟨i',hr,rfl⟩:=Lc h
     have:=ih r i' _ (by omega) (.inr hr)
     omega
   ·rcases h with h | h
    ·injection h with h;omega
    ·cases h
  ·simp only [List.length_cons] at ht ⊢
   split at h
   ·rcases h with h | h
    ·obtain ⟨i',hr,rfl⟩:=Pe h
     have:=ih r i' _ (by omega) (.inl hr)
     omega
    ·obtain ⟨i',hr,rfl⟩:=Lc h
     have:=ih r i' _ (by omega) (.inr hr)
     omega
   ·rcases h with h | h
    ·injection h with h;omega
    ·cases h
theorem Hz {r:Cut}:(∀ i,r.top=.bad i->i=0\/∃ j,r=.bad j/\i=j+1)/\(∀ i,r.top=.deep i->∃ j,r=.deep j/\i=j+1)/\r.top ≠ .gap:=by
 cases r with
 | fine x n=>exact ⟨λi h=>(by cases h),λi h=>(by cases h),λh=>(by cases h)⟩
 | bad j=>exact ⟨λi h=>(by injection h with h;exact .inr ⟨j,rfl,h.symm⟩),λi h=>(by cases h),λh=>(by cases h)⟩
 | gap=>exact ⟨λi h=>(by injection h with h;exact .inl h.symm),λi h=>(by cases h),λh=>(by cases h)⟩
 | deep j=>exact ⟨λi h=>(by cases h),λi h=>(by injection h with h;exact ⟨j,rfl,h.symm⟩),λh=>(by cases h)⟩
theorem Awr {l:List UInt8} (hl:l ≠ []):(∀ k i,one l=(k,.bad i)->i<l.length)/\(∀ k i,one l=(k,.deep i)->i<l.length)/\∀ k,one l ≠ (k,.gap):=by
 cases l with
 | nil=>exact absurd rfl hl
 | cons c t =>
  rcases Aa4 c t with h1 | h1 | h1 | h1 | h1 | h1 | h1
  ·rw [Mr t h1];exact ⟨λk i h=>(by cases h),λk i h=>(by cases h),λk h=>(by cases h)⟩
  ·rw [Ms t h1];exact ⟨λk i h=>(by cases h),λk i h=>(by cases h),λk h=>(by cases h)⟩
  ·rw [Sz h1];exact ⟨λk i h=>(by cases h),λk i h=>(by cases h),λk h=>(by cases h)⟩
  ·rw [N6 c t h1]
   refine ⟨λk i h=>?_,λk i h=>?_,λk h=>?_⟩<;>injection h with _ h
   ·rcases Hz.1 i h with rfl | ⟨j,hj,rfl⟩
    ·simp
    ·have:=Aw0 _ t j (Nat.le_refl _) hj
     simp only [List.length_cons];omega
   ·obtain ⟨j,hj,rfl⟩:=Hz.2.1 i h
    exact absurd hj (At5 _ t j (Nat.le_refl _))
   ·exact Hz.2.2 h
  ·rw [Vg c t h1]
   refine ⟨λk i h=>?_,λk i h=>?_,λk h=>?_⟩<;>injection h with _ h
   ·rcases Hz.1 i h with rfl | ⟨j,hj,rfl⟩
    ·simp
    ·have:=(Vb t j).1 hj
     simp only [List.length_cons];omega
   ·obtain ⟨j,hj,rfl⟩:=Hz.2.1 i h
    exact absurd hj (Vb t j).2
   ·exact Hz.2.2 h
  ·rw [Xg c t h1]
   refine ⟨λk i h=>?_,λk i h=>?_,λk h=>?_⟩<;>injection h with _ h
   ·rcases Hz.1 i h with rfl | ⟨j,hj,rfl⟩
    ·simp
    ·have:=Agl _ t j 1 (Nat.le_refl _) (.inl hj)
     simp only [List.length_cons];omega
   ·obtain ⟨j,hj,rfl⟩:=Hz.2.1 i h
    have:=Agl _ t j 1 (Nat.le_refl _) (.inr hj)
    simp only [List.length_cons];omega
   ·exact Hz.2.2 h
  ·rw [h1]
   refine ⟨λk i h=>?_,λk i h=>(by cases h),λk h=>(by cases h)⟩
   injection h with _ h
   injection h with h
   subst h
   simp
theorem Als:∀ (f a:Nat) (l:List UInt8),(all f a l).1 ≠ 0->((all f a l).1=4\/(all f a l).1=6)/\(all f a l).2.1<a+l.length
 | 0,_,_,h=>absurd rfl h
 | f+1,a,l,h=>by
  rw [all] at h ⊢
  by_cases hl:l=[]
  ·rw [if_pos hl] at h;exact absurd rfl h
  ·rw [if_neg hl] at h ⊢
   obtain ⟨o1,o2,o3⟩:=Awr hl
   obtain ⟨⟨k,r⟩,hk⟩:∃ q,q=one l:=⟨_,rfl⟩
   rw [<- hk] at h o1 o2 o3 ⊢
   cases r with
   | fine x n =>
    obtain ⟨g1,g2,-⟩:=Iu hk.symm
    simp only at h ⊢
    by_cases hz:(all f (a+n) (l.drop n)).1=0
    ·rw [if_pos hz] at h;exact absurd rfl h
    ·rw [if_neg hz]
     have:=Als f _ _ hz
     rw [List.length_drop] at this
     exact ⟨this.1,by omega⟩
   | bad i=>exact ⟨.inl rfl,by have:=o1 k i rfl;show a+i<_;omega⟩
   | gap=>exact absurd rfl (o3 k)
   | deep i=>exact ⟨.inr rfl,by have:=o2 k i rfl;show a+i<_;omega⟩
theorem Ig (s:List UInt8):(2000<s.length/\Em s=(5,0,[]))\/(s.length<=2000/\∃ E p,Em s=(E,p,[])/\(E=4\/E=6\/E=7)/\p<s.length)\/(s.length<=2000/\∃ ts,Em s=(0,0,ts)/\Cuts 0 s ts/\ok s):=by
 unfold Em
 by_cases hl:2000<s.length
 ·exact .inl ⟨hl,by rw [if_pos hl]⟩
 rw [if_neg hl]
 right
 by_cases hr:(As s).2=-1
 ·rw [if_pos hr]
  by_cases h0:(all s.length 0 s).1=0
  ·obtain ⟨h1,h2⟩:=Aic s.length 0 s (Nat.le_refl _) h0
   exact .inr ⟨by omega,_,Prod.ext h0 (Prod.ext h1 rfl),h2,hr⟩
  ·have h1:=all_none _ _ _ h0
   have h2:=Als _ _ _ h0
   exact .inl ⟨by omega,(all s.length 0 s).1,(all s.length 0 s).2.1,Prod.ext rfl (Prod.ext rfl h1),by rcases h2.1 with h | h;exact .inl h;exact .inr (.inl h),by have:=h2.2;omega⟩
 ·rw [if_neg hr]
  obtain ⟨-,-,h3⟩:=Dw (s:=s) (m:=(As s).1) (z:=(As s).2) rfl
  rcases h3 with ⟨h3,-⟩ | ⟨k,hk,h4,-⟩
  ·exact absurd h3 hr
  ·exact .inl ⟨by omega,7,k,by rw [hk];rfl,.inr (.inr rfl),h4⟩
def nth (ts:List Tok) (i:Nat):Tok:=ts.getD i ⟨0,[],0⟩
theorem Atu (k:Tok) (ts:List Tok) (i:Nat):nth (k::ts) (i+1)=nth ts i:=rfl
def wrap:Nat->List UInt8->List UInt8
 | 0,s=>s
 | n+1,s=>40::(wrap n s ++ [41])
end Lex
end
end Go.Proofs.YtpcgbgfpnhiihaaGreatDoor
