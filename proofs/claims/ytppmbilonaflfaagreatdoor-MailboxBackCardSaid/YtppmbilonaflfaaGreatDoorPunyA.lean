import Derived.Test.YtppmbilonaflfaaGreatDoorUtfA
namespace Go.Proofs.YtppmbilonaflfaaGreatDoor
section
namespace Puny
def thr (k b:Int):Int:=max 1 (min 26 (k - b))
theorem Js (k b:Int):1<=thr k b/\thr k b<=26:=by unfold thr;omega
theorem Atg (k b:Int):thr k b<=thr (k+36) b:=by unfold thr;omega
def Ajl:Nat->Int->Int->Int->List Int
 | 0,_,_,_=>[]
 | f+1,n,k,b=>if n<thr k b then [n] else (thr k b+(n - thr k b) % (36 - thr k b))::Ajl f ((n - thr k b) / (36 - thr k b)) (k+36) b
theorem less (n t:Int) (ht:1<=t) (ht':t<=26) (h:t<=n):0<=(n - t) / (36 - t)/\((n - t) / (36 - t)).toNat<n.toNat:=by
 have h0:0<=(n - t) / (36 - t):=Int.ediv_nonneg (by omega) (by omega)
 refine ⟨h0,?_⟩
 have h1:(n - t) / (36 - t)<=n - t:=Int.ediv_le_self _ (by omega)
 omega
theorem Aah:∀ (f g:Nat) (n k b:Int),0<=n->n.toNat<f->n.toNat<g->Ajl f n k b=Ajl g n k b
 | 0,_,_,_,_,_,h,_=>by omega
 | _,0,_,_,_,_,_,h=>by omega
 | f+1,g+1,n,k,b,hn,hf,hg=>by
  unfold Ajl
  have ht:=Js k b
  split
  ·rfl
  ·rename_i h
   obtain ⟨h0,h1⟩:=less n (thr k b) ht.1 ht.2 (by omega)
   rw [Aah f g _ (k+36) b h0 (by omega) (by omega)]
def digits (n k b:Int):List Int:=Ajl (n.toNat+1) n k b
theorem Ew {n k b:Int} (h:n<thr k b):digits n k b=[n]:=by unfold digits Ajl;rw [if_pos h]
theorem F7 {n k b:Int} (h:thr k b<=n):digits n k b=(thr k b+(n - thr k b) % (36 - thr k b))::digits ((n - thr k b) / (36 - thr k b)) (k+36) b:=by
 have ht:=Js k b
 obtain ⟨h0,h1⟩:=less n (thr k b) ht.1 ht.2 h
 unfold digits
 rw [Ajl,if_neg (by omega)]
 rw [Aah n.toNat (((n - thr k b) / (36 - thr k b)).toNat+1) _ (k+36) b h0 h1 (by omega)]
def Fi:Int:=2147483647
def num (b:Int):List Int->Int->Int->Int->Nat->Option (Int × Nat)
 | [],_,_,_,_=>none
 | d::l,k,w,s,u=>if Fi<w\/Fi<s+d*w then none else if d<thr k b then some (s+d*w,u+1) else num b l (k+36) (w*(36 - thr k b)) (s+d*w) (u+1)
theorem parts (n t:Int) (ht:1<=t) (ht':t<=26):n=(t+(n - t) % (36 - t))+(36 - t)*((n - t) / (36 - t))/\t<=t+(n - t) % (36 - t)/\t+(n - t) % (36 - t)<36:=by
 have h1:=Int.emod_add_mul_ediv (n - t) (36 - t)
 have h2:=Int.emod_nonneg (n - t) (show 36 - t ≠ 0 by omega)
 have h3:=Int.emod_lt_of_pos (n - t) (show 0<36 - t by omega)
 omega
theorem Zs (w n d t q s:Int) (h:n=d+(36 - t)*q):s+n*w=(s+d*w)+q*(w*(36 - t)):=by
 subst h
 rw [Int.add_mul,<- Int.add_assoc]
 congr 1
 rw [Int.mul_comm (36 - t) q,Int.mul_assoc,Int.mul_comm (36 - t) w]
theorem Ad5 (w t N:Int) (hN:N<=126322567) (ht:2<=t) (ht':t<=26) (h:t*w<=N):w*(36 - t)<=Fi:=by
 unfold Fi
 have hc:t=2\/t=3\/t=4\/t=5\/t=6\/t=7\/t=8\/t=9\/t=10\/t=11\/t=12\/t=13\/t=14\/t=15\/t=16\/t=17\/t=18\/t=19\/t=20\/t=21\/t=22\/t=23\/t=24\/t=25\/t=26:=by omega
 rcases hc with rfl | rfl | rfl | rfl | rfl | rfl | rfl | rfl | rfl | rfl | rfl | rfl | rfl | rfl | rfl | rfl | rfl | rfl | rfl | rfl | rfl | rfl | rfl | rfl | rfl<;>omega
theorem Alb:∀ (j:Nat),(35:Int) ^ j<=126322567->(35:Int) ^ (j+1)<=Fi
 | 0,_=>by decide
 | 1,_=>by decide
 | 2,_=>by decide
 | 3,_=>by decide
 | 4,_=>by decide
 | 5,_=>by decide
 | j+6,h=>by
  exfalso
  have h1:(1:Int)<=35 ^ j:=Int.pow_pos (by decide)
  have h2:(35:Int) ^ (j+6)=35 ^ j*1838265625:=by rw [Int.pow_add];rfl
  rw [h2] at h
  have:(1838265625:Int)<=35 ^ j*1838265625:=by
   have:=Int.mul_le_mul_of_nonneg_right h1 (show (0:Int)<=1838265625 by decide)
   omega
  omega
theorem Yp (b N:Int) (hN:N<=126322567):∀ (f:Nat) (n k w s:Int) (u:Nat) (rest:List Int),n.toNat<f->0<=n->1<=w->0<=s->s+n*w<=N->w<=Fi->(thr k b=1->∃ j:Nat,w=35 ^ j) ->
  num b (digits n k b ++ rest) k w s u=some (s+n*w,u+(digits n k b).length)
 | 0,_,_,_,_,_,_,hf,_,_,_,_,_,_=>by omega
 | f+1,n,k,w,s,u,rest,hf,hn,hw,hs,hsum,hwl,hpow=>by
  have ht:=Js k b
  have hlim:(N:Int)<=Fi:=by unfold Fi;omega
  by_cases h:n<thr k b
  ·rw [Ew h]
   simp only [List.cons_append,List.nil_append,num]
   rw [if_neg (by omega),if_pos h]
   rfl
  ·have h':thr k b<=n:=by omega
   obtain ⟨q0,q1⟩:=less n (thr k b) ht.1 ht.2 h'
   obtain ⟨p1,p2,p3⟩:=parts n (thr k b) ht.1 ht.2
   rw [F7 h']
   generalize hd:thr k b+(n - thr k b) % (36 - thr k b)=d at p1 p2 p3 ⊢
   generalize hq:(n - thr k b) / (36 - thr k b)=q at p1 q0 q1 ⊢
   have e:=Zs w n d (thr k b) q s p1
   have hw':1<=w*(36 - thr k b):=Int.mul_pos (by omega) (by omega)
   have hdw:0<=d*w:=Int.mul_nonneg (by omega) (by omega)
   have hqw:0<=q*(w*(36 - thr k b)):=Int.mul_nonneg q0 (by omega)
   have htw:thr k b*w<=N:=by
    have:=Int.mul_le_mul_of_nonneg_right h' (show 0<=w by omega)
    omega
   have hwn:w*(36 - thr k b)<=Fi:=by
    by_cases ht1:thr k b=1
    ·obtain ⟨j,rfl⟩:=hpow ht1
     rw [ht1] at htw ⊢
     have:=Alb j (by omega)
     rw [Int.pow_succ] at this
     exact this
    ·exact Ad5 w (thr k b) N hN (by omega) ht.2 htw
   have ih:=Yp b N hN f q (k+36) (w*(36 - thr k b)) (s+d*w) (u+1) rest (by omega) q0 hw' (by omega) (by omega) hwn (λh1=>by
    have:=Atg k b
    have ht1:thr k b=1:=by omega
    obtain ⟨j,rfl⟩:=hpow ht1
    exact ⟨j+1,by rw [ht1,Int.pow_succ];rfl⟩)
   simp only [List.cons_append,num]
   rw [if_neg (by omega),if_neg (by omega),ih,e]
   simp only [List.length_cons,Option.some.injEq,Prod.mk.injEq,true_and]
   omega
theorem Ahk (b:Int):∀ (l:List Int) (k w s:Int) (u:Nat) (x:Int) (v:Nat),(∀ d ∈ l,0<=d/\d<36)->num b l k w s u=some (x,v) ->
  ∃ (n:Int) (m:Nat),0<=n/\x=s+n*w/\v=u+m/\m<=l.length/\1<=m/\l.take m=digits n k b
 | [],_,_,_,_,_,_,_,h=>by cases h
 | d::l,k,w,s,u,x,v,hl,h=>by
  have ht:=Js k b
  have hd:=hl d (by simp)
  unfold num at h
  split at h
  ·cases h
  ·split at h
   ·rename_i hlt
    simp only [Option.some.injEq,Prod.mk.injEq] at h
    obtain ⟨rfl,rfl⟩:=h
    exact ⟨d,1,hd.1,rfl,rfl,by simp,Nat.le_refl _,by rw [Ew hlt];rfl⟩
   ·rename_i hge
    obtain ⟨q,m,hq,hx,hv,hm,hm1,htk⟩:=Ahk b l _ _ _ _ _ _ (λy hy=>hl y (by simp [hy])) h
    have hpos:0<36 - thr k b:=by omega
    have hqt:0<=(36 - thr k b)*q:=Int.mul_nonneg (by omega) hq
    refine ⟨d+(36 - thr k b)*q,m+1,by omega,?_,by omega,by simp only [List.length_cons];omega,by omega,?_⟩
    ·rw [hx]
     exact (Zs w (d+(36 - thr k b)*q) d (thr k b) q s rfl).symm
    ·have e1:d+(36 - thr k b)*q - thr k b=(d - thr k b)+(36 - thr k b)*q:=by omega
     have e2:(d+(36 - thr k b)*q - thr k b) % (36 - thr k b)=d - thr k b:=by
      rw [e1,Int.add_mul_emod_self_left]
      exact Int.emod_eq_of_lt (by omega) (by omega)
     have e3:(d+(36 - thr k b)*q - thr k b) / (36 - thr k b)=q:=by
      rw [e1,Int.add_mul_ediv_left _ _ (by omega),Int.ediv_eq_zero_of_lt (by omega) (by omega)]
      omega
     rw [F7 (by omega),e2,e3,List.take_succ_cons,htk]
     congr 1
     omega
end Puny
end
section
namespace Puny
theorem Aa9 (n k b:Int):digits n k b ≠ []:=by
 by_cases h:n<thr k b
 · rw [Ew h];simp
 · rw [F7 (by omega)];simp
def emit (ad:Int->Int->Bool->Int):List Int->Int->Int->Bool->List Int
 | [],_,_,_=>[]
 | d::ds,b,c,f=>digits d 36 b ++ emit ad ds (ad d (c+1) f) (c+1) false
end Puny
end
section
namespace Puny
structure Rd where
 out:List Int
 n:Int
 i:Int
def Bv (r:Rd) (d:Int):Rd :=
 ⟨r.out.insertIdx ((r.i+d) % (r.out.length+1)).toNat (r.n+(r.i+d) / (r.out.length+1)),r.n+(r.i+d) / (r.out.length+1),(r.i+d) % (r.out.length+1)+1⟩
def Gd (r:Rd) (ds:List Int):Rd:=ds.foldl Bv r
def row (m:Int):List Int->Int->List Int × Int
 | [],e=>([],e)
 | x::t,e=>if x<m then row m t (e+1) else if x=m then (e::(row m t 0).1,(row m t 0).2) else row m t e
def spot (r:Rd):Int:=r.n*(r.out.length+1)+r.i
def le (m:Int) (l:List Int):List Int:=l.filter λx=>decide (x<=m)
def lt (m:Int) (l:List Int):List Int:=l.filter λx=>decide (x<m)
theorem Ut (m:Int) (p:List Int) (x:Int):le m (p ++ [x])=if x<=m then le m p ++ [x] else le m p:=by
 unfold le
 rw [List.filter_append]
 by_cases h:x<=m<;>simp [h]
theorem Hi (m:Int) (x:Int) (t:List Int):lt m (x::t)=if x<m then x::lt m t else lt m t:=by
 unfold lt
 by_cases h:x<m<;>simp [h]
theorem Aq0 (a b:List Int) (x:Int):(a ++ b).insertIdx a.length x=a ++ x::b:=by
 induction a with
 | nil=>simp
 | cons y a ih=>simpa using ih
theorem Ar9 (r:Rd) (a b:List Int) (m d:Int) (ho:r.out=a ++ b) (h:spot r+d=m*(r.out.length+1)+a.length):Bv r d=⟨a ++ m::b,m,a.length+1⟩:=by
 have hlen:r.out.length=a.length+b.length:=by rw [ho,List.length_append]
 have hc:(0:Int)<(r.out.length:Int)+1:=by omega
 have e:r.i+d=(a.length:Int)+((r.out.length:Int)+1)*(m - r.n):=by
  unfold spot at h
  rw [Int.mul_sub,Int.mul_comm _ m,Int.mul_comm _ r.n]
  omega
 have e1:(r.i+d) % ((r.out.length:Int)+1)=a.length:=by
  rw [e,Int.add_mul_emod_self_left]
  exact Int.emod_eq_of_lt (by omega) (by omega)
 have e2:(r.i+d) / ((r.out.length:Int)+1)=m - r.n:=by
  rw [e,Int.add_mul_ediv_left _ _ (by omega),Int.ediv_eq_zero_of_lt (by omega) (by omega)]
  omega
 unfold Bv
 rw [e1,e2,Int.toNat_natCast,show r.n+(m - r.n)=m by omega,ho,Aq0]
theorem Acw (m:Int):∀ (t p:List Int) (e:Int) (r:Rd),r.out=le m p ++ lt m t->spot r+e=m*(r.out.length+1)+(le m p).length ->
  (Gd r (row m t e).1).out=le m (p ++ t)/\spot (Gd r (row m t e).1)+(row m t e).2=m*((le m (p ++ t)).length+1)+(le m (p ++ t)).length
 | [],p,e,r,ho,hs=>by
  have ho':r.out=le m p:=by rw [ho];simp [lt]
  rw [List.append_nil]
  show r.out=le m p/\spot r+e=_
  rw [hs,ho']
  exact ⟨rfl,rfl⟩
 | x::t,p,e,r,ho,hs=>by
  have hap:p ++ x::t=(p ++ [x]) ++ t:=by simp
  rw [hap]
  unfold row
  by_cases h1:x<m
  ·rw [if_pos h1]
   have hle:le m (p ++ [x])=le m p ++ [x]:=by rw [Ut,if_pos (by omega)]
   refine Acw m t (p ++ [x]) (e+1) r ?_ ?_
   ·rw [ho,Hi,if_pos h1,hle];simp
   ·rw [hle,List.length_append,<- Int.add_assoc,hs];simp;omega
  ·rw [if_neg h1]
   by_cases h2:x=m
   ·subst h2
    rw [if_pos rfl]
    have hle:le x (p ++ [x])=le x p ++ [x]:=by rw [Ut,if_pos (by omega)]
    have ho2:r.out=le x p ++ lt x t:=by rw [ho,Hi,if_neg h1]
    have hst:=Ar9 r (le x p) (lt x t) x e ho2 hs
    show (Gd (Bv r e) (row x t 0).1).out=_/\spot (Gd (Bv r e) (row x t 0).1)+(row x t 0).2=_
    rw [hst]
    refine Acw x t (p ++ [x]) 0 _ ?_ ?_
    ·rw [hle];simp
    ·unfold spot
     simp only [hle,List.length_append,List.length_cons,List.length_nil]
     omega
   ·rw [if_neg h2]
    have hle:le m (p ++ [x])=le m p:=by rw [Ut,if_neg (by omega)]
    refine Acw m t (p ++ [x]) e r ?_ ?_
    ·rw [ho,Hi,if_neg h1,hle]
    ·rw [hle,hs]
def rows (l:List Int):List Int->Int->Int->List Int
 | [],_,_=>[]
 | m::ms,n,e=>(row m l (e+(m - n)*((lt n l).length+1))).1 ++ rows l ms (m+1) ((row m l (e+(m - n)*((lt n l).length+1))).2+1)
def W5 (l:List Int):List Int->Int->Prop
 | [],n=>∀ x ∈ l,x<n
 | m::ms,n=>n<=m/\(∀ x ∈ l,x<n\/m<=x)/\W5 l ms (m+1)
theorem lt_next (l:List Int) (m:Int):lt (m+1) l=le m l:=by
 unfold lt le
 congr 1
 funext x
 rw [Bool.eq_iff_iff,decide_eq_true_eq,decide_eq_true_eq]
 omega
theorem Aln {l:List Int} {n m:Int} (hnm:n<=m) (h:∀ x ∈ l,x<n\/m<=x):lt m l=lt n l:=by
 unfold lt
 apply List.filter_congr
 intro x hx
 rw [Bool.eq_iff_iff,decide_eq_true_eq,decide_eq_true_eq]
 have:=h x hx
 omega
theorem Aq2 {l:List Int} {n:Int} (h:∀ x ∈ l,x<n):lt n l=l:=by
 unfold lt
 rw [List.filter_eq_self]
 intro x hx
 simpa using h x hx
theorem Rf (l:List Int):∀ (ms:List Int) (n e:Int) (r:Rd),W5 l ms n->r.out=lt n l->spot r+e=n*(r.out.length+1)->(Gd r (rows l ms n e)).out=l
 | [],n,e,r,hr,ho,_=>by
  show r.out=l
  rw [ho,Aq2 hr]
 | m::ms,n,e,r,hr,ho,hs=>by
  obtain ⟨h1,h2,h3⟩:=hr
  have hlt:=Aln h1 h2
  unfold rows
  rw [Gd,List.foldl_append]
  have key:=Acw m l [] (e+(m - n)*((lt n l).length+1)) r (by rw [ho,hlt];simp [le]) (by
   rw [<- Int.add_assoc,hs,ho,Int.sub_mul]
   simp [le]
   omega)
  rw [List.nil_append] at key
  refine Rf l ms (m+1) _ _ h3 (by rw [lt_next];exact key.1) ?_
  have hk:=key.2
  have hl:=congrArg List.length key.1
  show spot (Gd r _)+(_+1)=(m+1)*((Gd r _).out.length+1)
  rw [hl,<- Int.add_assoc,hk,Int.add_mul]
  omega
theorem Oa:∀ (l:List Int) (k:Nat) (x:Int),k<=l.length->l.insertIdx k x=l.take k ++ x::l.drop k
 | _,0,_,_=>by simp
 | [],k+1,_,h=>by simp at h
 | y::l,k+1,x,h=>by
  have:=Oa l k x (by simpa using h)
  simpa using this
def Tq (r:Rd):Prop:=∃ A B:List Int,r.out=A ++ B/\r.i=A.length/\(∀ x ∈ A,x<=r.n)/\∀ x ∈ B,x<r.n
theorem Jg {r:Rd} {d:Int} (h:Tq r) (hd:0<=d):∃ A B:List Int,(Bv r d).out=A ++ (Bv r d).n::B/\r.out=A ++ B/\(Bv r d).i=A.length+1/\(∀ x ∈ A,x<=(Bv r d).n)/\(∀ x ∈ B,x<(Bv r d).n) /\
  (Bv r d).n*(r.out.length+1)+A.length=spot r+d:=by
 obtain ⟨A,B,ho,hi,hA,hB⟩:=h
 have hlen:r.out.length=A.length+B.length:=by rw [ho,List.length_append]
 have hc:(0:Int)<(r.out.length:Int)+1:=by omega
 have hm0:=Int.emod_nonneg (r.i+d) (show (r.out.length:Int)+1 ≠ 0 by omega)
 have hm1:=Int.emod_lt_of_pos (r.i+d) hc
 have hdm:=Int.emod_add_mul_ediv (r.i+d) ((r.out.length:Int)+1)
 have hq0:0<=(r.i+d) / ((r.out.length:Int)+1):=Int.ediv_nonneg (by omega) (by omega)
 generalize hk:((r.i+d) % ((r.out.length:Int)+1))=k at hm0 hm1 hdm
 generalize hq:((r.i+d) / ((r.out.length:Int)+1))=q at hq0 hdm
 have hall:∀ x ∈ r.out,x<=r.n:=by
  intro x hx
  rw [ho,List.mem_append] at hx
  rcases hx with hx | hx
  ·exact hA x hx
  ·have:=hB x hx;omega
 have hst:Bv r d=⟨r.out.take k.toNat ++ (r.n+q)::r.out.drop k.toNat,r.n+q,k+1⟩:=by
  unfold Bv
  rw [hk,hq,Oa _ _ _ (by omega)]
 rw [hst]
 refine ⟨r.out.take k.toNat,r.out.drop k.toNat,rfl,(List.take_append_drop _ _).symm,?_,λx hx=>?_,λx hx=>?_,?_⟩
 ·simp only [List.length_take];omega
 ·have:=hall x (List.mem_of_mem_take hx)
  simp only;omega
 ·simp only
  by_cases hq1:1<=q
  ·have:=hall x (List.mem_of_mem_drop hx)
   omega
  ·have hqz:q=0:=by omega
   subst hqz
   rw [Int.mul_zero] at hdm
   have hx':x ∈ B:=by
    rw [ho,List.drop_append] at hx
    rw [List.drop_of_length_le (by omega),List.nil_append] at hx
    exact List.mem_of_mem_drop hx
   have:=hB x hx'
   omega
 ·simp only [List.length_take,spot]
  rw [Int.add_mul,show ((min k.toNat r.out.length:Nat):Int)=k by omega]
  have:((r.out.length:Int)+1)*q=q*((r.out.length:Int)+1):=Int.mul_comm _ _
  omega
theorem Abs {r:Rd} {d:Int} (h:Tq r) (hd:0<=d):Tq (Bv r d):=by
 obtain ⟨A,B,h1,-,h3,h4,h5,-⟩:=Jg h hd
 refine ⟨A ++ [(Bv r d).n],B,by rw [h1];simp,by rw [h3];simp,λx hx=>?_,h5⟩
 rw [List.mem_append,List.mem_singleton] at hx
 rcases hx with hx | rfl
 · exact h4 x hx
 · exact Int.le_refl _
theorem Wu:∀ {ds:List Int} {r:Rd},Tq r->(∀ d ∈ ds,0<=d)->Tq (Gd r ds)
 | [],_,h,_=>h
 | d::ds,r,h,hd=>Wu (ds:=ds) (Abs h (hd d (by simp))) λx hx=>hd x (by simp [hx])
theorem Pw:∀ (ds:List Int) (r:Rd),Tq r->(∀ d ∈ ds,0<=d)->(Gd r ds).out.length=r.out.length+ds.length
 | [],_,_,_=>rfl
 | d::ds,r,h,hd=>by
  have h0:=hd d (by simp)
  obtain ⟨A,B,h1,h2,-⟩:=Jg h h0
  have:=Pw ds (Bv r d) (Abs h h0) λx hx=>hd x (by simp [hx])
  show (Gd (Bv r d) ds).out.length=_
  rw [this,h1,h2]
  simp only [List.length_append,List.length_cons]
  omega
theorem Asj {A B A' B':List Int} {n n':Int} (h:A ++ n::B=A' ++ n'::B') (hA:∀ x ∈ A,x<=n) (hB:∀ x ∈ B,x<n) (hA':∀ x ∈ A',x<=n') (hB':∀ x ∈ B',x<n'):A=A'/\n=n'/\B=B':=by
 have hn:n=n':=by
  have h1:n ∈ A' ++ n'::B':=by rw [<- h];simp
  have h2:n' ∈ A ++ n::B:=by rw [h];simp
  rw [List.mem_append,List.mem_cons] at h1 h2
  have g1:n<=n':=by
   rcases h1 with h1 | h1 | h1
   · exact hA' n h1
   · omega
   · have:=hB' n h1;omega
  have g2:n'<=n:=by
   rcases h2 with h2 | h2 | h2
   · exact hA n' h2
   · omega
   · have:=hB n' h2;omega
  omega
 subst hn
 rcases List.append_eq_append_iff.1 h with ⟨C,rfl,hC⟩ | ⟨C,rfl,hC⟩
 ·cases C with
  | nil=>simp at hC;simp [hC]
  | cons y C =>
   simp only [List.cons_append,List.cons.injEq] at hC
   exfalso
   have:=hB n (by rw [hC.2];simp)
   omega
 ·cases C with
  | nil=>simp at hC;simp [hC]
  | cons y C =>
   simp only [List.cons_append,List.cons.injEq] at hC
   exfalso
   have:=hB' n (by rw [hC.2];simp)
   omega
theorem Aes {r:Rd} (hr:Tq r):∀ (k:Nat) (ds es:List Int),ds.length=k->es.length=k->(∀ d ∈ ds,0<=d)->(∀ d ∈ es,0<=d)->(Gd r ds).out=(Gd r es).out->ds=es
 | 0,ds,es,h1,h2,_,_,_=>by rw [List.eq_nil_of_length_eq_zero h1,List.eq_nil_of_length_eq_zero h2]
 | k+1,ds,es,h1,h2,hd,he,h=>by
  rcases List.eq_nil_or_concat ds with rfl | ⟨ds,d,rfl⟩
  ·simp at h1
  rcases List.eq_nil_or_concat es with rfl | ⟨es,e,rfl⟩
  ·simp at h2
  simp only [List.concat_eq_append,List.length_append,List.length_cons,List.length_nil,List.mem_append,List.mem_singleton] at h1 h2 hd he h ⊢
  have kd:=Wu (r:=r) (ds:=ds) hr λx hx=>hd x (.inl hx)
  have ke:=Wu (r:=r) (ds:=es) hr λx hx=>he x (.inl hx)
  have ed:Gd r (ds ++ [d])=Bv (Gd r ds) d:=by unfold Gd;rw [List.foldl_append];rfl
  have ee:Gd r (es ++ [e])=Bv (Gd r es) e:=by unfold Gd;rw [List.foldl_append];rfl
  rw [ed,ee] at h
  obtain ⟨A,B,a1,a2,-,a4,a5,a6⟩:=Jg kd (hd d (.inr rfl))
  obtain ⟨A',B',b1,b2,-,b4,b5,b6⟩:=Jg ke (he e (.inr rfl))
  rw [a1,b1] at h
  obtain ⟨rfl,hn,rfl⟩:=Asj h a4 a5 b4 b5
  have hout:(Gd r ds).out=(Gd r es).out:=by rw [a2,b2]
  obtain rfl:=Aes hr k ds es (by omega) (by omega) (λx hx=>hd x (.inl hx)) (λx hx=>he x (.inl hx)) hout
  have hde:d=e:=by
   rw [<- hn] at b6
   omega
  rw [hde]
theorem Lk (m:Int):∀ (t:List Int) (e:Int),0<=e->(∀ d ∈ (row m t e).1,0<=d)/\0<=(row m t e).2
 | [],_,h=>⟨(λd hd=>by cases hd),h⟩
 | x::t,e,h=>by
  unfold row
  split
  ·exact Lk m t (e+1) (by omega)
  ·split
   ·obtain ⟨h1,h2⟩:=Lk m t 0 (by omega)
    refine ⟨λd hd=>?_,h2⟩
    rcases List.mem_cons.1 hd with rfl | hd
    · exact h
    · exact h1 d hd
   ·exact Lk m t e h
theorem Mn (l:List Int):∀ (ms:List Int) (n e:Int),W5 l ms n->0<=e->∀ d ∈ rows l ms n e,0<=d
 | [],_,_,_,_=>λd hd=>by cases hd
 | m::ms,n,e,hr,he=>by
  obtain ⟨h1,-,h3⟩:=hr
  have h0:0<=e+(m - n)*((lt n l).length+1):=by
   have:=Int.mul_nonneg (show 0<=m - n by omega) (show (0:Int)<=((lt n l).length:Int)+1 by omega)
   omega
  obtain ⟨g1,g2⟩:=Lk m l _ h0
  intro d hd
  unfold rows at hd
  rw [List.mem_append] at hd
  rcases hd with hd | hd
  ·exact g1 d hd
  ·exact Mn l ms (m+1) _ h3 (by omega) d hd
def start (p:List Int):Rd:=⟨p,128,0⟩
theorem Vs {p:List Int} (h:∀ x ∈ p,x<128):Tq (start p):=⟨[],p,rfl,rfl,(λx hx=>by cases hx),h⟩
theorem Yk (l ms:List Int) (h:W5 l ms 128):(Gd (start (lt 128 l)) (rows l ms 128 0)).out=l :=
 Rf l ms 128 0 _ h rfl (by simp [spot,start])
theorem Aju {p ds l ms:List Int} (hp:∀ x ∈ p,x<128) (hd:∀ d ∈ ds,0<=d) (hl:(Gd (start p) ds).out=l) (hpl:lt 128 l=p) (h:W5 l ms 128):rows l ms 128 0=ds:=by
 have hk:=Vs hp
 have hw:=Yk l ms h
 rw [hpl] at hw
 have hn:=Mn l ms 128 0 h (by omega)
 have l1:=Pw (rows l ms 128 0) (start p) hk hn
 have l2:=Pw ds (start p) hk hd
 rw [hw] at l1
 rw [hl] at l2
 exact Aes hk ds.length _ _ (by omega) rfl hn hd (by rw [hw,hl])
end Puny
end
section
namespace Puny
def least (n:Int):List Int->Int->Int
 | [],m=>m
 | x::t,m=>least n t (if n<=x/\x<m then x else m)
theorem least_le (n:Int):∀ (l:List Int) (m:Int),least n l m<=m
 | [],m=>Int.le_refl _
 | x::t,m=>by
  unfold least
  have:=least_le n t (if n<=x/\x<m then x else m)
  split at this
  · rename_i h;rw [if_pos h];omega
  · rename_i h;rw [if_neg h];exact this
theorem R8 (n:Int):∀ (l:List Int) (m:Int),∀ x ∈ l,n<=x->least n l m<=x
 | [],_,x,hx,_=>by cases hx
 | y::t,m,x,hx,hn=>by
  unfold least
  rcases List.mem_cons.1 hx with rfl | hx
  ·have:=least_le n t (if n<=x/\x<m then x else m)
   by_cases h:n<=x/\x<m
   · rw [if_pos h] at this ⊢;exact this
   · rw [if_neg h] at this ⊢;omega
  ·exact R8 n t _ x hx hn
theorem Xq (n:Int):∀ (l:List Int) (m:Int),least n l m=m\/(least n l m ∈ l/\n<=least n l m)
 | [],m=>.inl rfl
 | y::t,m=>by
  unfold least
  by_cases h:n<=y/\y<m
  ·rw [if_pos h]
   rcases Xq n t y with e | ⟨e1,e2⟩
   · exact .inr ⟨by rw [e];simp,by rw [e];exact h.1⟩
   · exact .inr ⟨by simp [e1],e2⟩
  ·rw [if_neg h]
   rcases Xq n t m with e | ⟨e1,e2⟩
   · exact .inl e
   · exact .inr ⟨by simp [e1],e2⟩
theorem Zr {n m:Int} (h:n<=m):∀ (l:List Int),(lt n l).length<=(lt m l).length
 | []=>Nat.le_refl _
 | x::t=>by
  have:=Zr h t
  rw [Hi,Hi]
  by_cases h1:x<n
  ·rw [if_pos h1,if_pos (by omega)];simp only [List.length_cons];omega
  ·rw [if_neg h1]
   split
   · simp only [List.length_cons];omega
   · exact this
theorem Mh {n m:Int} (h:n<=m):∀ (l:List Int),m ∈ l->(lt n l).length<(lt (m+1) l).length
 | [],hm=>by cases hm
 | x::t,hm=>by
  rw [Hi,Hi]
  rcases List.mem_cons.1 hm with rfl | hm
  ·rw [if_neg (by omega),if_pos (by omega),List.length_cons]
   have:=Zr (show n<=m+1 by omega) t
   omega
  ·have:=Mh h t hm
   by_cases h1:x<n
   ·rw [if_pos h1,if_pos (by omega)];simp only [List.length_cons];omega
   ·rw [if_neg h1]
    split
    · simp only [List.length_cons];omega
    · exact this
theorem Sh (n:Int) (l:List Int):(lt n l).length<=l.length:=by unfold lt;exact List.length_filter_le _ _
theorem Ac2 {n:Int}:∀ {l:List Int},(lt n l).length=l.length->∀ x ∈ l,x<n
 | [],_,x,hx=>by cases hx
 | y::t,h,x,hx=>by
  rw [Hi] at h
  have h0:=Sh n t
  by_cases h1:y<n
  ·rw [if_pos h1] at h
   simp only [List.length_cons] at h
   rcases List.mem_cons.1 hx with rfl | hx
   · exact h1
   · exact Ac2 (by omega) x hx
  ·rw [if_neg h1,List.length_cons] at h
   omega
theorem Amd {n:Int}:∀ {l:List Int},(lt n l).length ≠ l.length->∃ x ∈ l,n<=x
 | [],h=>absurd rfl h
 | y::t,h=>by
  rw [Hi] at h
  by_cases h1:y<n
  ·rw [if_pos h1] at h
   simp only [List.length_cons] at h
   obtain ⟨x,hx,hn⟩:=Amd (l:=t) (n:=n) (by omega)
   exact ⟨x,by simp [hx],hn⟩
  ·exact ⟨y,by simp,by omega⟩
def msF:Nat->List Int->Int->List Int
 | 0,_,_=>[]
 | f+1,l,n=>if (lt n l).length=l.length then [] else least n l 1114112::msF f l (least n l 1114112+1)
theorem Ahe {l:List Int} {n:Int} (hl:∀ x ∈ l,x<1114112) (h:(lt n l).length ≠ l.length):least n l 1114112 ∈ l/\n<=least n l 1114112/\∀ x ∈ l,x<n\/least n l 1114112<=x:=by
 obtain ⟨x,hx,hn⟩:=Amd h
 have h1:=R8 n l 1114112 x hx hn
 rcases Xq n l 1114112 with e | ⟨e1,e2⟩
 ·have:=hl x hx;omega
 ·refine ⟨e1,e2,λy hy=>?_⟩
  by_cases hy1:y<n
  · exact .inl hy1
  · exact .inr (R8 n l 1114112 y hy (by omega))
theorem Aam:∀ (f:Nat) (l:List Int) (n:Int),(∀ x ∈ l,x<1114112)->l.length - (lt n l).length<=f->W5 l (msF f l n) n
 | 0,l,n,hl,hf=>by
  have:=Sh n l
  exact Ac2 (by omega)
 | f+1,l,n,hl,hf=>by
  unfold msF
  by_cases h:(lt n l).length=l.length
  ·rw [if_pos h];exact Ac2 h
  ·rw [if_neg h]
   obtain ⟨h1,h2,h3⟩:=Ahe hl h
   have:=Mh h2 l h1
   exact ⟨h2,h3,Aam f l _ hl (by omega)⟩
def Fz (l:List Int):List Int:=rows l (msF l.length l 128) 128 0
theorem Ll (l:List Int) (hl:∀ x ∈ l,x<1114112):W5 l (msF l.length l 128) 128:=Aam _ _ _ hl (by omega)
theorem Qs (ad:Int->Int->Bool->Int) (d:Int) (ds:List Int) (b c:Int) (f:Bool):emit ad (d::ds) b c f=digits d 36 b ++ emit ad ds (ad d (c+1) f) (c+1) false:=rfl
def Fk (l ms:List Int) (m:Int) (t:List Int) (e:Int):List Int:=(row m t e).1 ++ rows l ms (m+1) ((row m t e).2+1)
theorem Aio (l ms:List Int) (m n e:Int):rows l (m::ms) n e=Fk l ms m l (e+(m - n)*((lt n l).length+1)):=rfl
theorem Ao1 {l ms:List Int} {m x:Int} {t:List Int} {e:Int} (h:x<m):Fk l ms m (x::t) e=Fk l ms m t (e+1):=by unfold Fk;rw [row,if_pos h]
theorem Amu {l ms:List Int} {m:Int} {t:List Int} {e:Int}:Fk l ms m (m::t) e=e::Fk l ms m t 0:=by
 unfold Fk
 rw [row,if_neg (by omega),if_pos rfl]
 rfl
theorem Ap5 {l ms:List Int} {m x:Int} {t:List Int} {e:Int} (h:m<x):Fk l ms m (x::t) e=Fk l ms m t e:=by unfold Fk;rw [row,if_neg (by omega),if_neg (by omega)]
theorem Ash (l ms:List Int) (m e:Int):Fk l ms m [] e=rows l ms (m+1) (e+1):=rfl
end Puny
end
section
open Go.RowKit
namespace Puny
def Pj (n:Int):Int:=if n<26 then 97+n else 22+n
def valOf (n:Int):Option Int:=if 97<=n/\n<=122 then some (n - 97) else if 65<=n/\n<=90 then some (n - 65) else if 48<=n/\n<=57 then some (n - 48+26) else none
def Gz:Nat->Int->Int->Int
 | 0,d,k=>k+36*d / (d+38)
 | f+1,d,k=>if 455<d then Gz f (d / 35) (k+36) else k+36*d / (d+38)
theorem Ty:∀ (f g:Nat) (d k:Int),0<=d->d.toNat<=f->d.toNat<=g->Gz f d k=Gz g d k
 | 0,0,_,_,_,_,_=>rfl
 | 0,g+1,d,k,h0,hf,_=>by unfold Gz;rw [if_neg (by omega)]
 | f+1,0,d,k,h0,_,hg=>by unfold Gz;rw [if_neg (by omega)]
 | f+1,g+1,d,k,h0,hf,hg=>by
  unfold Gz
  split
  · exact Ty f g _ _ (by omega) (by omega) (by omega)
  · rfl
def Ur (d k:Int):Int:=Gz d.toNat d k
theorem Apx {d k:Int} (h:455<d):Ur d k=Ur (d / 35) (k+36):=by
 unfold Ur
 obtain ⟨f,hf⟩:∃ f,d.toNat=f+1:=⟨d.toNat - 1,by omega⟩
 rw [hf,Gz,if_pos h]
 exact Ty _ _ _ _ (by omega) (by omega) (by omega)
theorem Anl {d k:Int} (h:¬ 455<d):Ur d k=k+36*d / (d+38):=by
 unfold Ur
 cases d.toNat with
 | zero=>rfl
 | succ f=>rw [Gz,if_neg h]
def adapt (delta count:Int) (first:Bool):Int:=Ur ((if first then delta / 700 else delta / 2)+(if first then delta / 700 else delta / 2) / count) 0
end Puny
namespace Puny
def Ja (n:Int):UInt8:=UInt8.ofNat (Pj n).toNat
theorem Qn {n:Int} (h:0<=n/\n<=35):((Ja n).toNat:Int)=Pj n:=by
 have h1:0<=Pj n/\Pj n<256:=by unfold Pj;split<;>omega
 unfold Ja
 rw [UInt8.toNat_ofNat',Nat.mod_eq_of_lt (by show (Pj n).toNat<256;omega)]
 omega
def Cb (n k b:Int):List UInt8:=(digits n k b).map Ja
theorem Ada {n k b:Int} (h:n<thr k b):Cb n k b=[Ja n]:=by unfold Cb;rw [Ew h];rfl
theorem Adv {n k b:Int} (h:thr k b<=n):Cb n k b=Ja (thr k b+(n - thr k b) % (36 - thr k b))::Cb ((n - thr k b) / (36 - thr k b)) (k+36) b:=by unfold Cb;rw [F7 h];rfl
end Puny
end
section
open Go.RowKit Utf
namespace Puny
theorem Aa1:∀ (f:Nat) (d k:Int),0<=d->k<=Gz f d k/\Gz f d k<=k+d+36
 | 0,d,k,h=>by
  have h1:0<=36*d / (d+38):=Int.ediv_nonneg (by omega) (by omega)
  have h2:36*d / (d+38)<=36:=by
   have:=Int.ediv_le_ediv (c:=d+38) (by omega) (show 36*d<=36*(d+38) by omega)
   rwa [Int.mul_ediv_cancel _ (by omega)] at this
  unfold Gz
  omega
 | f+1,d,k,h=>by
  unfold Gz
  split
  ·have:=Aa1 f (d / 35) (k+36) (by omega)
   omega
  ·have h1:0<=36*d / (d+38):=Int.ediv_nonneg (by omega) (by omega)
   have h2:36*d / (d+38)<=36:=by
    have:=Int.ediv_le_ediv (c:=d+38) (by omega) (show 36*d<=36*(d+38) by omega)
    rwa [Int.mul_ediv_cancel _ (by omega)] at this
   omega
theorem Af7 {delta count:Int} (first:Bool) (hd:0<=delta/\delta<=2147483647) (hc:1<=count):0<=adapt delta count first/\adapt delta count first<=5000000000:=by
 unfold adapt
 obtain ⟨d,hdd⟩:∃ d,d=(if first then delta / 700 else delta / 2):=⟨_,rfl⟩
 rw [<- hdd]
 have hb:0<=d/\d<=2147483647:=by rw [hdd];split<;>omega
 have hq0:0<=d / count:=Int.ediv_nonneg hb.1 (by omega)
 have hq1:d / count<=d:=Int.ediv_le_self _ hb.1
 have:=Aa1 (d+d / count).toNat (d+d / count) 0 (by omega)
 unfold Ur
 omega
def Cx (ds:List Int) (b c:Int) (f:Bool):List UInt8:=(emit adapt ds b c f).map Ja
theorem Abh (d:Int) (ds:List Int) (b c:Int) (f:Bool):Cx (d::ds) b c f=Cb d 36 b ++ Cx ds (adapt d (c+1) f) (c+1) false:=by
 unfold Cx Cb
 rw [Qs,List.map_append]
def Bg (l:List Int):List UInt8:=(lt 128 l).map λx=>UInt8.ofNat x.toNat
def Jy (l:List Int):List UInt8:=if (lt 128 l).length=0 then [] else [45]
def Bn (l:List Int):List UInt8:=Bg l ++ Jy l ++ Cx (Fz l) 72 (lt 128 l).length true
theorem Asz {f:Nat} {l:List Int} {n:Int} (h:(lt n l).length=l.length):msF f l n=[]:=by
 cases f with
 | zero=>rfl
 | succ f=>unfold msF;rw [if_pos h]
theorem Aup {f:Nat} {l:List Int} {n:Int} (h:(lt n l).length ≠ l.length):msF (f+1) l n=least n l 1114112::msF f l (least n l 1114112+1):=by rw [msF,if_neg h]
theorem Ala (n x:Int) (t:List Int) (z:Int):least n (x::t) z=least n t (if n<=x/\x<z then x else z):=rfl
theorem Axf (m:Int) (l:List Int):(le m l).length<=l.length:=by unfold le;exact List.length_filter_le _ _
theorem Au7 (m:Int) (p:List Int) (x:Int):lt m (p ++ [x])=if x<m then lt m p ++ [x] else lt m p:=by
 unfold lt
 rw [List.filter_append]
 by_cases h:x<m<;>simp [h]
end Puny
def Arf (bs:List UInt8) (ok:Bool) (w:World) (e:Ending) (w':World):Prop:=e=.returned (.tuple #[.string ⟨bs.toArray⟩,.bool ok])/\Below w.heap.size w w'
theorem Wj {l:List Int} {k:Nat} (h:k<l.length) (hr:Ag l=true):Ak l[k]! = true:=by
 unfold Ag at hr
 rw [getElem!_pos l k h]
 exact List.all_eq_true.1 hr _ (List.getElem_mem h)
theorem En {l:List Int} (h:Ag l=true):∀ x ∈ l,x<1114112:=λx hx=>by
 unfold Ag at h
 have:=(Al x).1 (List.all_eq_true.1 h x hx)
 omega
end
section
open Go.RowKit Utf
namespace Puny
def El (c:UInt8):Int:=(c.toNat:Int)
def Hy (b:Int):List UInt8->Int->Int->Int->Nat->Option (Int × Nat)
 | [],_,_,_,_=>none
 | c::l,k,w,s,u=>match valOf (El c) with
  | none=>none
  | some d=>if Fi<w\/Fi<s+d*w then none else if d<thr k b then some (s+d*w,u+1) else Hy b l (k+36) (w*(36 - thr k b)) (s+d*w) (u+1)
theorem X6 {n d:Int} (h:valOf n=some d):0<=d/\d<=35:=by
 unfold valOf at h
 split at h
 ·have:=Option.some.inj h;omega
 ·split at h
  ·have:=Option.some.inj h;omega
  ·split at h
   · have:=Option.some.inj h;omega
   · cases h
def Ajs (o:Option (Int × Nat)):Value:=match o with | none=>.tuple #[.int .i64 0,.int .i64 0] | some (x,u)=>.tuple #[.int .i64 x,.int .i64 u]
end Puny
end
section
open Go.RowKit Utf
namespace Puny
def Gt (r:Rd) (d:Int):Bool:=decide (r.i+d<=Fi) && Ak (r.n+(r.i+d) / (r.out.length+1))
def Lc:Nat->List UInt8->Int->Bool->Rd->Option (List Int)
 | _,[],_,_,r=>some r.out
 | 0,_::_,_,_,_=>none
 | k+1,x::l,b,f,r=>match Hy b (x::l) 36 1 0 0 with
  | none=>none
  | some (d,m)=>if Gt r d then Lc k ((x::l).drop m) (adapt d (r.out.length+1) f) false (Bv r d) else none
def Ca:List UInt8->Nat->Nat->Nat
 | [],_,a=>a
 | c::t,k,a=>Ca t (k+1) (if c.toNat=45 then k else a)
def Bi (bs:List UInt8):Nat:=Ca bs 0 0
def Uh (bs:List UInt8):Bool:=bs.any λc=>decide (127<c.toNat)
def Du (bs:List UInt8):Nat:=if Bi bs=0 then 0 else Bi bs+1
def Hp (bs:List UInt8):Option (List Int) :=
 if Uh bs then none else Lc bs.length (bs.drop (Du bs)) 72 true (start ((bs.take (Bi bs)).map El))
theorem Mz:∀ (t:List UInt8) (k a:Nat),a<=k->Ca t k a<=k+t.length/\(Ca t k a=a\/Ca t k a<k+t.length)
 | [],k,a,h=>⟨by simpa [Ca] using h,.inl rfl⟩
 | c::t,k,a,h=>by
  unfold Ca
  split
  ·have:=Mz t (k+1) k (by omega)
   simp only [List.length_cons]
   omega
  ·have:=Mz t (k+1) a (by omega)
   simp only [List.length_cons]
   omega
theorem Ki (bs:List UInt8):Bi bs=0\/Bi bs<bs.length:=by
 have:=(Mz bs 0 0 (Nat.le_refl _)).2
 unfold Bi
 omega
theorem Aad (bs:List UInt8):Du bs<=bs.length:=by
 have:=Ki bs
 unfold Du
 split<;>omega
theorem Vd (b:Int):∀ (l:List UInt8) (k w s:Int) (u:Nat) (x:Int) (v:Nat),Hy b l k w s u=some (x,v)->1<=w->0<=s->0<=x/\x<=Fi/\u+1<=v/\v<=u+l.length
 | [],_,_,_,_,_,_,h,_,_=>by cases h
 | c::l,k,w,s,u,x,v,h,hw,hs=>by
  unfold Hy at h
  cases hv:valOf (El c) with
  | none=>rw [hv] at h;cases h
  | some d =>
   rw [hv] at h
   simp only at h
   have hd:=X6 hv
   have ht:=Js k b
   have h0:0<=d*w:=Int.mul_nonneg hd.1 (by omega)
   split at h
   ·cases h
   ·rename_i hlim
    split at h
    ·have:=Option.some.inj h
     injection this with e1 e2
     subst e1 e2
     simp only [List.length_cons]
     refine ⟨by omega,by omega,by omega,by omega⟩
    ·have h1:1<=w*(36 - thr k b):=by
      have:1*1<=w*(36 - thr k b):=Int.mul_le_mul hw (by omega) (by omega) (by omega)
      omega
     have:=Vd b l _ _ _ _ _ _ h h1 (by omega)
     simp only [List.length_cons]
     omega
theorem Aau {k:Nat} {x:UInt8} {l:List UInt8} {b:Int} {f:Bool} {r:Rd} (h:Hy b (x::l) 36 1 0 0=none):Lc k (x::l) b f r=none:=by
 cases k with
 | zero=>rfl
 | succ k=>unfold Lc;rw [h]
theorem Ahv {k:Nat} {x:UInt8} {l:List UInt8} {b:Int} {f:Bool} {r:Rd} {d:Int} {m:Nat} (h:Hy b (x::l) 36 1 0 0=some (d,m)) (ho:Gt r d=false):Lc k (x::l) b f r=none:=by
 cases k with
 | zero=>rfl
 | succ k=>unfold Lc;rw [h];simp [ho]
theorem Ru {k:Nat} {x:UInt8} {l:List UInt8} {b:Int} {f:Bool} {r:Rd} {d:Int} {m:Nat} (h:Hy b (x::l) 36 1 0 0=some (d,m)) (ho:Gt r d=true) :
  Lc (k+1) (x::l) b f r=Lc k ((x::l).drop m) (adapt d (r.out.length+1) f) false (Bv r d):=by
 rw [Lc,h];simp [ho]
theorem N5 (r:Rd) (d:Int):(Bv r d).out=r.out.take ((r.i+d) % (r.out.length+1)).toNat ++ ((Bv r d).n::r.out.drop ((r.i+d) % (r.out.length+1)).toNat):=by
 have h1:=Int.emod_nonneg (r.i+d) (b:=r.out.length+1) (by omega)
 have h2:=Int.emod_lt_of_pos (r.i+d) (b:=r.out.length+1) (by omega)
 unfold Bv
 exact Oa _ _ _ (by omega)
theorem Z5 (r:Rd) (d:Int):(Bv r d).out.length=r.out.length+1:=by
 have h1:=Int.emod_nonneg (r.i+d) (b:=r.out.length+1) (by omega)
 have h2:=Int.emod_lt_of_pos (r.i+d) (b:=r.out.length+1) (by omega)
 rw [N5 r d,List.length_append,List.length_cons,List.length_take,List.length_drop]
 omega
end Puny
def Vc (o:Option (List Int)) (w:World) (e:Ending) (w':World):Prop :=
 ∃ A c,e=.returned (.tuple #[.slice A (o.getD []).length c,.bool o.isSome])/\Runes (.slice A (o.getD []).length c) (o.getD []) w'/\Below w.heap.size w w'
theorem Apo (w:World):Runes (.slice none 0 0) [] w:=⟨none,0,rfl,Nat.le_refl _,λ_=>rfl,λh=>absurd h (by simp)⟩
theorem Vu {o:Option (List Int)} {w w':World} (h:o=none) (hb:Below w.heap.size w w'):Vc o w (.returned (.tuple #[.slice none 0 0,.bool false])) w':=by
 subst h
 exact ⟨none,0,rfl,Apo _,hb⟩
theorem extract_drop (s:ByteArray) (k:Nat):(s.extract k s.size).data.toList=s.data.toList.drop k:=by
 rw [ByteArray.data_extract,Array.toList_extract,List.extract_eq_take_drop,List.take_of_length_le (by simp)]
end
section
open Go.RowKit Utf
end
section
open Go.RowKit Utf
namespace Puny
def Lx (c:UInt8):Option Int:=valOf (El c)
theorem Akz {n:Int} (h:0<=n/\n<=35):El (Ja n)=Pj n:=Qn h
theorem Abp {n:Int} (h:0<=n/\n<=35):Lx (Ja n)=some n:=by
 unfold Lx
 rw [Akz h]
 unfold Pj
 by_cases h1:n<26
 ·rw [if_pos h1]
  unfold valOf
  rw [if_pos (by omega)]
  congr 1
  omega
 ·rw [if_neg h1]
  unfold valOf
  rw [if_neg (by omega),if_neg (by omega),if_pos (by omega)]
  congr 1
  omega
theorem Sr:∀ (f:Nat) (n k b:Int),0<=n->n.toNat<f->∀ x ∈ digits n k b,0<=x/\x<=35
 | 0,_,_,_,_,h=>by omega
 | f+1,n,k,b,hn,hf=>by
  have ht:=Js k b
  by_cases h:n<thr k b
  ·rw [Ew h]
   intro x hx
   rw [List.mem_singleton] at hx
   omega
  ·have hl:=less n (thr k b) ht.1 ht.2 (by omega)
   have hp:=parts n (thr k b) ht.1 ht.2
   rw [F7 (by omega)]
   intro x hx
   rcases List.mem_cons.1 hx with rfl | hx
   · omega
   · exact Sr f _ _ _ hl.1 (by omega) x hx
theorem Kp:∀ (ds:List Int) (b c:Int) (f:Bool),(∀ d ∈ ds,0<=d)->∀ x ∈ emit adapt ds b c f,0<=x/\x<=35
 | [],_,_,_,_=>λx hx=>by cases hx
 | d::ds,b,c,f,h=>by
  intro x hx
  rw [Qs] at hx
  rcases List.mem_append.1 hx with hx | hx
  · exact Sr (d.toNat+1) d 36 b (h d (by simp)) (by omega) x hx
  · exact Kp ds _ _ _ (λy hy=>h y (by simp [hy])) x hx
theorem Q4:∀ (ds:List Int) (b c:Int) (f:Bool),ds.length<=(emit adapt ds b c f).length
 | [],_,_,_=>Nat.le_refl _
 | d::ds,b,c,f=>by
  rw [Qs,List.length_append,List.length_cons]
  have:=Q4 ds (adapt d (c+1) f) (c+1) false
  have:=List.length_pos_iff.2 (Aa9 d 36 b)
  omega
theorem Aev (b:Int):∀ (vs:List Int) (k w s:Int) (u:Nat),(∀ x ∈ vs,0<=x/\x<=35)->Hy b (vs.map Ja) k w s u=num b vs k w s u
 | [],_,_,_,_,_=>rfl
 | x::vs,k,w,s,u,h=>by
  have hx:=Abp (h x (by simp))
  unfold Lx at hx
  have ih:=λk w s u=>Aev b vs k w s u (λy hy=>h y (by simp [hy]))
  rw [List.map_cons,Hy,num,hx]
  simp only [ih]
theorem Tu (b:Int):∀ (bs:List UInt8) (k w s:Int) (u:Nat) (x:Int) (v:Nat),Hy b bs k w s u=some (x,v) ->
  ∃ vs:List Int,(bs.take (v - u)).map Lx=vs.map some/\num b vs k w s u=some (x,v)/\u+vs.length=v
 | [],_,_,_,_,_,_,h=>by cases h
 | c::l,k,w,s,u,x,v,h=>by
  unfold Hy at h
  cases hv:valOf (El c) with
  | none=>rw [hv] at h;cases h
  | some d =>
   rw [hv] at h
   simp only at h
   split at h
   ·cases h
   ·rename_i hlim
    split at h
    ·rename_i ht
     have e:=Option.some.inj h
     injection e with e1 e2
     subst e1 e2
     refine ⟨[d],?_,?_,by simp⟩
     ·rw [show u+1 - u=1 by omega]
      simp [Lx,hv]
     ·rw [num,if_neg hlim,if_pos ht]
    ·rename_i ht
     obtain ⟨vs,h1,h2,h3⟩:=Tu b l _ _ _ _ _ _ h
     refine ⟨d::vs,?_,?_,by simp only [List.length_cons];omega⟩
     ·rw [show v - u=(v - (u+1))+1 by omega,List.take_succ_cons,List.map_cons,List.map_cons,h1]
      simp [Lx,hv]
     ·rw [num,if_neg hlim,if_neg ht,h2]
theorem Alw {c:UInt8} {d:Int} (h:Lx c=some d):0<=d/\d<36:=by have:=X6 h;omega
theorem Awf {bs:List UInt8} {vs:List Int} (h:bs.map Lx=vs.map some):∀ d ∈ vs,0<=d/\d<36:=by
 intro d hd
 have:some d ∈ bs.map Lx:=by rw [h];exact List.mem_map.2 ⟨d,hd,rfl⟩
 obtain ⟨c,-,hc⟩:=List.mem_map.1 this
 exact Alw hc
theorem Anf {b:Int} {bs:List UInt8} {d:Int} {m:Nat} (h:Hy b bs 36 1 0 0=some (d,m)):0<=d/\1<=m/\m<=bs.length/\(bs.take m).map Lx=(digits d 36 b).map some:=by
 have hb:=Vd b _ _ _ _ _ _ _ h (by decide) (by decide)
 obtain ⟨vs,h1,h2,h3⟩:=Tu b _ _ _ _ _ _ _ h
 rw [Nat.sub_zero] at h1
 obtain ⟨n,j,hn,hx,hv,hj,-,ht⟩:=Ahk b vs 36 1 0 0 d m (Awf h1) h2
 obtain rfl:d=n:=by omega
 rw [List.take_of_length_le (by omega)] at ht
 rw [ht] at h1
 exact ⟨hn,by omega,by omega,h1⟩
theorem mem_insert {l:List Int} {k:Nat} {x y:Int} (hk:k<=l.length) (h:y ∈ l):y ∈ l.insertIdx k x:=by
 rw [Oa l k x hk]
 rw [<- List.take_append_drop k l] at h
 rcases List.mem_append.1 h with h | h
 · exact List.mem_append.2 (.inl h)
 · exact List.mem_append.2 (.inr (List.mem_cons_of_mem _ h))
theorem Aox {r:Rd} {d:Int}:(Bv r d).n ∈ (Bv r d).out:=by rw [N5];simp
theorem Aj1 {r:Rd} {d y:Int} (h:y ∈ r.out):y ∈ (Bv r d).out:=by
 have h1:=Int.emod_nonneg (r.i+d) (b:=r.out.length+1) (by omega)
 have h2:=Int.emod_lt_of_pos (r.i+d) (b:=r.out.length+1) (by omega)
 exact mem_insert (by omega) h
theorem Zo:∀ {ds:List Int} {r:Rd} {y:Int},y ∈ r.out->y ∈ (Gd r ds).out
 | [],_,_,h=>h
 | _::ds,_,_,h=>Zo (ds:=ds) (Aj1 h)
theorem Aqy (r:Rd) (d:Int) (ds:List Int):Gd r (d::ds)=Gd (Bv r d) ds:=rfl
theorem Z6:∀ (ds:List Int) (r:Rd) (b:Int) (f:Bool) (fuel:Nat),(∀ d ∈ ds,0<=d)->0<=r.n->0<=r.i->r.out.length+ds.length<=112->(∀ x ∈ (Gd r ds).out,Ak x=true)->ds.length<=fuel ->
  Lc fuel (Cx ds b r.out.length f) b f r=some (Gd r ds).out
 | [],r,b,f,fuel,_,_,_,_,_,_=>by unfold Cx emit;cases fuel<;>rfl
 | d::ds,r,b,f,fuel,hd,hn,hi,hlen,hR,hf=>by
  obtain ⟨k,rfl⟩:∃ k,fuel=k+1:=⟨fuel - 1,by simp only [List.length_cons] at hf;omega⟩
  have hd0:=hd d (by simp)
  have hn1:=hR _ (Zo (ds:=ds) (Aox (r:=r) (d:=d)))
  have hr1:=(Al _).1 hn1
  have hL:r.out.length<=111:=by simp only [List.length_cons] at hlen;omega
  have hq:(Bv r d).n=r.n+(r.i+d) / (r.out.length+1):=rfl
  have hdm:=Int.mul_ediv_add_emod (r.i+d) (r.out.length+1)
  have hm1:=Int.emod_lt_of_pos (r.i+d) (b:=r.out.length+1) (by omega)
  have hm0:=Int.emod_nonneg (r.i+d) (b:=r.out.length+1) (by omega)
  have hqb:(r.i+d) / (r.out.length+1)<=1114111:=by omega
  have hqn:0<=(r.i+d) / (r.out.length+1):=Int.ediv_nonneg (by omega) (by omega)
  have hmul:((r.out.length:Int)+1)*((r.i+d) / (r.out.length+1))<=112*1114111:=Int.mul_le_mul (by omega) hqb hqn (by decide)
  have hsum:r.i+d<=126322567:=by omega
  have hok:Gt r d=true:=by
   unfold Gt Fi
   rw [<- hq,hn1,decide_eq_true (by omega)]
   rfl
  have htl:Cx (d::ds) b r.out.length f=Cb d 36 b ++ Cx ds (adapt d ((r.out.length:Int)+1) f) ((r.out.length:Int)+1) false:=Abh _ _ _ _ _
  have hval:∀ x ∈ digits d 36 b ++ emit adapt ds (adapt d ((r.out.length:Int)+1) f) ((r.out.length:Int)+1) false,0<=x/\x<=35:=by
   intro x hx
   rcases List.mem_append.1 hx with hx | hx
   ·exact Sr (d.toNat+1) d 36 b hd0 (by omega) x hx
   ·exact Kp ds _ _ _ (λy hy=>hd y (by simp [hy])) x hx
  have hnum:Hy b (Cx (d::ds) b r.out.length f) 36 1 0 0=some (d,(Cb d 36 b).length):=by
   have h1:=Yp b 126322567 (by decide) (d.toNat+1) d 36 1 0 0 (emit adapt ds (adapt d ((r.out.length:Int)+1) f) ((r.out.length:Int)+1) false) (by omega) hd0 (by decide) (by decide) (by omega) (by decide) (λ_=>⟨0,rfl⟩)
   rw [<- Aev b _ _ _ _ _ hval] at h1
   rw [show Cx (d::ds) b r.out.length f=(digits d 36 b ++ emit adapt ds (adapt d ((r.out.length:Int)+1) f) ((r.out.length:Int)+1) false).map Ja from rfl,h1]
   simp [Cb]
  have hne:∃ x l,Cx (d::ds) b r.out.length f=x::l:=by
   cases hc:Cx (d::ds) b r.out.length f with
   | nil =>
    have h1:=congrArg List.length hc
    rw [htl,List.length_append] at h1
    have h2:(Cb d 36 b).length=(digits d 36 b).length:=by simp [Cb]
    have h3:=List.length_pos_iff.2 (Aa9 d 36 b)
    simp only [List.length_nil] at h1
    omega
   | cons x l=>exact ⟨x,l,rfl⟩
  obtain ⟨x,l,hxl⟩:=hne
  have hdrop:(Cx (d::ds) b r.out.length f).drop (Cb d 36 b).length=Cx ds (adapt d ((r.out.length:Int)+1) f) ((r.out.length:Int)+1) false:=by rw [htl,List.drop_left]
  rw [hxl] at hnum hdrop ⊢
  rw [Ru hnum hok,hdrop,Aqy]
  have hl2:=Z5 r d
  have ih:=Z6 ds (Bv r d) (adapt d ((r.out.length:Int)+1) f) false k (λy hy=>hd y (by simp [hy])) (by omega) (by show 0<=(r.i+d) % (r.out.length+1)+1;omega) (by rw [hl2];simp only [List.length_cons] at hlen;omega) hR (by simp only [List.length_cons] at hf;omega)
  rw [hl2] at ih
  exact ih
end Puny
end
section
open Go.RowKit Utf
namespace Puny
def Mw (b:UInt8):UInt8:=if 65<=b.toNat/\b.toNat<=90 then UInt8.ofNat (b.toNat+32) else b
theorem Hn:∀ (t:List UInt8) (k a:Nat),(∀ c ∈ t,c.toNat ≠ 45)->Ca t k a=a
 | [],_,_,_=>rfl
 | c::t,k,a,h=>by
  unfold Ca
  rw [if_neg (h c (by simp)),Hn t _ _ λx hx=>h x (by simp [hx])]
theorem Fy:∀ (x y:List UInt8) (k a:Nat),Ca (x ++ y) k a=Ca y (k+x.length) (Ca x k a)
 | [],y,k,a=>rfl
 | c::x,y,k,a=>by
  rw [List.cons_append,Ca,Ca,Fy x y,List.length_cons]
  congr 1
  omega
theorem Mb:∀ (t:List UInt8) (k a:Nat),Ca t k a=a\/∃ j,Ca t k a=k+j/\∃ h:j<t.length,(t[j]).toNat=45
 | [],_,_=>.inl rfl
 | c::t,k,a=>by
  unfold Ca
  by_cases hc:c.toNat=45
  ·rw [if_pos hc]
   rcases Mb t (k+1) k with h | ⟨j,h1,h2,h3⟩
   · exact .inr ⟨0,by rw [h];rfl,by simp,hc⟩
   · exact .inr ⟨j+1,by rw [h1];omega,by simp only [List.length_cons];omega,by simpa using h3⟩
  ·rw [if_neg hc]
   rcases Mb t (k+1) a with h | ⟨j,h1,h2,h3⟩
   · exact .inl h
   · exact .inr ⟨j+1,by rw [h1];omega,by simp only [List.length_cons];omega,by simpa using h3⟩
theorem Al7 {bs:List UInt8} (h:Bi bs ≠ 0):bs=bs.take (Bi bs) ++ [45] ++ bs.drop (Bi bs+1):=by
 rcases Mb bs 0 0 with h0 | ⟨j,h1,h2,h3⟩
 ·exact absurd h0 h
 ·have e:Bi bs=j:=by unfold Bi;rw [h1];omega
  have e45:bs[j]=45:=by
   apply UInt8.toNat_inj.1
   rw [h3]
   rfl
  rw [e]
  rw [List.append_assoc,List.singleton_append,<- e45,<- List.drop_eq_getElem_cons h2,List.take_append_drop]
theorem Aim {n:Int} (h:0<=n/\n<=35):(Ja n).toNat ≠ 45/\(Ja n).toNat<128:=by
 have:=Qn h
 unfold Pj at this
 split at this<;>omega
theorem Tp {ds:List Int} (b c:Int) (f:Bool) (h:∀ d ∈ ds,0<=d):∀ x ∈ Cx ds b c f,x.toNat ≠ 45/\x.toNat<128:=by
 intro x hx
 obtain ⟨v,hv,rfl⟩:=List.mem_map.1 hx
 exact Aim (Kp ds b c f h v hv)
theorem Adh {m:Int} {l:List Int} {x:Int} (h:x ∈ lt m l):x ∈ l/\x<m:=by
 unfold lt at h
 have:=List.mem_filter.1 h
 exact ⟨this.1,by simpa using this.2⟩
theorem Afx {l:List Int} (h:∀ x ∈ l,0<=x):(Bg l).map El=lt 128 l:=by
 unfold Bg
 rw [List.map_map]
 refine (List.map_congr_left λx hx=>?_).trans (List.map_id _)
 have:=Adh hx
 have h0:=h x this.1
 show ((UInt8.ofNat x.toNat).toNat:Int)=x
 rw [UInt8.toNat_ofNat_of_lt' (by show x.toNat<256;omega)]
 omega
theorem Aps {l:List Int} (h:∀ x ∈ l,0<=x):∀ c ∈ Bg l,c.toNat<128:=by
 intro c hc
 unfold Bg at hc
 obtain ⟨x,hx,rfl⟩:=List.mem_map.1 hc
 have:=Adh hx
 have h0:=h x this.1
 rw [UInt8.toNat_ofNat_of_lt' (by show x.toNat<256;omega)]
 omega
theorem Vn {l:List Int} (h:Ag l=true):∀ x ∈ l,Ak x=true:=by
 unfold Ag at h
 rwa [List.all_eq_true] at h
theorem R7 {l:List Int} (h:Ag l=true):∀ x ∈ l,0<=x:=λx hx=>((Al x).1 (Vn h x hx)).1
theorem G6 {l:List Int} (h:∀ x ∈ l,x<1114112):∀ d ∈ Fz l,0<=d:=Mn l _ _ _ (Ll l h) (by decide)
theorem Ly {l:List Int} (h:Ag l=true):(Gd (start (lt 128 l)) (Fz l)).out=l:=Yk l _ (Ll l (En h))
theorem Pq {l:List Int} (h:Ag l=true):(lt 128 l).length+(Fz l).length=l.length:=by
 have h1:=Pw (Fz l) (start (lt 128 l)) (Vs λx hx=>(Adh hx).2) (G6 (En h))
 rw [Ly h] at h1
 exact h1.symm
theorem Awm {bs:List UInt8} (h:∀ c ∈ bs,c.toNat<128):Uh bs=false:=by
 unfold Uh
 rw [List.any_eq_false]
 intro c hc
 have:=h c hc
 simp
 omega
theorem Amo {l:List Int} (h:Ag l=true):∀ c ∈ Bn l,c.toNat<128:=by
 intro c hc
 unfold Bn at hc
 rcases List.mem_append.1 hc with hc | hc
 ·rcases List.mem_append.1 hc with hc | hc
  ·exact Aps (R7 h) c hc
  ·unfold Jy at hc
   split at hc
   · cases hc
   · rw [List.mem_singleton] at hc;subst hc;decide
 ·exact (Tp _ _ _ (G6 (En h)) c hc).2
theorem Aou {l:List Int} (h:Ag l=true):Bi (Bn l)=(Bg l).length/\(Bn l).drop (Du (Bn l))=Cx (Fz l) 72 (lt 128 l).length true:=by
 have hno:=λc hc=>(Tp 72 (lt 128 l).length true (G6 (En h)) c hc).1
 have hpl:(Bg l).length=(lt 128 l).length:=by unfold Bg;rw [List.length_map]
 by_cases h0:(lt 128 l).length=0
 ·have hp:Bg l=[]:=List.eq_nil_of_length_eq_zero (by omega)
  have he:Bn l=Cx (Fz l) 72 (lt 128 l).length true:=by unfold Bn Jy;rw [hp,if_pos h0];rfl
  have hd:Bi (Bn l)=0:=by rw [he];exact Hn _ _ _ hno
  refine ⟨by rw [hd,hp];rfl,?_⟩
  unfold Du
  rw [hd,if_pos rfl,he,List.drop_zero]
 ·have he:Bn l=Bg l ++ [45] ++ Cx (Fz l) 72 (lt 128 l).length true:=by unfold Bn Jy;rw [if_neg h0]
  have hd:Bi (Bn l)=(Bg l).length:=by
   unfold Bi
   rw [he,Fy,Hn _ _ _ hno,Fy]
   rw [Ca,Ca,if_pos (by decide)]
   omega
  refine ⟨hd,?_⟩
  unfold Du
  rw [hd,if_neg (by omega),he]
  rw [show (Bg l).length+1=(Bg l ++ [45]).length by simp,List.drop_left]
theorem Acp {l:List Int} (h:Ag l=true) (hn:l.length<=110):Hp (Bn l)=some l:=by
 obtain ⟨h1,h2⟩:=Aou h
 have hl:=Pq h
 have htk:(Bn l).take (Bg l).length=Bg l:=by unfold Bn;rw [List.append_assoc,List.take_left]
 have hfu:(Fz l).length<=(Bn l).length:=by
  have:(Cx (Fz l) 72 (lt 128 l).length true).length<=(Bn l).length:=by unfold Bn;rw [List.length_append];omega
  have h3:=Q4 (Fz l) 72 (lt 128 l).length true
  unfold Cx at this
  rw [List.length_map] at this
  omega
 unfold Hp
 rw [Awm (Amo h),if_neg (by decide),h2,h1,htk,Afx (R7 h)]
 have key:=Z6 (Fz l) (start (lt 128 l)) 72 true (Bn l).length (G6 (En h)) (show (0:Int)<=128 by decide) (Int.le_refl 0) (by show (lt 128 l).length+_<=112;omega) (by rw [Ly h];exact Vn h) hfu
 rw [Ly h] at key
 exact key
theorem Rt:∀ (fuel:Nat) (bs:List UInt8) (b:Int) (f:Bool) (r:Rd) (out:List Int),Lc fuel bs b f r=some out->128<=r.n->0<=r.i->(∀ x ∈ r.out,Ak x=true) ->
  ∃ ds:List Int,(∀ d ∈ ds,0<=d)/\out=(Gd r ds).out/\bs.map Lx=(emit adapt ds b r.out.length f).map some/\(∀ x ∈ out,Ak x=true)/\lt 128 out=lt 128 r.out
 | fuel,[],b,f,r,out,h,_,_,hr=>by
  have:some r.out=some out:=by cases fuel<;>exact h
  have:=Option.some.inj this
  subst this
  exact ⟨[],(λd hd=>by cases hd),rfl,rfl,hr,rfl⟩
 | 0,_::_,_,_,_,_,h,_,_,_=>by cases h
 | k+1,x::l,b,f,r,out,h,hn,hi,hr=>by
  cases hN:Hy b (x::l) 36 1 0 0 with
  | none=>rw [Aau hN] at h;cases h
  | some p =>
   obtain ⟨d,m⟩:=p
   cases hok:Gt r d with
   | false=>rw [Ahv hN hok] at h;cases h
   | true =>
    rw [Ru hN hok] at h
    obtain ⟨hd0,hm1,hml,hdig⟩:=Anf hN
    have hq:(Bv r d).n=r.n+(r.i+d) / (r.out.length+1):=rfl
    have hqn:0<=(r.i+d) / (r.out.length+1):=Int.ediv_nonneg (by omega) (by omega)
    have hm0:=Int.emod_nonneg (r.i+d) (b:=r.out.length+1) (by omega)
    have hnr:Ak (Bv r d).n=true:=by
     unfold Gt at hok
     rw [Bool.and_eq_true] at hok
     rw [hq]
     exact hok.2
    have hout:=N5 r d
    have hmem:∀ y ∈ (Bv r d).out,y=(Bv r d).n\/y ∈ r.out:=by
     intro y hy
     rw [hout] at hy
     rcases List.mem_append.1 hy with hy | hy
     ·exact .inr (List.mem_of_mem_take hy)
     ·rcases List.mem_cons.1 hy with hy | hy
      · exact .inl hy
      · exact .inr (List.mem_of_mem_drop hy)
    have hlt:lt 128 (Bv r d).out=lt 128 r.out:=by
     rw [hout]
     unfold lt
     rw [List.filter_append,List.filter_cons_of_neg (by simp;omega),<- List.filter_append,List.take_append_drop]
    obtain ⟨ds,h1,h2,h3,h4,h5⟩:=Rt k _ _ _ (Bv r d) out h (by omega) (by show 0<=(r.i+d) % (r.out.length+1)+1;omega) (λy hy=>by rcases hmem y hy with rfl | hy;exact hnr;exact hr y hy)
    refine ⟨d::ds,?_,h2,?_,h4,by rw [h5,hlt]⟩
    ·intro e he
     rcases List.mem_cons.1 he with rfl | he
     ·exact hd0
     ·exact h1 e he
    ·rw [Qs,List.map_append,<- hdig]
     rw [Z5] at h3
     rw [show ((r.out.length+1:Nat):Int)=(r.out.length:Int)+1 by omega] at h3
     rw [<- h3,<- List.map_append,List.take_append_drop]
theorem Qa {c:UInt8} {v:Int} (h:Lx c=some v):Mw c=Ja v:=by
 have hc:=Df c
 have hv:=Alw h
 have hd:=Qn (n:=v) (by omega)
 apply UInt8.toNat_inj.1
 unfold Lx valOf El at h
 unfold Pj at hd
 unfold Mw
 split at h
 ·have:=Option.some.inj h
  rw [if_neg (by omega)]
  split at hd<;>omega
 ·split at h
  ·have:=Option.some.inj h
   rw [if_pos (by omega),UInt8.toNat_ofNat_of_lt' (by show c.toNat+32<256;omega)]
   split at hd<;>omega
  ·split at h
   ·have:=Option.some.inj h
    rw [if_neg (by omega)]
    split at hd<;>omega
   ·cases h
theorem W7 {v:Int} (h:0<=v/\v<=35):Mw (Ja v)=Ja v:=Qa (Abp h)
theorem Ai9 {bs:List UInt8} {vs:List Int} (h:bs.map Lx=vs.map some):bs.map Mw=vs.map Ja:=by
 induction bs generalizing vs with
 | nil =>
  cases vs with
  | nil=>rfl
  | cons v vs=>cases h
 | cons c bs ih =>
  cases vs with
  | nil=>cases h
  | cons v vs =>
   rw [List.map_cons,List.map_cons] at h
   injection h with h1 h2
   rw [List.map_cons,List.map_cons,Qa h1,ih h2]
theorem Ac4 {bs:List UInt8} {l:List Int} (h:Hp bs=some l):Ag l=true/\(Bn l).map Mw=bs.map Mw/\l.length<=bs.length:=by
 unfold Hp at h
 cases hw:Uh bs with
 | true=>rw [hw] at h;cases h
 | false =>
  rw [hw,if_neg (by decide)] at h
  have hb:∀ c ∈ bs,c.toNat<128:=by
   intro c hc
   unfold Uh at hw
   rw [List.any_eq_false] at hw
   have:=hw c hc
   simp at this
   omega
  have hp:∀ x ∈ (bs.take (Bi bs)).map El,0<=x/\x<128:=by
   intro x hx
   obtain ⟨c,hc,rfl⟩:=List.mem_map.1 hx
   have:=hb c (List.mem_of_mem_take hc)
   unfold El
   omega
  obtain ⟨ds,h1,h2,h3,h4,h5⟩:=Rt _ _ _ _ _ _ h (Int.le_refl 128) (Int.le_refl 0) (λx hx=>(Al x).2 (by have:=hp x hx;omega))
  have hR:Ag l=true:=by unfold Ag;rw [List.all_eq_true];exact h4
  have hpl:lt 128 l=(bs.take (Bi bs)).map El:=by rw [h5];exact Aq2 λx hx=>(hp x hx).2
  have hds:Fz l=ds:=Aju (λx hx=>(hp x hx).2) h1 h2.symm hpl (Ll l (En hR))
  have hlen:(lt 128 l).length=(bs.take (Bi bs)).length:=by rw [hpl,List.length_map]
  have hpb:Bg l=bs.take (Bi bs):=by
   unfold Bg
   rw [hpl,List.map_map]
   refine (List.map_congr_left λc _=>?_).trans (List.map_id _)
   show UInt8.ofNat ((c.toNat:Int)).toNat=c
   rw [Int.toNat_natCast]
   exact UInt8.ofNat_toNat
  have hso:(start ((bs.take (Bi bs)).map El)).out.length=(lt 128 l).length:=by rw [hpl];rfl
  rw [hso] at h3
  have htl:(Cx (Fz l) 72 (lt 128 l).length true).map Mw=(bs.drop (Du bs)).map Mw:=by
   rw [Ai9 h3,hds]
   unfold Cx
   rw [List.map_map]
   exact List.map_congr_left λv hv=>W7 (Kp ds _ _ _ h1 v hv)
  have hdl:=Pq hR
  have hll:ds.length<=(bs.drop (Du bs)).length:=by
   have e1:=congrArg List.length h3
   rw [List.length_map,List.length_map] at e1
   have:=Q4 ds 72 (lt 128 l).length true
   omega
  refine ⟨hR,?_,?_⟩
  ·unfold Bn
   rw [List.map_append,htl,List.map_append,hpb]
   by_cases h0:Bi bs=0
   ·have:(lt 128 l).length=0:=by rw [hlen,h0];rfl
    unfold Jy Du
    rw [if_pos this,if_pos h0,h0]
    rfl
   ·have h7:¬ (lt 128 l).length=0:=by
     have:=Ki bs
     rw [hlen,List.length_take]
     omega
    unfold Jy Du
    rw [if_neg h7,if_neg h0,<- List.map_append,<- List.map_append,<- Al7 h0]
  ·have h8:=Aad bs
   have h9:=Ki bs
   rw [List.length_drop] at hll
   rw [List.length_take] at hlen
   rw [hds] at hdl
   unfold Du at hll h8
   split at hll<;>omega
end Puny
end
end Go.Proofs.YtppmbilonaflfaaGreatDoor
