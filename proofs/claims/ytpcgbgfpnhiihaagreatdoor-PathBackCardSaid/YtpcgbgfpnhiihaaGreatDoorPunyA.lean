import Derived.Test.YtpcgbgfpnhiihaaGreatDoorUtfA
namespace Go.Proofs.YtpcgbgfpnhiihaaGreatDoor
section
namespace Puny
def thr (k b:Int):Int:=max 1 (min 26 (k - b))
theorem Jq (k b:Int):1<=thr k b/\thr k b<=26:=by unfold thr;omega
theorem Au8 (k b:Int):thr k b<=thr (k+36) b:=by unfold thr;omega
def Ai4:Nat->Int->Int->Int->List Int
 | 0,_,_,_=>[]
 | f+1,n,k,b=>if n<thr k b then [n] else (thr k b+(n - thr k b) % (36 - thr k b))::Ai4 f ((n - thr k b) / (36 - thr k b)) (k+36) b
theorem less (n t:Int) (ht:1<=t) (ht':t<=26) (h:t<=n):0<=(n - t) / (36 - t)/\((n - t) / (36 - t)).toNat<n.toNat:=by
 have h0:0<=(n - t) / (36 - t):=Int.ediv_nonneg (by omega) (by omega)
 refine ⟨h0,?_⟩
 have h1:(n - t) / (36 - t)<=n - t:=Int.ediv_le_self _ (by omega)
 omega
theorem Z9:∀ (f g:Nat) (n k b:Int),0<=n->n.toNat<f->n.toNat<g->Ai4 f n k b=Ai4 g n k b
 | 0,_,_,_,_,_,h,_=>by omega
 | _,0,_,_,_,_,_,h=>by omega
 | f+1,g+1,n,k,b,hn,hf,hg=>by
  unfold Ai4
  have ht:=Jq k b
  split
  ·rfl
  ·rename_i h
   obtain ⟨h0,h1⟩:=less n (thr k b) ht.1 ht.2 (by omega)
   rw [Z9 f g _ (k+36) b h0 (by omega) (by omega)]
def digits (n k b:Int):List Int:=Ai4 (n.toNat+1) n k b
theorem Eu {n k b:Int} (h:n<thr k b):digits n k b=[n]:=by unfold digits Ai4;rw [if_pos h]
theorem F1 {n k b:Int} (h:thr k b<=n):digits n k b=(thr k b+(n - thr k b) % (36 - thr k b))::digits ((n - thr k b) / (36 - thr k b)) (k+36) b:=by
 have ht:=Jq k b
 obtain ⟨h0,h1⟩:=less n (thr k b) ht.1 ht.2 h
 unfold digits
 rw [Ai4,if_neg (by omega)]
 rw [Z9 n.toNat (((n - thr k b) / (36 - thr k b)).toNat+1) _ (k+36) b h0 h1 (by omega)]
def Fa:Int:=2147483647
def num (b:Int):List Int->Int->Int->Int->Nat->Option (Int × Nat)
 | [],_,_,_,_=>none
 | d::l,k,w,s,u=>if Fa<w\/Fa<s+d*w then none else if d<thr k b then some (s+d*w,u+1) else num b l (k+36) (w*(36 - thr k b)) (s+d*w) (u+1)
theorem parts (n t:Int) (ht:1<=t) (ht':t<=26):n=(t+(n - t) % (36 - t))+(36 - t)*((n - t) / (36 - t))/\t<=t+(n - t) % (36 - t)/\t+(n - t) % (36 - t)<36:=by
 have h1:=Int.emod_add_mul_ediv (n - t) (36 - t)
 have h2:=Int.emod_nonneg (n - t) (show 36 - t ≠ 0 by omega)
 have h3:=Int.emod_lt_of_pos (n - t) (show 0<36 - t by omega)
 omega
theorem Aa1 (w n d t q s:Int) (h:n=d+(36 - t)*q):s+n*w=(s+d*w)+q*(w*(36 - t)):=by
 subst h
 rw [Int.add_mul,<- Int.add_assoc]
 congr 1
 rw [Int.mul_comm (36 - t) q,Int.mul_assoc,Int.mul_comm (36 - t) w]
theorem Ad7 (w t N:Int) (hN:N<=126322567) (ht:2<=t) (ht':t<=26) (h:t*w<=N):w*(36 - t)<=Fa:=by
 unfold Fa
 have hc:t=2\/t=3\/t=4\/t=5\/t=6\/t=7\/t=8\/t=9\/t=10\/t=11\/t=12\/t=13\/t=14\/t=15\/t=16\/t=17\/t=18\/t=19\/t=20\/t=21\/t=22\/t=23\/t=24\/t=25\/t=26:=by omega
 rcases hc with rfl | rfl | rfl | rfl | rfl | rfl | rfl | rfl | rfl | rfl | rfl | rfl | rfl | rfl | rfl | rfl | rfl | rfl | rfl | rfl | rfl | rfl | rfl | rfl | rfl<;>omega
theorem Ale:∀ (j:Nat),(35:Int) ^ j<=126322567->(35:Int) ^ (j+1)<=Fa
 | 0,_=>by decide
 | 1,_=>by decide
 | 2,_=>by decide
 | 3,_=>by decide
 | 4,_=>by decide
 | 5,_=>by decide
 | j+6,h=>by
  exfalso
  have h1:(1:Int)<=35 ^ j:=Int.pow_pos (by decide)
  have h2:(35:Int) ^ (j+6)=35 ^ j*1838265625:=by rw [Int.pow_add];rfl
  rw [h2] at h
  have:(1838265625:Int)<=35 ^ j*1838265625:=by
   have:=Int.mul_le_mul_of_nonneg_right h1 (show (0:Int)<=1838265625 by decide)
   omega
  omega
theorem Xb (b N:Int) (hN:N<=126322567):∀ (f:Nat) (n k w s:Int) (u:Nat) (rest:List Int),n.toNat<f->0<=n->1<=w->0<=s->s+n*w<=N->w<=Fa->(thr k b=1->∃ j:Nat,w=35 ^ j) ->
  num b (digits n k b ++ rest) k w s u=some (s+n*w,u+(digits n k b).length)
 | 0,_,_,_,_,_,_,hf,_,_,_,_,_,_=>by omega
 | f+1,n,k,w,s,u,rest,hf,hn,hw,hs,hsum,hwl,hpow=>by
  have ht:=Jq k b
  have hlim:(N:Int)<=Fa:=by unfold Fa;omega
  by_cases h:n<thr k b
  ·rw [Eu h]
   simp only [List.cons_append,List.nil_append,num]
   rw [if_neg (by omega),if_pos h]
   rfl
  ·have h':thr k b<=n:=by omega
   obtain ⟨q0,q1⟩:=less n (thr k b) ht.1 ht.2 h'
   obtain ⟨p1,p2,p3⟩:=parts n (thr k b) ht.1 ht.2
   rw [F1 h']
   generalize hd:thr k b+(n - thr k b) % (36 - thr k b)=d at p1 p2 p3 ⊢
   generalize hq:(n - thr k b) / (36 - thr k b)=q at p1 q0 q1 ⊢
   have e:=Aa1 w n d (thr k b) q s p1
   have hw':1<=w*(36 - thr k b):=Int.mul_pos (by omega) (by omega)
   have hdw:0<=d*w:=Int.mul_nonneg (by omega) (by omega)
   have hqw:0<=q*(w*(36 - thr k b)):=Int.mul_nonneg q0 (by omega)
   have htw:thr k b*w<=N:=by
    have:=Int.mul_le_mul_of_nonneg_right h' (show 0<=w by omega)
    omega
   have hwn:w*(36 - thr k b)<=Fa:=by
    by_cases ht1:thr k b=1
    ·obtain ⟨j,rfl⟩:=hpow ht1
     rw [ht1] at htw ⊢
     have:=Ale j (by omega)
     rw [Int.pow_succ] at this
     exact this
    ·exact Ad7 w (thr k b) N hN (by omega) ht.2 htw
   have ih:=Xb b N hN f q (k+36) (w*(36 - thr k b)) (s+d*w) (u+1) rest (by omega) q0 hw' (by omega) (by omega) hwn (λh1=>by
    have:=Au8 k b
    have ht1:thr k b=1:=by omega
    obtain ⟨j,rfl⟩:=hpow ht1
    exact ⟨j+1,by rw [ht1,Int.pow_succ];rfl⟩)
   simp only [List.cons_append,num]
   rw [if_neg (by omega),if_neg (by omega),ih,e]
   simp only [List.length_cons,Option.some.injEq,Prod.mk.injEq,true_and]
   omega
theorem Ago (b:Int):∀ (l:List Int) (k w s:Int) (u:Nat) (x:Int) (v:Nat),(∀ d ∈ l,0<=d/\d<36)->num b l k w s u=some (x,v) ->
  ∃ (n:Int) (m:Nat),0<=n/\x=s+n*w/\v=u+m/\m<=l.length/\1<=m/\l.take m=digits n k b
 | [],_,_,_,_,_,_,_,h=>by cases h
 | d::l,k,w,s,u,x,v,hl,h=>by
  have ht:=Jq k b
  have hd:=hl d (by simp)
  unfold num at h
  split at h
  ·cases h
  ·split at h
   ·rename_i hlt
    simp only [Option.some.injEq,Prod.mk.injEq] at h
    obtain ⟨rfl,rfl⟩:=h
    exact ⟨d,1,hd.1,rfl,rfl,by simp,Nat.le_refl _,by rw [Eu hlt];rfl⟩
   ·rename_i hge
    obtain ⟨q,m,hq,hx,hv,hm,hm1,htk⟩:=Ago b l _ _ _ _ _ _ (λy hy=>hl y (by simp [hy])) h
    have hpos:0<36 - thr k b:=by omega
    have hqt:0<=(36 - thr k b)*q:=Int.mul_nonneg (by omega) hq
    refine ⟨d+(36 - thr k b)*q,m+1,by omega,?_,by omega,by simp only [List.length_cons];omega,by omega,?_⟩
    ·rw [hx]
     exact (Aa1 w (d+(36 - thr k b)*q) d (thr k b) q s rfl).symm
    ·have e1:d+(36 - thr k b)*q - thr k b=(d - thr k b)+(36 - thr k b)*q:=by omega
     have e2:(d+(36 - thr k b)*q - thr k b) % (36 - thr k b)=d - thr k b:=by
      rw [e1,Int.add_mul_emod_self_left]
      exact Int.emod_eq_of_lt (by omega) (by omega)
     have e3:(d+(36 - thr k b)*q - thr k b) / (36 - thr k b)=q:=by
      rw [e1,Int.add_mul_ediv_left _ _ (by omega),Int.ediv_eq_zero_of_lt (by omega) (by omega)]
      omega
     rw [F1 (by omega),e2,e3,List.take_succ_cons,htk]
     congr 1
     omega
end Puny
end
section
namespace Puny
theorem Z8 (n k b:Int):digits n k b ≠ []:=by
 by_cases h:n<thr k b
 · rw [Eu h];simp
 · rw [F1 (by omega)];simp
def emit (ad:Int->Int->Bool->Int):List Int->Int->Int->Bool->List Int
 | [],_,_,_=>[]
 | d::ds,b,c,f=>digits d 36 b ++ emit ad ds (ad d (c+1) f) (c+1) false
end Puny
end
section
namespace Puny
structure Rd where
 out:List Int
 n:Int
 i:Int
def Bt (r:Rd) (d:Int):Rd :=
 ⟨r.out.insertIdx ((r.i+d) % (r.out.length+1)).toNat (r.n+(r.i+d) / (r.out.length+1)),r.n+(r.i+d) / (r.out.length+1),(r.i+d) % (r.out.length+1)+1⟩
def F9 (r:Rd) (ds:List Int):Rd:=ds.foldl Bt r
def row (m:Int):List Int->Int->List Int × Int
 | [],e=>([],e)
 | x::t,e=>if x<m then row m t (e+1) else if x=m then (e::(row m t 0).1,(row m t 0).2) else row m t e
def spot (r:Rd):Int:=r.n*(r.out.length+1)+r.i
def le (m:Int) (l:List Int):List Int:=l.filter λx=>decide (x<=m)
def lt (m:Int) (l:List Int):List Int:=l.filter λx=>decide (x<m)
theorem Va (m:Int) (p:List Int) (x:Int):le m (p ++ [x])=if x<=m then le m p ++ [x] else le m p:=by
 unfold le
 rw [List.filter_append]
 by_cases h:x<=m<;>simp [h]
theorem G9 (m:Int) (x:Int) (t:List Int):lt m (x::t)=if x<m then x::lt m t else lt m t:=by
 unfold lt
 by_cases h:x<m<;>simp [h]
theorem Aod (a b:List Int) (x:Int):(a ++ b).insertIdx a.length x=a ++ x::b:=by
 induction a with
 | nil=>simp
 | cons y a ih=>simpa using ih
theorem Aul (r:Rd) (a b:List Int) (m d:Int) (ho:r.out=a ++ b) (h:spot r+d=m*(r.out.length+1)+a.length):Bt r d=⟨a ++ m::b,m,a.length+1⟩:=by
 have hlen:r.out.length=a.length+b.length:=by rw [ho,List.length_append]
 have hc:(0:Int)<(r.out.length:Int)+1:=by omega
 have e:r.i+d=(a.length:Int)+((r.out.length:Int)+1)*(m - r.n):=by
  unfold spot at h
  rw [Int.mul_sub,Int.mul_comm _ m,Int.mul_comm _ r.n]
  omega
 have e1:(r.i+d) % ((r.out.length:Int)+1)=a.length:=by
  rw [e,Int.add_mul_emod_self_left]
  exact Int.emod_eq_of_lt (by omega) (by omega)
 have e2:(r.i+d) / ((r.out.length:Int)+1)=m - r.n:=by
  rw [e,Int.add_mul_ediv_left _ _ (by omega),Int.ediv_eq_zero_of_lt (by omega) (by omega)]
  omega
 unfold Bt
 rw [e1,e2,Int.toNat_natCast,show r.n+(m - r.n)=m by omega,ho,Aod]
theorem Adr (m:Int):∀ (t p:List Int) (e:Int) (r:Rd),r.out=le m p ++ lt m t->spot r+e=m*(r.out.length+1)+(le m p).length ->
  (F9 r (row m t e).1).out=le m (p ++ t)/\spot (F9 r (row m t e).1)+(row m t e).2=m*((le m (p ++ t)).length+1)+(le m (p ++ t)).length
 | [],p,e,r,ho,hs=>by
  have ho':r.out=le m p:=by rw [ho];simp [lt]
  rw [List.append_nil]
  show r.out=le m p/\spot r+e=_
  rw [hs,ho']
  exact ⟨rfl,rfl⟩
 | x::t,p,e,r,ho,hs=>by
  have hap:p ++ x::t=(p ++ [x]) ++ t:=by simp
  rw [hap]
  unfold row
  by_cases h1:x<m
  ·rw [if_pos h1]
   have hle:le m (p ++ [x])=le m p ++ [x]:=by rw [Va,if_pos (by omega)]
   refine Adr m t (p ++ [x]) (e+1) r ?_ ?_
   ·rw [ho,G9,if_pos h1,hle];simp
   ·rw [hle,List.length_append,<- Int.add_assoc,hs];simp;omega
  ·rw [if_neg h1]
   by_cases h2:x=m
   ·subst h2
    rw [if_pos rfl]
    have hle:le x (p ++ [x])=le x p ++ [x]:=by rw [Va,if_pos (by omega)]
    have ho2:r.out=le x p ++ lt x t:=by rw [ho,G9,if_neg h1]
    have hst:=Aul r (le x p) (lt x t) x e ho2 hs
    show (F9 (Bt r e) (row x t 0).1).out=_/\spot (F9 (Bt r e) (row x t 0).1)+(row x t 0).2=_
    rw [hst]
    refine Adr x t (p ++ [x]) 0 _ ?_ ?_
    ·rw [hle];simp
    ·unfold spot
     simp only [hle,List.length_append,List.length_cons,List.length_nil]
     omega
   ·rw [if_neg h2]
    have hle:le m (p ++ [x])=le m p:=by rw [Va,if_neg (by omega)]
    refine Adr m t (p ++ [x]) e r ?_ ?_
    ·rw [ho,G9,if_neg h1,hle]
    ·rw [hle,hs]
def rows (l:List Int):List Int->Int->Int->List Int
 | [],_,_=>[]
 | m::ms,n,e=>(row m l (e+(m - n)*((lt n l).length+1))).1 ++ rows l ms (m+1) ((row m l (e+(m - n)*((lt n l).length+1))).2+1)
def Vn (l:List Int):List Int->Int->Prop
 | [],n=>∀ x ∈ l,x<n
 | m::ms,n=>n<=m/\(∀ x ∈ l,x<n\/m<=x)/\Vn l ms (m+1)
theorem lt_next (l:List Int) (m:Int):lt (m+1) l=le m l:=by
 unfold lt le
 congr 1
 funext x
 rw [Bool.eq_iff_iff,decide_eq_true_eq,decide_eq_true_eq]
 omega
theorem Amh {l:List Int} {n m:Int} (hnm:n<=m) (h:∀ x ∈ l,x<n\/m<=x):lt m l=lt n l:=by
 unfold lt
 apply List.filter_congr
 intro x hx
 rw [Bool.eq_iff_iff,decide_eq_true_eq,decide_eq_true_eq]
 have:=h x hx
 omega
theorem Ath {l:List Int} {n:Int} (h:∀ x ∈ l,x<n):lt n l=l:=by
 unfold lt
 rw [List.filter_eq_self]
 intro x hx
 simpa using h x hx
theorem Ri (l:List Int):∀ (ms:List Int) (n e:Int) (r:Rd),Vn l ms n->r.out=lt n l->spot r+e=n*(r.out.length+1)->(F9 r (rows l ms n e)).out=l
 | [],n,e,r,hr,ho,_=>by
  show r.out=l
  rw [ho,Ath hr]
 | m::ms,n,e,r,hr,ho,hs=>by
  obtain ⟨h1,h2,h3⟩:=hr
  have hlt:=Amh h1 h2
  unfold rows
  rw [F9,List.foldl_append]
  have key:=Adr m l [] (e+(m - n)*((lt n l).length+1)) r (by rw [ho,hlt];simp [le]) (by
   rw [<- Int.add_assoc,hs,ho,Int.sub_mul]
   simp [le]
   omega)
  rw [List.nil_append] at key
  refine Ri l ms (m+1) _ _ h3 (by rw [lt_next];exact key.1) ?_
  have hk:=key.2
  have hl:=congrArg List.length key.1
  show spot (F9 r _)+(_+1)=(m+1)*((F9 r _).out.length+1)
  rw [hl,<- Int.add_assoc,hk,Int.add_mul]
  omega
theorem Nw:∀ (l:List Int) (k:Nat) (x:Int),k<=l.length->l.insertIdx k x=l.take k ++ x::l.drop k
 | _,0,_,_=>by simp
 | [],k+1,_,h=>by simp at h
 | y::l,k+1,x,h=>by
  have:=Nw l k x (by simpa using h)
  simpa using this
def Ts (r:Rd):Prop:=∃ A B:List Int,r.out=A ++ B/\r.i=A.length/\(∀ x ∈ A,x<=r.n)/\∀ x ∈ B,x<r.n
theorem Je {r:Rd} {d:Int} (h:Ts r) (hd:0<=d):∃ A B:List Int,(Bt r d).out=A ++ (Bt r d).n::B/\r.out=A ++ B/\(Bt r d).i=A.length+1/\(∀ x ∈ A,x<=(Bt r d).n)/\(∀ x ∈ B,x<(Bt r d).n) /\
  (Bt r d).n*(r.out.length+1)+A.length=spot r+d:=by
 obtain ⟨A,B,ho,hi,hA,hB⟩:=h
 have hlen:r.out.length=A.length+B.length:=by rw [ho,List.length_append]
 have hc:(0:Int)<(r.out.length:Int)+1:=by omega
 have hm0:=Int.emod_nonneg (r.i+d) (show (r.out.length:Int)+1 ≠ 0 by omega)
 have hm1:=Int.emod_lt_of_pos (r.i+d) hc
 have hdm:=Int.emod_add_mul_ediv (r.i+d) ((r.out.length:Int)+1)
 have hq0:0<=(r.i+d) / ((r.out.length:Int)+1):=Int.ediv_nonneg (by omega) (by omega)
 generalize hk:((r.i+d) % ((r.out.length:Int)+1))=k at hm0 hm1 hdm
 generalize hq:((r.i+d) / ((r.out.length:Int)+1))=q at hq0 hdm
 have hall:∀ x ∈ r.out,x<=r.n:=by
  intro x hx
  rw [ho,List.mem_append] at hx
  rcases hx with hx | hx
  ·exact hA x hx
  ·have:=hB x hx;omega
 have hst:Bt r d=⟨r.out.take k.toNat ++ (r.n+q)::r.out.drop k.toNat,r.n+q,k+1⟩:=by
  unfold Bt
  rw [hk,hq,Nw _ _ _ (by omega)]
 rw [hst]
 refine ⟨r.out.take k.toNat,r.out.drop k.toNat,rfl,(List.take_append_drop _ _).symm,?_,λx hx=>?_,λx hx=>?_,?_⟩
 ·simp only [List.length_take];omega
 ·have:=hall x (List.mem_of_mem_take hx)
  simp only;omega
 ·simp only
  by_cases hq1:1<=q
  ·have:=hall x (List.mem_of_mem_drop hx)
   omega
  ·have hqz:q=0:=by omega
   subst hqz
   rw [Int.mul_zero] at hdm
   have hx':x ∈ B:=by
    rw [ho,List.drop_append] at hx
    rw [List.drop_of_length_le (by omega),List.nil_append] at hx
    exact List.mem_of_mem_drop hx
   have:=hB x hx'
   omega
 ·simp only [List.length_take,spot]
  rw [Int.add_mul,show ((min k.toNat r.out.length:Nat):Int)=k by omega]
  have:((r.out.length:Int)+1)*q=q*((r.out.length:Int)+1):=Int.mul_comm _ _
  omega
theorem Aat {r:Rd} {d:Int} (h:Ts r) (hd:0<=d):Ts (Bt r d):=by
 obtain ⟨A,B,h1,-,h3,h4,h5,-⟩:=Je h hd
 refine ⟨A ++ [(Bt r d).n],B,by rw [h1];simp,by rw [h3];simp,λx hx=>?_,h5⟩
 rw [List.mem_append,List.mem_singleton] at hx
 rcases hx with hx | rfl
 · exact h4 x hx
 · exact Int.le_refl _
theorem Ww:∀ {ds:List Int} {r:Rd},Ts r->(∀ d ∈ ds,0<=d)->Ts (F9 r ds)
 | [],_,h,_=>h
 | d::ds,r,h,hd=>Ww (ds:=ds) (Aat h (hd d (by simp))) λx hx=>hd x (by simp [hx])
theorem Rc:∀ (ds:List Int) (r:Rd),Ts r->(∀ d ∈ ds,0<=d)->(F9 r ds).out.length=r.out.length+ds.length
 | [],_,_,_=>rfl
 | d::ds,r,h,hd=>by
  have h0:=hd d (by simp)
  obtain ⟨A,B,h1,h2,-⟩:=Je h h0
  have:=Rc ds (Bt r d) (Aat h h0) λx hx=>hd x (by simp [hx])
  show (F9 (Bt r d) ds).out.length=_
  rw [this,h1,h2]
  simp only [List.length_append,List.length_cons]
  omega
theorem As7 {A B A' B':List Int} {n n':Int} (h:A ++ n::B=A' ++ n'::B') (hA:∀ x ∈ A,x<=n) (hB:∀ x ∈ B,x<n) (hA':∀ x ∈ A',x<=n') (hB':∀ x ∈ B',x<n'):A=A'/\n=n'/\B=B':=by
 have hn:n=n':=by
  have h1:n ∈ A' ++ n'::B':=by rw [<- h];simp
  have h2:n' ∈ A ++ n::B:=by rw [h];simp
  rw [List.mem_append,List.mem_cons] at h1 h2
  have g1:n<=n':=by
   rcases h1 with h1 | h1 | h1
   · exact hA' n h1
   · omega
   · have:=hB' n h1;omega
  have g2:n'<=n:=by
   rcases h2 with h2 | h2 | h2
   · exact hA n' h2
   · omega
   · have:=hB n' h2;omega
  omega
 subst hn
 rcases List.append_eq_append_iff.1 h with ⟨C,rfl,hC⟩ | ⟨C,rfl,hC⟩
 ·cases C with
  | nil=>simp at hC;simp [hC]
  | cons y C =>
   simp only [List.cons_append,List.cons.injEq] at hC
   exfalso
   have:=hB n (by rw [hC.2];simp)
   omega
 ·cases C with
  | nil=>simp at hC;simp [hC]
  | cons y C =>
   simp only [List.cons_append,List.cons.injEq] at hC
   exfalso
   have:=hB' n (by rw [hC.2];simp)
   omega
theorem Ag6 {r:Rd} (hr:Ts r):∀ (k:Nat) (ds es:List Int),ds.length=k->es.length=k->(∀ d ∈ ds,0<=d)->(∀ d ∈ es,0<=d)->(F9 r ds).out=(F9 r es).out->ds=es
 | 0,ds,es,h1,h2,_,_,_=>by rw [List.eq_nil_of_length_eq_zero h1,List.eq_nil_of_length_eq_zero h2]
 | k+1,ds,es,h1,h2,hd,he,h=>by
  rcases List.eq_nil_or_concat ds with rfl | ⟨ds,d,rfl⟩
  ·simp at h1
  rcases List.eq_nil_or_concat es with rfl | ⟨es,e,rfl⟩
  ·simp at h2
  simp only [List.concat_eq_append,List.length_append,List.length_cons,List.length_nil,List.mem_append,List.mem_singleton] at h1 h2 hd he h ⊢
  have kd:=Ww (r:=r) (ds:=ds) hr λx hx=>hd x (.inl hx)
  have ke:=Ww (r:=r) (ds:=es) hr λx hx=>he x (.inl hx)
  have ed:F9 r (ds ++ [d])=Bt (F9 r ds) d:=by unfold F9;rw [List.foldl_append];rfl
  have ee:F9 r (es ++ [e])=Bt (F9 r es) e:=by unfold F9;rw [List.foldl_append];rfl
  rw [ed,ee] at h
  obtain ⟨A,B,a1,a2,-,a4,a5,a6⟩:=Je kd (hd d (.inr rfl))
  obtain ⟨A',B',b1,b2,-,b4,b5,b6⟩:=Je ke (he e (.inr rfl))
  rw [a1,b1] at h
  obtain ⟨rfl,hn,rfl⟩:=As7 h a4 a5 b4 b5
  have hout:(F9 r ds).out=(F9 r es).out:=by rw [a2,b2]
  obtain rfl:=Ag6 hr k ds es (by omega) (by omega) (λx hx=>hd x (.inl hx)) (λx hx=>he x (.inl hx)) hout
  have hde:d=e:=by
   rw [<- hn] at b6
   omega
  rw [hde]
theorem Li (m:Int):∀ (t:List Int) (e:Int),0<=e->(∀ d ∈ (row m t e).1,0<=d)/\0<=(row m t e).2
 | [],_,h=>⟨(λd hd=>by cases hd),h⟩
 | x::t,e,h=>by
  unfold row
  split
  ·exact Li m t (e+1) (by omega)
  ·split
   ·obtain ⟨h1,h2⟩:=Li m t 0 (by omega)
    refine ⟨λd hd=>?_,h2⟩
    rcases List.mem_cons.1 hd with rfl | hd
    · exact h
    · exact h1 d hd
   ·exact Li m t e h
theorem My (l:List Int):∀ (ms:List Int) (n e:Int),Vn l ms n->0<=e->∀ d ∈ rows l ms n e,0<=d
 | [],_,_,_,_=>λd hd=>by cases hd
 | m::ms,n,e,hr,he=>by
  obtain ⟨h1,-,h3⟩:=hr
  have h0:0<=e+(m - n)*((lt n l).length+1):=by
   have:=Int.mul_nonneg (show 0<=m - n by omega) (show (0:Int)<=((lt n l).length:Int)+1 by omega)
   omega
  obtain ⟨g1,g2⟩:=Li m l _ h0
  intro d hd
  unfold rows at hd
  rw [List.mem_append] at hd
  rcases hd with hd | hd
  ·exact g1 d hd
  ·exact My l ms (m+1) _ h3 (by omega) d hd
def start (p:List Int):Rd:=⟨p,128,0⟩
theorem Yc {p:List Int} (h:∀ x ∈ p,x<128):Ts (start p):=⟨[],p,rfl,rfl,(λx hx=>by cases hx),h⟩
theorem Yv (l ms:List Int) (h:Vn l ms 128):(F9 (start (lt 128 l)) (rows l ms 128 0)).out=l :=
 Ri l ms 128 0 _ h rfl (by simp [spot,start])
theorem Ako {p ds l ms:List Int} (hp:∀ x ∈ p,x<128) (hd:∀ d ∈ ds,0<=d) (hl:(F9 (start p) ds).out=l) (hpl:lt 128 l=p) (h:Vn l ms 128):rows l ms 128 0=ds:=by
 have hk:=Yc hp
 have hw:=Yv l ms h
 rw [hpl] at hw
 have hn:=My l ms 128 0 h (by omega)
 have l1:=Rc (rows l ms 128 0) (start p) hk hn
 have l2:=Rc ds (start p) hk hd
 rw [hw] at l1
 rw [hl] at l2
 exact Ag6 hk ds.length _ _ (by omega) rfl hn hd (by rw [hw,hl])
end Puny
end
section
namespace Puny
def least (n:Int):List Int->Int->Int
 | [],m=>m
 | x::t,m=>least n t (if n<=x/\x<m then x else m)
theorem least_le (n:Int):∀ (l:List Int) (m:Int),least n l m<=m
 | [],m=>Int.le_refl _
 | x::t,m=>by
  unfold least
  have:=least_le n t (if n<=x/\x<m then x else m)
  split at this
  · rename_i h;rw [if_pos h];omega
  · rename_i h;rw [if_neg h];exact this
theorem Sr (n:Int):∀ (l:List Int) (m:Int),∀ x ∈ l,n<=x->least n l m<=x
 | [],_,x,hx,_=>by cases hx
 | y::t,m,x,hx,hn=>by
  unfold least
  rcases List.mem_cons.1 hx with rfl | hx
  ·have:=least_le n t (if n<=x/\x<m then x else m)
   by_cases h:n<=x/\x<m
   · rw [if_pos h] at this ⊢;exact this
   · rw [if_neg h] at this ⊢;omega
  ·exact Sr n t _ x hx hn
theorem Wz (n:Int):∀ (l:List Int) (m:Int),least n l m=m\/(least n l m ∈ l/\n<=least n l m)
 | [],m=>.inl rfl
 | y::t,m=>by
  unfold least
  by_cases h:n<=y/\y<m
  ·rw [if_pos h]
   rcases Wz n t y with e | ⟨e1,e2⟩
   · exact .inr ⟨by rw [e];simp,by rw [e];exact h.1⟩
   · exact .inr ⟨by simp [e1],e2⟩
  ·rw [if_neg h]
   rcases Wz n t m with e | ⟨e1,e2⟩
   · exact .inl e
   · exact .inr ⟨by simp [e1],e2⟩
theorem Aav {n m:Int} (h:n<=m):∀ (l:List Int),(lt n l).length<=(lt m l).length
 | []=>Nat.le_refl _
 | x::t=>by
  have:=Aav h t
  rw [G9,G9]
  by_cases h1:x<n
  ·rw [if_pos h1,if_pos (by omega)];simp only [List.length_cons];omega
  ·rw [if_neg h1]
   split
   · simp only [List.length_cons];omega
   · exact this
theorem Mo {n m:Int} (h:n<=m):∀ (l:List Int),m ∈ l->(lt n l).length<(lt (m+1) l).length
 | [],hm=>by cases hm
 | x::t,hm=>by
  rw [G9,G9]
  rcases List.mem_cons.1 hm with rfl | hm
  ·rw [if_neg (by omega),if_pos (by omega),List.length_cons]
   have:=Aav (show n<=m+1 by omega) t
   omega
  ·have:=Mo h t hm
   by_cases h1:x<n
   ·rw [if_pos h1,if_pos (by omega)];simp only [List.length_cons];omega
   ·rw [if_neg h1]
    split
    · simp only [List.length_cons];omega
    · exact this
theorem Su (n:Int) (l:List Int):(lt n l).length<=l.length:=by unfold lt;exact List.length_filter_le _ _
theorem Ac8 {n:Int}:∀ {l:List Int},(lt n l).length=l.length->∀ x ∈ l,x<n
 | [],_,x,hx=>by cases hx
 | y::t,h,x,hx=>by
  rw [G9] at h
  have h0:=Su n t
  by_cases h1:y<n
  ·rw [if_pos h1] at h
   simp only [List.length_cons] at h
   rcases List.mem_cons.1 hx with rfl | hx
   · exact h1
   · exact Ac8 (by omega) x hx
  ·rw [if_neg h1,List.length_cons] at h
   omega
theorem Ami {n:Int}:∀ {l:List Int},(lt n l).length ≠ l.length->∃ x ∈ l,n<=x
 | [],h=>absurd rfl h
 | y::t,h=>by
  rw [G9] at h
  by_cases h1:y<n
  ·rw [if_pos h1] at h
   simp only [List.length_cons] at h
   obtain ⟨x,hx,hn⟩:=Ami (l:=t) (n:=n) (by omega)
   exact ⟨x,by simp [hx],hn⟩
  ·exact ⟨y,by simp,by omega⟩
def msF:Nat->List Int->Int->List Int
 | 0,_,_=>[]
 | f+1,l,n=>if (lt n l).length=l.length then [] else least n l 1114112::msF f l (least n l 1114112+1)
theorem Af4 {l:List Int} {n:Int} (hl:∀ x ∈ l,x<1114112) (h:(lt n l).length ≠ l.length):least n l 1114112 ∈ l/\n<=least n l 1114112/\∀ x ∈ l,x<n\/least n l 1114112<=x:=by
 obtain ⟨x,hx,hn⟩:=Ami h
 have h1:=Sr n l 1114112 x hx hn
 rcases Wz n l 1114112 with e | ⟨e1,e2⟩
 ·have:=hl x hx;omega
 ·refine ⟨e1,e2,λy hy=>?_⟩
  by_cases hy1:y<n
  · exact .inl hy1
  · exact .inr (Sr n l 1114112 y hy (by omega))
theorem Aa0:∀ (f:Nat) (l:List Int) (n:Int),(∀ x ∈ l,x<1114112)->l.length - (lt n l).length<=f->Vn l (msF f l n) n
 | 0,l,n,hl,hf=>by
  have:=Su n l
  exact Ac8 (by omega)
 | f+1,l,n,hl,hf=>by
  unfold msF
  by_cases h:(lt n l).length=l.length
  ·rw [if_pos h];exact Ac8 h
  ·rw [if_neg h]
   obtain ⟨h1,h2,h3⟩:=Af4 hl h
   have:=Mo h2 l h1
   exact ⟨h2,h3,Aa0 f l _ hl (by omega)⟩
def Fq (l:List Int):List Int:=rows l (msF l.length l 128) 128 0
theorem Ku (l:List Int) (hl:∀ x ∈ l,x<1114112):Vn l (msF l.length l 128) 128:=Aa0 _ _ _ hl (by omega)
theorem Qn (ad:Int->Int->Bool->Int) (d:Int) (ds:List Int) (b c:Int) (f:Bool):emit ad (d::ds) b c f=digits d 36 b ++ emit ad ds (ad d (c+1) f) (c+1) false:=rfl
def Fb (l ms:List Int) (m:Int) (t:List Int) (e:Int):List Int:=(row m t e).1 ++ rows l ms (m+1) ((row m t e).2+1)
theorem Akp (l ms:List Int) (m n e:Int):rows l (m::ms) n e=Fb l ms m l (e+(m - n)*((lt n l).length+1)):=rfl
theorem Apz {l ms:List Int} {m x:Int} {t:List Int} {e:Int} (h:x<m):Fb l ms m (x::t) e=Fb l ms m t (e+1):=by unfold Fb;rw [row,if_pos h]
theorem Ap1 {l ms:List Int} {m:Int} {t:List Int} {e:Int}:Fb l ms m (m::t) e=e::Fb l ms m t 0:=by
 unfold Fb
 rw [row,if_neg (by omega),if_pos rfl]
 rfl
theorem Ap0 {l ms:List Int} {m x:Int} {t:List Int} {e:Int} (h:m<x):Fb l ms m (x::t) e=Fb l ms m t e:=by unfold Fb;rw [row,if_neg (by omega),if_neg (by omega)]
theorem Aue (l ms:List Int) (m e:Int):Fb l ms m [] e=rows l ms (m+1) (e+1):=rfl
end Puny
end
section
open Go.RowKit
namespace Puny
def Ox (n:Int):Int:=if n<26 then 97+n else 22+n
def valOf (n:Int):Option Int:=if 97<=n/\n<=122 then some (n - 97) else if 65<=n/\n<=90 then some (n - 65) else if 48<=n/\n<=57 then some (n - 48+26) else none
def Gn:Nat->Int->Int->Int
 | 0,d,k=>k+36*d / (d+38)
 | f+1,d,k=>if 455<d then Gn f (d / 35) (k+36) else k+36*d / (d+38)
theorem Tt:∀ (f g:Nat) (d k:Int),0<=d->d.toNat<=f->d.toNat<=g->Gn f d k=Gn g d k
 | 0,0,_,_,_,_,_=>rfl
 | 0,g+1,d,k,h0,hf,_=>by unfold Gn;rw [if_neg (by omega)]
 | f+1,0,d,k,h0,_,hg=>by unfold Gn;rw [if_neg (by omega)]
 | f+1,g+1,d,k,h0,hf,hg=>by
  unfold Gn
  split
  · exact Tt f g _ _ (by omega) (by omega) (by omega)
  · rfl
def Uv (d k:Int):Int:=Gn d.toNat d k
theorem Ane {d k:Int} (h:455<d):Uv d k=Uv (d / 35) (k+36):=by
 unfold Uv
 obtain ⟨f,hf⟩:∃ f,d.toNat=f+1:=⟨d.toNat - 1,by omega⟩
 rw [hf,Gn,if_pos h]
 exact Tt _ _ _ _ (by omega) (by omega) (by omega)
theorem Anc {d k:Int} (h:¬ 455<d):Uv d k=k+36*d / (d+38):=by
 unfold Uv
 cases d.toNat with
 | zero=>rfl
 | succ f=>rw [Gn,if_neg h]
def adapt (delta count:Int) (first:Bool):Int:=Uv ((if first then delta / 700 else delta / 2)+(if first then delta / 700 else delta / 2) / count) 0
end Puny
namespace Puny
def Iw (n:Int):UInt8:=UInt8.ofNat (Ox n).toNat
theorem Qh {n:Int} (h:0<=n/\n<=35):((Iw n).toNat:Int)=Ox n:=by
 have h1:0<=Ox n/\Ox n<256:=by unfold Ox;split<;>omega
 unfold Iw
 rw [UInt8.toNat_ofNat',Nat.mod_eq_of_lt (by show (Ox n).toNat<256;omega)]
 omega
def Bx (n k b:Int):List UInt8:=(digits n k b).map Iw
theorem Acm {n k b:Int} (h:n<thr k b):Bx n k b=[Iw n]:=by unfold Bx;rw [Eu h];rfl
theorem Acn {n k b:Int} (h:thr k b<=n):Bx n k b=Iw (thr k b+(n - thr k b) % (36 - thr k b))::Bx ((n - thr k b) / (36 - thr k b)) (k+36) b:=by unfold Bx;rw [F1 h];rfl
end Puny
end
section
open Go.RowKit Utf
namespace Puny
theorem Zr:∀ (f:Nat) (d k:Int),0<=d->k<=Gn f d k/\Gn f d k<=k+d+36
 | 0,d,k,h=>by
  have h1:0<=36*d / (d+38):=Int.ediv_nonneg (by omega) (by omega)
  have h2:36*d / (d+38)<=36:=by
   have:=Int.ediv_le_ediv (c:=d+38) (by omega) (show 36*d<=36*(d+38) by omega)
   rwa [Int.mul_ediv_cancel _ (by omega)] at this
  unfold Gn
  omega
 | f+1,d,k,h=>by
  unfold Gn
  split
  ·have:=Zr f (d / 35) (k+36) (by omega)
   omega
  ·have h1:0<=36*d / (d+38):=Int.ediv_nonneg (by omega) (by omega)
   have h2:36*d / (d+38)<=36:=by
    have:=Int.ediv_le_ediv (c:=d+38) (by omega) (show 36*d<=36*(d+38) by omega)
    rwa [Int.mul_ediv_cancel _ (by omega)] at this
   omega
theorem Aef {delta count:Int} (first:Bool) (hd:0<=delta/\delta<=2147483647) (hc:1<=count):0<=adapt delta count first/\adapt delta count first<=5000000000:=by
 unfold adapt
 obtain ⟨d,hdd⟩:∃ d,d=(if first then delta / 700 else delta / 2):=⟨_,rfl⟩
 rw [<- hdd]
 have hb:0<=d/\d<=2147483647:=by rw [hdd];split<;>omega
 have hq0:0<=d / count:=Int.ediv_nonneg hb.1 (by omega)
 have hq1:d / count<=d:=Int.ediv_le_self _ hb.1
 have:=Zr (d+d / count).toNat (d+d / count) 0 (by omega)
 unfold Uv
 omega
def Cs (ds:List Int) (b c:Int) (f:Bool):List UInt8:=(emit adapt ds b c f).map Iw
theorem Abq (d:Int) (ds:List Int) (b c:Int) (f:Bool):Cs (d::ds) b c f=Bx d 36 b ++ Cs ds (adapt d (c+1) f) (c+1) false:=by
 unfold Cs Bx
 rw [Qn,List.map_append]
def Bc (l:List Int):List UInt8:=(lt 128 l).map λx=>UInt8.ofNat x.toNat
def Jy (l:List Int):List UInt8:=if (lt 128 l).length=0 then [] else [45]
def Bm (l:List Int):List UInt8:=Bc l ++ Jy l ++ Cs (Fq l) 72 (lt 128 l).length true
theorem Atm {f:Nat} {l:List Int} {n:Int} (h:(lt n l).length=l.length):msF f l n=[]:=by
 cases f with
 | zero=>rfl
 | succ f=>unfold msF;rw [if_pos h]
theorem Atn {f:Nat} {l:List Int} {n:Int} (h:(lt n l).length ≠ l.length):msF (f+1) l n=least n l 1114112::msF f l (least n l 1114112+1):=by rw [msF,if_neg h]
theorem Ajs (n x:Int) (t:List Int) (z:Int):least n (x::t) z=least n t (if n<=x/\x<z then x else z):=rfl
theorem Ayb (m:Int) (l:List Int):(le m l).length<=l.length:=by unfold le;exact List.length_filter_le _ _
theorem Awj (m:Int) (p:List Int) (x:Int):lt m (p ++ [x])=if x<m then lt m p ++ [x] else lt m p:=by
 unfold lt
 rw [List.filter_append]
 by_cases h:x<m<;>simp [h]
end Puny
def Arn (bs:List UInt8) (ok:Bool) (w:World) (e:Ending) (w':World):Prop:=e=.returned (.tuple #[.string ⟨bs.toArray⟩,.bool ok])/\Below w.heap.size w w'
theorem Xt {l:List Int} {k:Nat} (h:k<l.length) (hr:Af l=true):Ak l[k]! = true:=by
 unfold Af at hr
 rw [getElem!_pos l k h]
 exact List.all_eq_true.1 hr _ (List.getElem_mem h)
theorem Ef {l:List Int} (h:Af l=true):∀ x ∈ l,x<1114112:=λx hx=>by
 unfold Af at h
 have:=(Al x).1 (List.all_eq_true.1 h x hx)
 omega
end
section
open Go.RowKit Utf
namespace Puny
def Ed (c:UInt8):Int:=(c.toNat:Int)
def Hp (b:Int):List UInt8->Int->Int->Int->Nat->Option (Int × Nat)
 | [],_,_,_,_=>none
 | c::l,k,w,s,u=>match valOf (Ed c) with
  | none=>none
  | some d=>if Fa<w\/Fa<s+d*w then none else if d<thr k b then some (s+d*w,u+1) else Hp b l (k+36) (w*(36 - thr k b)) (s+d*w) (u+1)
theorem Yo {n d:Int} (h:valOf n=some d):0<=d/\d<=35:=by
 unfold valOf at h
 split at h
 ·have:=Option.some.inj h;omega
 ·split at h
  ·have:=Option.some.inj h;omega
  ·split at h
   · have:=Option.some.inj h;omega
   · cases h
def Aka (o:Option (Int × Nat)):Value:=match o with | none=>.tuple #[.int .i64 0,.int .i64 0] | some (x,u)=>.tuple #[.int .i64 x,.int .i64 u]
end Puny
end
section
open Go.RowKit Utf
namespace Puny
def Gt (r:Rd) (d:Int):Bool:=decide (r.i+d<=Fa) && Ak (r.n+(r.i+d) / (r.out.length+1))
def Kt:Nat->List UInt8->Int->Bool->Rd->Option (List Int)
 | _,[],_,_,r=>some r.out
 | 0,_::_,_,_,_=>none
 | k+1,x::l,b,f,r=>match Hp b (x::l) 36 1 0 0 with
  | none=>none
  | some (d,m)=>if Gt r d then Kt k ((x::l).drop m) (adapt d (r.out.length+1) f) false (Bt r d) else none
def Bw:List UInt8->Nat->Nat->Nat
 | [],_,a=>a
 | c::t,k,a=>Bw t (k+1) (if c.toNat=45 then k else a)
def Bf (bs:List UInt8):Nat:=Bw bs 0 0
def Us (bs:List UInt8):Bool:=bs.any λc=>decide (127<c.toNat)
def Dm (bs:List UInt8):Nat:=if Bf bs=0 then 0 else Bf bs+1
def Hi (bs:List UInt8):Option (List Int) :=
 if Us bs then none else Kt bs.length (bs.drop (Dm bs)) 72 true (start ((bs.take (Bf bs)).map Ed))
theorem Md:∀ (t:List UInt8) (k a:Nat),a<=k->Bw t k a<=k+t.length/\(Bw t k a=a\/Bw t k a<k+t.length)
 | [],k,a,h=>⟨by simpa [Bw] using h,.inl rfl⟩
 | c::t,k,a,h=>by
  unfold Bw
  split
  ·have:=Md t (k+1) k (by omega)
   simp only [List.length_cons]
   omega
  ·have:=Md t (k+1) a (by omega)
   simp only [List.length_cons]
   omega
theorem Jw (bs:List UInt8):Bf bs=0\/Bf bs<bs.length:=by
 have:=(Md bs 0 0 (Nat.le_refl _)).2
 unfold Bf
 omega
theorem Abp (bs:List UInt8):Dm bs<=bs.length:=by
 have:=Jw bs
 unfold Dm
 split<;>omega
theorem Vf (b:Int):∀ (l:List UInt8) (k w s:Int) (u:Nat) (x:Int) (v:Nat),Hp b l k w s u=some (x,v)->1<=w->0<=s->0<=x/\x<=Fa/\u+1<=v/\v<=u+l.length
 | [],_,_,_,_,_,_,h,_,_=>by cases h
 | c::l,k,w,s,u,x,v,h,hw,hs=>by
  unfold Hp at h
  cases hv:valOf (Ed c) with
  | none=>rw [hv] at h;cases h
  | some d =>
   rw [hv] at h
   simp only at h
   have hd:=Yo hv
   have ht:=Jq k b
   have h0:0<=d*w:=Int.mul_nonneg hd.1 (by omega)
   split at h
   ·cases h
   ·rename_i hlim
    split at h
    ·have:=Option.some.inj h
     injection this with e1 e2
     subst e1 e2
     simp only [List.length_cons]
     refine ⟨by omega,by omega,by omega,by omega⟩
    ·have h1:1<=w*(36 - thr k b):=by
      have:1*1<=w*(36 - thr k b):=Int.mul_le_mul hw (by omega) (by omega) (by omega)
      omega
     have:=Vf b l _ _ _ _ _ _ h h1 (by omega)
     simp only [List.length_cons]
     omega
theorem Z7 {k:Nat} {x:UInt8} {l:List UInt8} {b:Int} {f:Bool} {r:Rd} (h:Hp b (x::l) 36 1 0 0=none):Kt k (x::l) b f r=none:=by
 cases k with
 | zero=>rfl
 | succ k=>unfold Kt;rw [h]
theorem Aez {k:Nat} {x:UInt8} {l:List UInt8} {b:Int} {f:Bool} {r:Rd} {d:Int} {m:Nat} (h:Hp b (x::l) 36 1 0 0=some (d,m)) (ho:Gt r d=false):Kt k (x::l) b f r=none:=by
 cases k with
 | zero=>rfl
 | succ k=>unfold Kt;rw [h];simp [ho]
theorem Sd {k:Nat} {x:UInt8} {l:List UInt8} {b:Int} {f:Bool} {r:Rd} {d:Int} {m:Nat} (h:Hp b (x::l) 36 1 0 0=some (d,m)) (ho:Gt r d=true) :
  Kt (k+1) (x::l) b f r=Kt k ((x::l).drop m) (adapt d (r.out.length+1) f) false (Bt r d):=by
 rw [Kt,h];simp [ho]
theorem N8 (r:Rd) (d:Int):(Bt r d).out=r.out.take ((r.i+d) % (r.out.length+1)).toNat ++ ((Bt r d).n::r.out.drop ((r.i+d) % (r.out.length+1)).toNat):=by
 have h1:=Int.emod_nonneg (r.i+d) (b:=r.out.length+1) (by omega)
 have h2:=Int.emod_lt_of_pos (r.i+d) (b:=r.out.length+1) (by omega)
 unfold Bt
 exact Nw _ _ _ (by omega)
theorem Abg (r:Rd) (d:Int):(Bt r d).out.length=r.out.length+1:=by
 have h1:=Int.emod_nonneg (r.i+d) (b:=r.out.length+1) (by omega)
 have h2:=Int.emod_lt_of_pos (r.i+d) (b:=r.out.length+1) (by omega)
 rw [N8 r d,List.length_append,List.length_cons,List.length_take,List.length_drop]
 omega
end Puny
def Ux (o:Option (List Int)) (w:World) (e:Ending) (w':World):Prop :=
 ∃ A c,e=.returned (.tuple #[.slice A (o.getD []).length c,.bool o.isSome])/\Runes (.slice A (o.getD []).length c) (o.getD []) w'/\Below w.heap.size w w'
theorem Aqi (w:World):Runes (.slice none 0 0) [] w:=⟨none,0,rfl,Nat.le_refl _,λ_=>rfl,λh=>absurd h (by simp)⟩
theorem Wa {o:Option (List Int)} {w w':World} (h:o=none) (hb:Below w.heap.size w w'):Ux o w (.returned (.tuple #[.slice none 0 0,.bool false])) w':=by
 subst h
 exact ⟨none,0,rfl,Aqi _,hb⟩
theorem extract_drop (s:ByteArray) (k:Nat):(s.extract k s.size).data.toList=s.data.toList.drop k:=by
 rw [ByteArray.data_extract,Array.toList_extract,List.extract_eq_take_drop,List.take_of_length_le (by simp)]
end
section
open Go.RowKit Utf
end
section
open Go.RowKit Utf
namespace Puny
def Lv (c:UInt8):Option Int:=valOf (Ed c)
theorem Ai1 {n:Int} (h:0<=n/\n<=35):Ed (Iw n)=Ox n:=Qh h
theorem Abv {n:Int} (h:0<=n/\n<=35):Lv (Iw n)=some n:=by
 unfold Lv
 rw [Ai1 h]
 unfold Ox
 by_cases h1:n<26
 ·rw [if_pos h1]
  unfold valOf
  rw [if_pos (by omega)]
  congr 1
  omega
 ·rw [if_neg h1]
  unfold valOf
  rw [if_neg (by omega),if_neg (by omega),if_pos (by omega)]
  congr 1
  omega
theorem Sf:∀ (f:Nat) (n k b:Int),0<=n->n.toNat<f->∀ x ∈ digits n k b,0<=x/\x<=35
 | 0,_,_,_,_,h=>by omega
 | f+1,n,k,b,hn,hf=>by
  have ht:=Jq k b
  by_cases h:n<thr k b
  ·rw [Eu h]
   intro x hx
   rw [List.mem_singleton] at hx
   omega
  ·have hl:=less n (thr k b) ht.1 ht.2 (by omega)
   have hp:=parts n (thr k b) ht.1 ht.2
   rw [F1 (by omega)]
   intro x hx
   rcases List.mem_cons.1 hx with rfl | hx
   · omega
   · exact Sf f _ _ _ hl.1 (by omega) x hx
theorem Kv:∀ (ds:List Int) (b c:Int) (f:Bool),(∀ d ∈ ds,0<=d)->∀ x ∈ emit adapt ds b c f,0<=x/\x<=35
 | [],_,_,_,_=>λx hx=>by cases hx
 | d::ds,b,c,f,h=>by
  intro x hx
  rw [Qn] at hx
  rcases List.mem_append.1 hx with hx | hx
  · exact Sf (d.toNat+1) d 36 b (h d (by simp)) (by omega) x hx
  · exact Kv ds _ _ _ (λy hy=>h y (by simp [hy])) x hx
theorem Qm:∀ (ds:List Int) (b c:Int) (f:Bool),ds.length<=(emit adapt ds b c f).length
 | [],_,_,_=>Nat.le_refl _
 | d::ds,b,c,f=>by
  rw [Qn,List.length_append,List.length_cons]
  have:=Qm ds (adapt d (c+1) f) (c+1) false
  have:=List.length_pos_iff.2 (Z8 d 36 b)
  omega
theorem Agn (b:Int):∀ (vs:List Int) (k w s:Int) (u:Nat),(∀ x ∈ vs,0<=x/\x<=35)->Hp b (vs.map Iw) k w s u=num b vs k w s u
 | [],_,_,_,_,_=>rfl
 | x::vs,k,w,s,u,h=>by
  have hx:=Abv (h x (by simp))
  unfold Lv at hx
  have ih:=λk w s u=>Agn b vs k w s u (λy hy=>h y (by simp [hy]))
  rw [List.map_cons,Hp,num,hx]
  simp only [ih]
theorem Uf (b:Int):∀ (bs:List UInt8) (k w s:Int) (u:Nat) (x:Int) (v:Nat),Hp b bs k w s u=some (x,v) ->
  ∃ vs:List Int,(bs.take (v - u)).map Lv=vs.map some/\num b vs k w s u=some (x,v)/\u+vs.length=v
 | [],_,_,_,_,_,_,h=>by cases h
 | c::l,k,w,s,u,x,v,h=>by
  unfold Hp at h
  cases hv:valOf (Ed c) with
  | none=>rw [hv] at h;cases h
  | some d =>
   rw [hv] at h
   simp only at h
   split at h
   ·cases h
   ·rename_i hlim
    split at h
    ·rename_i ht
     have e:=Option.some.inj h
     injection e with e1 e2
     subst e1 e2
     refine ⟨[d],?_,?_,by simp⟩
     ·rw [show u+1 - u=1 by omega]
      simp [Lv,hv]
     ·rw [num,if_neg hlim,if_pos ht]
    ·rename_i ht
     obtain ⟨vs,h1,h2,h3⟩:=Uf b l _ _ _ _ _ _ h
     refine ⟨d::vs,?_,?_,by simp only [List.length_cons];omega⟩
     ·rw [show v - u=(v - (u+1))+1 by omega,List.take_succ_cons,List.map_cons,List.map_cons,h1]
      simp [Lv,hv]
     ·rw [num,if_neg hlim,if_neg ht,h2]
theorem Amy {c:UInt8} {d:Int} (h:Lv c=some d):0<=d/\d<36:=by have:=Yo h;omega
theorem Axg {bs:List UInt8} {vs:List Int} (h:bs.map Lv=vs.map some):∀ d ∈ vs,0<=d/\d<36:=by
 intro d hd
 have:some d ∈ bs.map Lv:=by rw [h];exact List.mem_map.2 ⟨d,hd,rfl⟩
 obtain ⟨c,-,hc⟩:=List.mem_map.1 this
 exact Amy hc
theorem Ao9 {b:Int} {bs:List UInt8} {d:Int} {m:Nat} (h:Hp b bs 36 1 0 0=some (d,m)):0<=d/\1<=m/\m<=bs.length/\(bs.take m).map Lv=(digits d 36 b).map some:=by
 have hb:=Vf b _ _ _ _ _ _ _ h (by decide) (by decide)
 obtain ⟨vs,h1,h2,h3⟩:=Uf b _ _ _ _ _ _ _ h
 rw [Nat.sub_zero] at h1
 obtain ⟨n,j,hn,hx,hv,hj,-,ht⟩:=Ago b vs 36 1 0 0 d m (Axg h1) h2
 obtain rfl:d=n:=by omega
 rw [List.take_of_length_le (by omega)] at ht
 rw [ht] at h1
 exact ⟨hn,by omega,by omega,h1⟩
theorem mem_insert {l:List Int} {k:Nat} {x y:Int} (hk:k<=l.length) (h:y ∈ l):y ∈ l.insertIdx k x:=by
 rw [Nw l k x hk]
 rw [<- List.take_append_drop k l] at h
 rcases List.mem_append.1 h with h | h
 · exact List.mem_append.2 (.inl h)
 · exact List.mem_append.2 (.inr (List.mem_cons_of_mem _ h))
theorem Aqf {r:Rd} {d:Int}:(Bt r d).n ∈ (Bt r d).out:=by rw [N8];simp
theorem Akw {r:Rd} {d y:Int} (h:y ∈ r.out):y ∈ (Bt r d).out:=by
 have h1:=Int.emod_nonneg (r.i+d) (b:=r.out.length+1) (by omega)
 have h2:=Int.emod_lt_of_pos (r.i+d) (b:=r.out.length+1) (by omega)
 exact mem_insert (by omega) h
theorem Aa9:∀ {ds:List Int} {r:Rd} {y:Int},y ∈ r.out->y ∈ (F9 r ds).out
 | [],_,_,h=>h
 | _::ds,_,_,h=>Aa9 (ds:=ds) (Akw h)
theorem Apv (r:Rd) (d:Int) (ds:List Int):F9 r (d::ds)=F9 (Bt r d) ds:=rfl
theorem Z6:∀ (ds:List Int) (r:Rd) (b:Int) (f:Bool) (fuel:Nat),(∀ d ∈ ds,0<=d)->0<=r.n->0<=r.i->r.out.length+ds.length<=112->(∀ x ∈ (F9 r ds).out,Ak x=true)->ds.length<=fuel ->
  Kt fuel (Cs ds b r.out.length f) b f r=some (F9 r ds).out
 | [],r,b,f,fuel,_,_,_,_,_,_=>by unfold Cs emit;cases fuel<;>rfl
 | d::ds,r,b,f,fuel,hd,hn,hi,hlen,hR,hf=>by
  obtain ⟨k,rfl⟩:∃ k,fuel=k+1:=⟨fuel - 1,by simp only [List.length_cons] at hf;omega⟩
  have hd0:=hd d (by simp)
  have hn1:=hR _ (Aa9 (ds:=ds) (Aqf (r:=r) (d:=d)))
  have hr1:=(Al _).1 hn1
  have hL:r.out.length<=111:=by simp only [List.length_cons] at hlen;omega
  have hq:(Bt r d).n=r.n+(r.i+d) / (r.out.length+1):=rfl
  have hdm:=Int.mul_ediv_add_emod (r.i+d) (r.out.length+1)
  have hm1:=Int.emod_lt_of_pos (r.i+d) (b:=r.out.length+1) (by omega)
  have hm0:=Int.emod_nonneg (r.i+d) (b:=r.out.length+1) (by omega)
  have hqb:(r.i+d) / (r.out.length+1)<=1114111:=by omega
  have hqn:0<=(r.i+d) / (r.out.length+1):=Int.ediv_nonneg (by omega) (by omega)
  have hmul:((r.out.length:Int)+1)*((r.i+d) / (r.out.length+1))<=112*1114111:=Int.mul_le_mul (by omega) hqb hqn (by decide)
  have hsum:r.i+d<=126322567:=by omega
  have hok:Gt r d=true:=by
   unfold Gt Fa
   rw [<- hq,hn1,decide_eq_true (by omega)]
   rfl
  have htl:Cs (d::ds) b r.out.length f=Bx d 36 b ++ Cs ds (adapt d ((r.out.length:Int)+1) f) ((r.out.length:Int)+1) false:=Abq _ _ _ _ _
  have hval:∀ x ∈ digits d 36 b ++ emit adapt ds (adapt d ((r.out.length:Int)+1) f) ((r.out.length:Int)+1) false,0<=x/\x<=35:=by
   intro x hx
   rcases List.mem_append.1 hx with hx | hx
   ·exact Sf (d.toNat+1) d 36 b hd0 (by omega) x hx
   ·exact Kv ds _ _ _ (λy hy=>hd y (by simp [hy])) x hx
  have hnum:Hp b (Cs (d::ds) b r.out.length f) 36 1 0 0=some (d,(Bx d 36 b).length):=by
   have h1:=Xb b 126322567 (by decide) (d.toNat+1) d 36 1 0 0 (emit adapt ds (adapt d ((r.out.length:Int)+1) f) ((r.out.length:Int)+1) false) (by omega) hd0 (by decide) (by decide) (by omega) (by decide) (λ_=>⟨0,rfl⟩)
   rw [<- Agn b _ _ _ _ _ hval] at h1
   rw [show Cs (d::ds) b r.out.length f=(digits d 36 b ++ emit adapt ds (adapt d ((r.out.length:Int)+1) f) ((r.out.length:Int)+1) false).map Iw from rfl,h1]
   simp [Bx]
  have hne:∃ x l,Cs (d::ds) b r.out.length f=x::l:=by
   cases hc:Cs (d::ds) b r.out.length f with
   | nil =>
    have h1:=congrArg List.length hc
    rw [htl,List.length_append] at h1
    have h2:(Bx d 36 b).length=(digits d 36 b).length:=by simp [Bx]
    have h3:=List.length_pos_iff.2 (Z8 d 36 b)
    simp only [List.length_nil] at h1
    omega
   | cons x l=>exact ⟨x,l,rfl⟩
  obtain ⟨x,l,hxl⟩:=hne
  have hdrop:(Cs (d::ds) b r.out.length f).drop (Bx d 36 b).length=Cs ds (adapt d ((r.out.length:Int)+1) f) ((r.out.length:Int)+1) false:=by rw [htl,List.drop_left]
  rw [hxl] at hnum hdrop ⊢
  rw [Sd hnum hok,hdrop,Apv]
  have hl2:=Abg r d
  have ih:=Z6 ds (Bt r d) (adapt d ((r.out.length:Int)+1) f) false k (λy hy=>hd y (by simp [hy])) (by omega) (by show 0<=(r.i+d) % (r.out.length+1)+1;omega) (by rw [hl2];simp only [List.length_cons] at hlen;omega) hR (by simp only [List.length_cons] at hf;omega)
  rw [hl2] at ih
  exact ih
end Puny
end
section
open Go.RowKit Utf
namespace Puny
def M8 (b:UInt8):UInt8:=if 65<=b.toNat/\b.toNat<=90 then UInt8.ofNat (b.toNat+32) else b
theorem Hh:∀ (t:List UInt8) (k a:Nat),(∀ c ∈ t,c.toNat ≠ 45)->Bw t k a=a
 | [],_,_,_=>rfl
 | c::t,k,a,h=>by
  unfold Bw
  rw [if_neg (h c (by simp)),Hh t _ _ λx hx=>h x (by simp [hx])]
theorem Fo:∀ (x y:List UInt8) (k a:Nat),Bw (x ++ y) k a=Bw y (k+x.length) (Bw x k a)
 | [],y,k,a=>rfl
 | c::x,y,k,a=>by
  rw [List.cons_append,Bw,Bw,Fo x y,List.length_cons]
  congr 1
  omega
theorem Mc:∀ (t:List UInt8) (k a:Nat),Bw t k a=a\/∃ j,Bw t k a=k+j/\∃ h:j<t.length,(t[j]).toNat=45
 | [],_,_=>.inl rfl
 | c::t,k,a=>by
  unfold Bw
  by_cases hc:c.toNat=45
  ·rw [if_pos hc]
   rcases Mc t (k+1) k with h | ⟨j,h1,h2,h3⟩
   · exact .inr ⟨0,by rw [h];rfl,by simp,hc⟩
   · exact .inr ⟨j+1,by rw [h1];omega,by simp only [List.length_cons];omega,by simpa using h3⟩
  ·rw [if_neg hc]
   rcases Mc t (k+1) a with h | ⟨j,h1,h2,h3⟩
   · exact .inl h
   · exact .inr ⟨j+1,by rw [h1];omega,by simp only [List.length_cons];omega,by simpa using h3⟩
theorem Alv {bs:List UInt8} (h:Bf bs ≠ 0):bs=bs.take (Bf bs) ++ [45] ++ bs.drop (Bf bs+1):=by
 rcases Mc bs 0 0 with h0 | ⟨j,h1,h2,h3⟩
 ·exact absurd h0 h
 ·have e:Bf bs=j:=by unfold Bf;rw [h1];omega
  have e45:bs[j]=45:=by
   apply UInt8.toNat_inj.1
   rw [h3]
   rfl
  rw [e]
  rw [List.append_assoc,List.singleton_append,<- e45,<- List.drop_eq_getElem_cons h2,List.take_append_drop]
theorem Ai0 {n:Int} (h:0<=n/\n<=35):(Iw n).toNat ≠ 45/\(Iw n).toNat<128:=by
 have:=Qh h
 unfold Ox at this
 split at this<;>omega
theorem Uq {ds:List Int} (b c:Int) (f:Bool) (h:∀ d ∈ ds,0<=d):∀ x ∈ Cs ds b c f,x.toNat ≠ 45/\x.toNat<128:=by
 intro x hx
 obtain ⟨v,hv,rfl⟩:=List.mem_map.1 hx
 exact Ai0 (Kv ds b c f h v hv)
theorem Ac9 {m:Int} {l:List Int} {x:Int} (h:x ∈ lt m l):x ∈ l/\x<m:=by
 unfold lt at h
 have:=List.mem_filter.1 h
 exact ⟨this.1,by simpa using this.2⟩
theorem Ag0 {l:List Int} (h:∀ x ∈ l,0<=x):(Bc l).map Ed=lt 128 l:=by
 unfold Bc
 rw [List.map_map]
 refine (List.map_congr_left λx hx=>?_).trans (List.map_id _)
 have:=Ac9 hx
 have h0:=h x this.1
 show ((UInt8.ofNat x.toNat).toNat:Int)=x
 rw [UInt8.toNat_ofNat_of_lt' (by show x.toNat<256;omega)]
 omega
theorem Api {l:List Int} (h:∀ x ∈ l,0<=x):∀ c ∈ Bc l,c.toNat<128:=by
 intro c hc
 unfold Bc at hc
 obtain ⟨x,hx,rfl⟩:=List.mem_map.1 hc
 have:=Ac9 hx
 have h0:=h x this.1
 rw [UInt8.toNat_ofNat_of_lt' (by show x.toNat<256;omega)]
 omega
theorem Xu {l:List Int} (h:Af l=true):∀ x ∈ l,Ak x=true:=by
 unfold Af at h
 rwa [List.all_eq_true] at h
theorem Te {l:List Int} (h:Af l=true):∀ x ∈ l,0<=x:=λx hx=>((Al x).1 (Xu h x hx)).1
theorem Gp {l:List Int} (h:∀ x ∈ l,x<1114112):∀ d ∈ Fq l,0<=d:=My l _ _ _ (Ku l h) (by decide)
theorem Me {l:List Int} (h:Af l=true):(F9 (start (lt 128 l)) (Fq l)).out=l:=Yv l _ (Ku l (Ef h))
theorem Ow {l:List Int} (h:Af l=true):(lt 128 l).length+(Fq l).length=l.length:=by
 have h1:=Rc (Fq l) (start (lt 128 l)) (Yc λx hx=>(Ac9 hx).2) (Gp (Ef h))
 rw [Me h] at h1
 exact h1.symm
theorem Axh {bs:List UInt8} (h:∀ c ∈ bs,c.toNat<128):Us bs=false:=by
 unfold Us
 rw [List.any_eq_false]
 intro c hc
 have:=h c hc
 simp
 omega
theorem Al5 {l:List Int} (h:Af l=true):∀ c ∈ Bm l,c.toNat<128:=by
 intro c hc
 unfold Bm at hc
 rcases List.mem_append.1 hc with hc | hc
 ·rcases List.mem_append.1 hc with hc | hc
  ·exact Api (Te h) c hc
  ·unfold Jy at hc
   split at hc
   · cases hc
   · rw [List.mem_singleton] at hc;subst hc;decide
 ·exact (Uq _ _ _ (Gp (Ef h)) c hc).2
theorem An5 {l:List Int} (h:Af l=true):Bf (Bm l)=(Bc l).length/\(Bm l).drop (Dm (Bm l))=Cs (Fq l) 72 (lt 128 l).length true:=by
 have hno:=λc hc=>(Uq 72 (lt 128 l).length true (Gp (Ef h)) c hc).1
 have hpl:(Bc l).length=(lt 128 l).length:=by unfold Bc;rw [List.length_map]
 by_cases h0:(lt 128 l).length=0
 ·have hp:Bc l=[]:=List.eq_nil_of_length_eq_zero (by omega)
  have he:Bm l=Cs (Fq l) 72 (lt 128 l).length true:=by unfold Bm Jy;rw [hp,if_pos h0];rfl
  have hd:Bf (Bm l)=0:=by rw [he];exact Hh _ _ _ hno
  refine ⟨by rw [hd,hp];rfl,?_⟩
  unfold Dm
  rw [hd,if_pos rfl,he,List.drop_zero]
 ·have he:Bm l=Bc l ++ [45] ++ Cs (Fq l) 72 (lt 128 l).length true:=by unfold Bm Jy;rw [if_neg h0]
  have hd:Bf (Bm l)=(Bc l).length:=by
   unfold Bf
   rw [he,Fo,Hh _ _ _ hno,Fo]
   rw [Bw,Bw,if_pos (by decide)]
   omega
  refine ⟨hd,?_⟩
  unfold Dm
  rw [hd,if_neg (by omega),he]
  rw [show (Bc l).length+1=(Bc l ++ [45]).length by simp,List.drop_left]
theorem Ack {l:List Int} (h:Af l=true) (hn:l.length<=110):Hi (Bm l)=some l:=by
 obtain ⟨h1,h2⟩:=An5 h
 have hl:=Ow h
 have htk:(Bm l).take (Bc l).length=Bc l:=by unfold Bm;rw [List.append_assoc,List.take_left]
 have hfu:(Fq l).length<=(Bm l).length:=by
  have:(Cs (Fq l) 72 (lt 128 l).length true).length<=(Bm l).length:=by unfold Bm;rw [List.length_append];omega
  have h3:=Qm (Fq l) 72 (lt 128 l).length true
  unfold Cs at this
  rw [List.length_map] at this
  omega
 unfold Hi
 rw [Axh (Al5 h),if_neg (by decide),h2,h1,htk,Ag0 (Te h)]
 have key:=Z6 (Fq l) (start (lt 128 l)) 72 true (Bm l).length (Gp (Ef h)) (show (0:Int)<=128 by decide) (Int.le_refl 0) (by show (lt 128 l).length+_<=112;omega) (by rw [Me h];exact Xu h) hfu
 rw [Me h] at key
 exact key
theorem R9:∀ (fuel:Nat) (bs:List UInt8) (b:Int) (f:Bool) (r:Rd) (out:List Int),Kt fuel bs b f r=some out->128<=r.n->0<=r.i->(∀ x ∈ r.out,Ak x=true) ->
  ∃ ds:List Int,(∀ d ∈ ds,0<=d)/\out=(F9 r ds).out/\bs.map Lv=(emit adapt ds b r.out.length f).map some/\(∀ x ∈ out,Ak x=true)/\lt 128 out=lt 128 r.out
 | fuel,[],b,f,r,out,h,_,_,hr=>by
  have:some r.out=some out:=by cases fuel<;>exact h
  have:=Option.some.inj this
  subst this
  exact ⟨[],(λd hd=>by cases hd),rfl,rfl,hr,rfl⟩
 | 0,_::_,_,_,_,_,h,_,_,_=>by cases h
 | k+1,x::l,b,f,r,out,h,hn,hi,hr=>by
  cases hN:Hp b (x::l) 36 1 0 0 with
  | none=>rw [Z7 hN] at h;cases h
  | some p =>
   obtain ⟨d,m⟩:=p
   cases hok:Gt r d with
   | false=>rw [Aez hN hok] at h;cases h
   | true =>
    rw [Sd hN hok] at h
    obtain ⟨hd0,hm1,hml,hdig⟩:=Ao9 hN
    have hq:(Bt r d).n=r.n+(r.i+d) / (r.out.length+1):=rfl
    have hqn:0<=(r.i+d) / (r.out.length+1):=Int.ediv_nonneg (by omega) (by omega)
    have hm0:=Int.emod_nonneg (r.i+d) (b:=r.out.length+1) (by omega)
    have hnr:Ak (Bt r d).n=true:=by
     unfold Gt at hok
     rw [Bool.and_eq_true] at hok
     rw [hq]
     exact hok.2
    have hout:=N8 r d
    have hmem:∀ y ∈ (Bt r d).out,y=(Bt r d).n\/y ∈ r.out:=by
     intro y hy
     rw [hout] at hy
     rcases List.mem_append.1 hy with hy | hy
     ·exact .inr (List.mem_of_mem_take hy)
     ·rcases List.mem_cons.1 hy with hy | hy
      · exact .inl hy
      · exact .inr (List.mem_of_mem_drop hy)
    have hlt:lt 128 (Bt r d).out=lt 128 r.out:=by
     rw [hout]
     unfold lt
     rw [List.filter_append,List.filter_cons_of_neg (by simp;omega),<- List.filter_append,List.take_append_drop]
    obtain ⟨ds,h1,h2,h3,h4,h5⟩:=R9 k _ _ _ (Bt r d) out h (by omega) (by show 0<=(r.i+d) % (r.out.length+1)+1;omega) (λy hy=>by rcases hmem y hy with rfl | hy;exact hnr;exact hr y hy)
    refine ⟨d::ds,?_,h2,?_,h4,by rw [h5,hlt]⟩
    ·intro e he
     rcases List.mem_cons.1 he with rfl | he
     ·exact hd0
     ·exact h1 e he
    ·rw [Qn,List.map_append,<- hdig]
     rw [Abg] at h3
     rw [show ((r.out.length+1:Nat):Int)=(r.out.length:Int)+1 by omega] at h3
     rw [<- h3,<- List.map_append,List.take_append_drop]
theorem Rm {c:UInt8} {v:Int} (h:Lv c=some v):M8 c=Iw v:=by
 have hc:=C7 c
 have hv:=Amy h
 have hd:=Qh (n:=v) (by omega)
 apply UInt8.toNat_inj.1
 unfold Lv valOf Ed at h
 unfold Ox at hd
 unfold M8
 split at h
 ·have:=Option.some.inj h
  rw [if_neg (by omega)]
  split at hd<;>omega
 ·split at h
  ·have:=Option.some.inj h
   rw [if_pos (by omega),UInt8.toNat_ofNat_of_lt' (by show c.toNat+32<256;omega)]
   split at hd<;>omega
  ·split at h
   ·have:=Option.some.inj h
    rw [if_neg (by omega)]
    split at hd<;>omega
   ·cases h
theorem X6 {v:Int} (h:0<=v/\v<=35):M8 (Iw v)=Iw v:=Rm (Abv h)
theorem Akz {bs:List UInt8} {vs:List Int} (h:bs.map Lv=vs.map some):bs.map M8=vs.map Iw:=by
 induction bs generalizing vs with
 | nil =>
  cases vs with
  | nil=>rfl
  | cons v vs=>cases h
 | cons c bs ih =>
  cases vs with
  | nil=>cases h
  | cons v vs =>
   rw [List.map_cons,List.map_cons] at h
   injection h with h1 h2
   rw [List.map_cons,List.map_cons,Rm h1,ih h2]
theorem Acs {bs:List UInt8} {l:List Int} (h:Hi bs=some l):Af l=true/\(Bm l).map M8=bs.map M8/\l.length<=bs.length:=by
 unfold Hi at h
 cases hw:Us bs with
 | true=>rw [hw] at h;cases h
 | false =>
  rw [hw,if_neg (by decide)] at h
  have hb:∀ c ∈ bs,c.toNat<128:=by
   intro c hc
   unfold Us at hw
   rw [List.any_eq_false] at hw
   have:=hw c hc
   simp at this
   omega
  have hp:∀ x ∈ (bs.take (Bf bs)).map Ed,0<=x/\x<128:=by
   intro x hx
   obtain ⟨c,hc,rfl⟩:=List.mem_map.1 hx
   have:=hb c (List.mem_of_mem_take hc)
   unfold Ed
   omega
  obtain ⟨ds,h1,h2,h3,h4,h5⟩:=R9 _ _ _ _ _ _ h (Int.le_refl 128) (Int.le_refl 0) (λx hx=>(Al x).2 (by have:=hp x hx;omega))
  have hR:Af l=true:=by unfold Af;rw [List.all_eq_true];exact h4
  have hpl:lt 128 l=(bs.take (Bf bs)).map Ed:=by rw [h5];exact Ath λx hx=>(hp x hx).2
  have hds:Fq l=ds:=Ako (λx hx=>(hp x hx).2) h1 h2.symm hpl (Ku l (Ef hR))
  have hlen:(lt 128 l).length=(bs.take (Bf bs)).length:=by rw [hpl,List.length_map]
  have hpb:Bc l=bs.take (Bf bs):=by
   unfold Bc
   rw [hpl,List.map_map]
   refine (List.map_congr_left λc _=>?_).trans (List.map_id _)
   show UInt8.ofNat ((c.toNat:Int)).toNat=c
   rw [Int.toNat_natCast]
   exact UInt8.ofNat_toNat
  have hso:(start ((bs.take (Bf bs)).map Ed)).out.length=(lt 128 l).length:=by rw [hpl];rfl
  rw [hso] at h3
  have htl:(Cs (Fq l) 72 (lt 128 l).length true).map M8=(bs.drop (Dm bs)).map M8:=by
   rw [Akz h3,hds]
   unfold Cs
   rw [List.map_map]
   exact List.map_congr_left λv hv=>X6 (Kv ds _ _ _ h1 v hv)
  have hdl:=Ow hR
  have hll:ds.length<=(bs.drop (Dm bs)).length:=by
   have e1:=congrArg List.length h3
   rw [List.length_map,List.length_map] at e1
   have:=Qm ds 72 (lt 128 l).length true
   omega
  refine ⟨hR,?_,?_⟩
  ·unfold Bm
   rw [List.map_append,htl,List.map_append,hpb]
   by_cases h0:Bf bs=0
   ·have:(lt 128 l).length=0:=by rw [hlen,h0];rfl
    unfold Jy Dm
    rw [if_pos this,if_pos h0,h0]
    rfl
   ·have h7:¬ (lt 128 l).length=0:=by
     have:=Jw bs
     rw [hlen,List.length_take]
     omega
    unfold Jy Dm
    rw [if_neg h7,if_neg h0,<- List.map_append,<- List.map_append,<- Alv h0]
  ·have h8:=Abp bs
   have h9:=Jw bs
   rw [List.length_drop] at hll
   rw [List.length_take] at hlen
   rw [hds] at hdl
   unfold Dm at hll h8
   split at hll<;>omega
end Puny
end
end Go.Proofs.YtpcgbgfpnhiihaaGreatDoor
