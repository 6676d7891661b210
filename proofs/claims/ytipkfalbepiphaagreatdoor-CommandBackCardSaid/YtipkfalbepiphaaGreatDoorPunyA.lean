import Derived.Test.YtipkfalbepiphaaGreatDoorUtfA
namespace Go.Proofs.YtipkfalbepiphaaGreatDoor
section
namespace Puny
def thr (k b:Int):Int:=max 1 (min 26 (k - b))
theorem Kv (k b:Int):1<=thr k b/\thr k b<=26:=by unfold thr;omega
theorem A18 (k b:Int):thr k b<=thr (k+36) b:=by unfold thr;omega
def Anf:Nat->Int->Int->Int->List Int
 | 0,_,_,_=>[]
 | f+1,n,k,b=>if n<thr k b then [n] else (thr k b+(n - thr k b) % (36 - thr k b))::Anf f ((n - thr k b) / (36 - thr k b)) (k+36) b
theorem less (n t:Int) (ht:1<=t) (ht':t<=26) (h:t<=n):0<=(n - t) / (36 - t)/\((n - t) / (36 - t)).toNat<n.toNat:=by
 have h0:0<=(n - t) / (36 - t):=Int.ediv_nonneg jO jO;refine ⟨h0,?_⟩;have h1:(n - t) / (36 - t)<=n - t:=Int.ediv_le_self _ jO;omega
theorem Acx:∀ (f g:Nat) (n k b:Int),0<=n->n.toNat<f->n.toNat<g->Anf f n k b=Anf g n k b
 | 0,_,_,_,_,_,h,_=>by omega
 | _,0,_,_,_,_,_,h=>by omega
 | f+1,g+1,n,k,b,hn,hf,hg=>by
  unfold Anf;have ht:=Kv k b;split
  ·rfl
  ·rename_i h
   obtain ⟨h0,h1⟩:=less n (thr k b) ht.1 ht.2 jO;rw [Acx f g _ (k+36) b h0 jO jO]
def digits (n k b:Int):List Int:=Anf (n.toNat+1) n k b
theorem Fb {n k b:Int} (h:n<thr k b):digits n k b=[n]:=by unfold digits Anf;rw [if_pos h]
theorem Gf {n k b:Int} (h:thr k b<=n):digits n k b=(thr k b+(n - thr k b) % (36 - thr k b))::digits ((n - thr k b) / (36 - thr k b)) (k+36) b:=by
 have ht:=Kv k b;obtain ⟨h0,h1⟩:=less n (thr k b) ht.1 ht.2 h;unfold digits;rw [Anf,if_neg jO];rw [Acx n.toNat (((n - thr k b) / (36 - thr k b)).toNat+1) _ (k+36) b h0 h1 jO]
def Fp:Int:=2147483647
def num (b:Int):List Int->Int->Int->Int->Nat->Option (Int × Nat)
 | [],_,_,_,_=>none
 | d::l,k,w,s,u=>if Fp<w\/Fp<s+d*w then none else if d<thr k b then some (s+d*w,u+1) else num b l (k+36) (w*(36 - thr k b)) (s+d*w) (u+1)
theorem parts (n t:Int) (ht:1<=t) (ht':t<=26):n=(t+(n - t) % (36 - t))+(36 - t)*((n - t) / (36 - t))/\t<=t+(n - t) % (36 - t)/\t+(n - t) % (36 - t)<36:=by
 have h1:=Int.emod_add_mul_ediv (n - t) (36 - t);have h2:=Int.emod_nonneg (n - t) (show 36 - t ≠ 0 by omega);have h3:=Int.emod_lt_of_pos (n - t) (show 0<36 - t by omega);omega
theorem Adx (w n d t q s:Int) (h:n=d+(36 - t)*q):s+n*w=(s+d*w)+q*(w*(36 - t)):=by
 subst h;rw [Int.add_mul,<- Int.add_assoc];congr 1;rw [Int.mul_comm (36 - t) q,Int.mul_assoc,Int.mul_comm (36 - t) w]
theorem Ahh (w t N:Int) (hN:N<=126322567) (ht:2<=t) (ht':t<=26) (h:t*w<=N):w*(36 - t)<=Fp:=by
 unfold Fp;have hc:t=2\/t=3\/t=4\/t=5\/t=6\/t=7\/t=8\/t=9\/t=10\/t=11\/t=12\/t=13\/t=14\/t=15\/t=16\/t=17\/t=18\/t=19\/t=20\/t=21\/t=22\/t=23\/t=24\/t=25\/t=26:=jO
 rcases hc with rfl | rfl | rfl | rfl | rfl | rfl | rfl | rfl | rfl | rfl | rfl | rfl | rfl | rfl | rfl | rfl | rfl | rfl | rfl | rfl | rfl | rfl | rfl | rfl | rfl<;>omega
theorem Ap8:∀ (j:Nat),(35:Int) ^ j<=126322567->(35:Int) ^ (j+1)<=Fp
 | 0,_=>by decide
 | 1,_=>by decide
 | 2,_=>by decide
 | 3,_=>by decide
 | 4,_=>by decide
 | 5,_=>by decide
 | j+6,h=>by
  exfalso;have h1:(1:Int)<=35 ^ j:=Int.pow_pos jD;have h2:(35:Int) ^ (j+6)=35 ^ j*1838265625:=by rw [Int.pow_add];rfl
  rw [h2] at h;have:(1838265625:Int)<=35 ^ j*1838265625:=by
   have:=Int.mul_le_mul_of_nonneg_right h1 (show (0:Int)<=1838265625 by decide);omega
  omega
theorem Zk (b N:Int) (hN:N<=126322567):∀ (f:Nat) (n k w s:Int) (u:Nat) (rest:List Int),n.toNat<f->0<=n->1<=w->0<=s->s+n*w<=N->w<=Fp->(thr k b=1->∃ j:Nat,w=35 ^ j) ->
  num b (digits n k b ++ rest) k w s u=some (s+n*w,u+(digits n k b).length)
 | 0,_,_,_,_,_,_,hf,_,_,_,_,_,_=>by omega
 | f+1,n,k,w,s,u,rest,hf,hn,hw,hs,hsum,hwl,hpow=>by
  have ht:=Kv k b;have hlim:(N:Int)<=Fp:=by unfold Fp;omega
  by_cases h:n<thr k b
  ·rw [Fb h];simp only [jah,List.nil_append,num];rw [if_neg jO,if_pos h];rfl
  ·have h':thr k b<=n:=jO
   obtain ⟨q0,q1⟩:=less n (thr k b) ht.1 ht.2 h';obtain ⟨p1,p2,p3⟩:=parts n (thr k b) ht.1 ht.2;rw [Gf h'];generalize hd:thr k b+(n - thr k b) % (36 - thr k b)=d at p1 p2 p3 ⊢;generalize hq:(n - thr k b) / (36 - thr k b)=q at p1 q0 q1 ⊢;have e:=Adx w n d (thr k b) q s p1;have hw':1<=w*(36 - thr k b):=Int.mul_pos jO jO;have hdw:0<=d*w:=Int.mul_nonneg jO jO;have hqw:0<=q*(w*(36 - thr k b)):=Int.mul_nonneg q0 jO;have htw:thr k b*w<=N:=by
    have:=Int.mul_le_mul_of_nonneg_right h' (show 0<=w by omega);omega
   have hwn:w*(36 - thr k b)<=Fp:=by
    by_cases ht1:thr k b=1
    ·obtain ⟨j,rfl⟩:=hpow ht1;rw [ht1] at htw ⊢;have:=Ap8 j jO;rw [Int.pow_succ] at this;exact this
    ·exact Ahh w (thr k b) N hN jO ht.2 htw
   have ih:=Zk b N hN f q (k+36) (w*(36 - thr k b)) (s+d*w) (u+1) rest jO q0 hw' jO jO hwn (λh1=>by
    have:=A18 k b;have ht1:thr k b=1:=jO
    obtain ⟨j,rfl⟩:=hpow ht1;exact ⟨j+1,by rw [ht1,Int.pow_succ];rfl⟩)
   simp only [jah,num];rw [if_neg jO,if_neg jO,ih,e];simp only [jac,Option.some.injEq,Prod.mk.injEq,true_and];omega
theorem Aki (b:Int):∀ (l:List Int) (k w s:Int) (u:Nat) (x:Int) (v:Nat),(∀ d ∈ l,0<=d/\d<36)->num b l k w s u=some (x,v) ->
  ∃ (n:Int) (m:Nat),0<=n/\x=s+n*w/\v=u+m/\m<=l.length/\1<=m/\l.take m=digits n k b
 | [],_,_,_,_,_,_,_,h=>by cases h
 | d::l,k,w,s,u,x,v,hl,h=>by
  have ht:=Kv k b;have hd:=hl d jS;unfold num at h;split at h
  ·cases h
  ·split at h
   ·rename_i hlt
    simp only [Option.some.injEq,Prod.mk.injEq] at h;obtain ⟨rfl,rfl⟩:=h;exact ⟨d,1,hd.1,rfl,rfl,by simp,jaa _,by rw [Fb hlt];rfl⟩
   ·rename_i hge
    obtain ⟨q,m,hq,hx,hv,hm,hm1,htk⟩:=Aki b l _ _ _ _ _ _ (λy hy=>hl y (by simp [hy])) h;have hpos:0<36 - thr k b:=jO
    have hqt:0<=(36 - thr k b)*q:=Int.mul_nonneg jO hq;refine ⟨d+(36 - thr k b)*q,m+1,by omega,?_,by omega,by simp only [jac];omega,by omega,?_⟩
    ·rw [hx];exact (Adx w (d+(36 - thr k b)*q) d (thr k b) q s rfl).symm
    ·have e1:d+(36 - thr k b)*q - thr k b=(d - thr k b)+(36 - thr k b)*q:=jO
     have e2:(d+(36 - thr k b)*q - thr k b) % (36 - thr k b)=d - thr k b:=by
      rw [e1,Int.add_mul_emod_self_left];exact Int.emod_eq_of_lt jO jO
     have e3:(d+(36 - thr k b)*q - thr k b) / (36 - thr k b)=q:=by
      rw [e1,Int.add_mul_ediv_left _ _ jO,Int.ediv_eq_zero_of_lt jO jO];omega
     rw [Gf jO,e2,e3,List.take_succ_cons,htk];congr 1;omega
end Puny
end
section
namespace Puny
theorem Acw (n k b:Int):digits n k b ≠ []:=by
 by_cases h:n<thr k b
 · rw [Fb h];simp
 · rw [Gf jO];simp
def emit (ad:Int->Int->Bool->Int):List Int->Int->Int->Bool->List Int
 | [],_,_,_=>[]
 | d::ds,b,c,f=>digits d 36 b ++ emit ad ds (ad d (c+1) f) (c+1) false
def parse (ad:Int->Int->Bool->Int):Nat->List Int->Int->Int->Bool->Option (List Int)
 | _,[],_,_,_=>some []
 | 0,_::_,_,_,_=>none
 | k+1,x::l,b,c,f=>match num b (x::l) 36 1 0 0 with
  | none=>none
  | some (d,m)=>(parse ad k ((x::l).drop m) (ad d (c+1) f) (c+1) false).map (d::·)
end Puny
end
section
namespace Puny
structure Rd where
 out:List Int
 n:Int
 i:Int
def Bv (r:Rd) (d:Int):Rd :=
 ⟨r.out.insertIdx ((r.i+d) % (r.out.length+1)).toNat (r.n+(r.i+d) / (r.out.length+1)),r.n+(r.i+d) / (r.out.length+1),(r.i+d) % (r.out.length+1)+1⟩
def Gl (r:Rd) (ds:List Int):Rd:=ds.foldl Bv r
def row (m:Int):List Int->Int->List Int × Int
 | [],e=>([],e)
 | x::t,e=>if x<m then row m t (e+1) else if x=m then (e::(row m t 0).1,(row m t 0).2) else row m t e
def spot (r:Rd):Int:=r.n*(r.out.length+1)+r.i
def le (m:Int) (l:List Int):List Int:=l.filter λx=>decide (x<=m)
def lt (m:Int) (l:List Int):List Int:=l.filter λx=>decide (x<m)
theorem Xa (m:Int) (p:List Int) (x:Int):le m (p ++ [x])=if x<=m then le m p ++ [x] else le m p:=by
 unfold le;rw [List.filter_append];by_cases h:x<=m<;>simp [h]
theorem Ia (m:Int) (x:Int) (t:List Int):lt m (x::t)=if x<m then x::lt m t else lt m t:=by
 unfold lt;by_cases h:x<m<;>simp [h]
theorem Att (a b:List Int) (x:Int):(a ++ b).insertIdx a.length x=a ++ x::b:=by
 induction a with
 | nil=>simp
 | cons y a ih=>simpa using ih
theorem A1g (r:Rd) (a b:List Int) (m d:Int) (ho:r.out=a ++ b) (h:spot r+d=m*(r.out.length+1)+a.length):Bv r d=⟨a ++ m::b,m,a.length+1⟩:=by
 have hlen:r.out.length=a.length+b.length:=by rw [ho,jab]
 have hc:(0:Int)<(r.out.length:Int)+1:=jO
 have e:r.i+d=(a.length:Int)+((r.out.length:Int)+1)*(m - r.n):=by
  unfold spot at h;rw [Int.mul_sub,Int.mul_comm _ m,Int.mul_comm _ r.n];omega
 have e1:(r.i+d) % ((r.out.length:Int)+1)=a.length:=by
  rw [e,Int.add_mul_emod_self_left];exact Int.emod_eq_of_lt jO jO
 have e2:(r.i+d) / ((r.out.length:Int)+1)=m - r.n:=by
  rw [e,Int.add_mul_ediv_left _ _ jO,Int.ediv_eq_zero_of_lt jO jO];omega
 unfold Bv;rw [e1,e2,Int.toNat_natCast,show r.n+(m - r.n)=m by omega,ho,Att]
theorem Agx (m:Int):∀ (t p:List Int) (e:Int) (r:Rd),r.out=le m p ++ lt m t->spot r+e=m*(r.out.length+1)+(le m p).length ->
  (Gl r (row m t e).1).out=le m (p ++ t)/\spot (Gl r (row m t e).1)+(row m t e).2=m*((le m (p ++ t)).length+1)+(le m (p ++ t)).length
 | [],p,e,r,ho,hs=>by
  have ho':r.out=le m p:=by rw [ho];simp [lt]
  rw [List.append_nil];show r.out=le m p/\spot r+e=_;rw [hs,ho'];exact ⟨rfl,rfl⟩
 | x::t,p,e,r,ho,hs=>by
  have hap:p ++ x::t=(p ++ [x]) ++ t:=by simp
  rw [hap];unfold row;by_cases h1:x<m
  ·rw [if_pos h1];have hle:le m (p ++ [x])=le m p ++ [x]:=by rw [Xa,if_pos jO]
   refine Agx m t (p ++ [x]) (e+1) r ?_ ?_
   ·rw [ho,Ia,if_pos h1,hle];simp
   ·rw [hle,jab,<- Int.add_assoc,hs];simp;omega
  ·rw [if_neg h1];by_cases h2:x=m
   ·subst h2;rw [if_pos rfl];have hle:le x (p ++ [x])=le x p ++ [x]:=by rw [Xa,if_pos jO]
    have ho2:r.out=le x p ++ lt x t:=by rw [ho,Ia,if_neg h1]
    have hst:=A1g r (le x p) (lt x t) x e ho2 hs;show (Gl (Bv r e) (row x t 0).1).out=_/\spot (Gl (Bv r e) (row x t 0).1)+(row x t 0).2=_;rw [hst];refine Agx x t (p ++ [x]) 0 _ ?_ ?_
    ·rw [hle];simp
    ·unfold spot;simp only [hle,jab,jac,List.length_nil];omega
   ·rw [if_neg h2];have hle:le m (p ++ [x])=le m p:=by rw [Xa,if_neg jO]
    refine Agx m t (p ++ [x]) e r ?_ ?_
    ·rw [ho,Ia,if_neg h1,hle]
    ·rw [hle,hs]
def rows (l:List Int):List Int->Int->Int->List Int
 | [],_,_=>[]
 | m::ms,n,e=>(row m l (e+(m - n)*((lt n l).length+1))).1 ++ rows l ms (m+1) ((row m l (e+(m - n)*((lt n l).length+1))).2+1)
def Xq (l:List Int):List Int->Int->Prop
 | [],n=>∀ x ∈ l,x<n
 | m::ms,n=>n<=m/\(∀ x ∈ l,x<n\/m<=x)/\Xq l ms (m+1)
theorem lt_next (l:List Int) (m:Int):lt (m+1) l=le m l:=by
 unfold lt le;congr 1
 funext x
 rw [Bool.eq_iff_iff,decide_eq_true_eq,decide_eq_true_eq];omega
theorem Arp {l:List Int} {n m:Int} (hnm:n<=m) (h:∀ x ∈ l,x<n\/m<=x):lt m l=lt n l:=by
 unfold lt;apply List.filter_congr;intro x hx;rw [Bool.eq_iff_iff,decide_eq_true_eq,decide_eq_true_eq];have:=h x hx;omega
theorem Az0 {l:List Int} {n:Int} (h:∀ x ∈ l,x<n):lt n l=l:=by
 unfold lt;rw [List.filter_eq_self];intro x hx;simpa using h x hx
theorem Sz (l:List Int):∀ (ms:List Int) (n e:Int) (r:Rd),Xq l ms n->r.out=lt n l->spot r+e=n*(r.out.length+1)->(Gl r (rows l ms n e)).out=l
 | [],n,e,r,hr,ho,_=>by
  show r.out=l;rw [ho,Az0 hr]
 | m::ms,n,e,r,hr,ho,hs=>by
  obtain ⟨h1,h2,h3⟩:=hr;have hlt:=Arp h1 h2;unfold rows;rw [Gl,List.foldl_append];have key:=Agx m l [] (e+(m - n)*((lt n l).length+1)) r (by rw [ho,hlt];simp [le]) (by
   rw [<- Int.add_assoc,hs,ho,Int.sub_mul];simp [le];omega)
  rw [List.nil_append] at key;refine Sz l ms (m+1) _ _ h3 (by rw [lt_next];exact key.1) ?_;have hk:=key.2;have hl:=congrArg List.length key.1;show spot (Gl r _)+(_+1)=(m+1)*((Gl r _).out.length+1);rw [hl,<- Int.add_assoc,hk,Int.add_mul];omega
theorem O8:∀ (l:List Int) (k:Nat) (x:Int),k<=l.length->l.insertIdx k x=l.take k ++ x::l.drop k
 | _,0,_,_=>by simp
 | [],k+1,_,h=>by simp at h
 | y::l,k+1,x,h=>by
  have:=O8 l k x (by simpa using h);simpa using this
def Vm (r:Rd):Prop:=∃ A B:List Int,r.out=A ++ B/\r.i=A.length/\(∀ x ∈ A,x<=r.n)/\∀ x ∈ B,x<r.n
theorem Kk {r:Rd} {d:Int} (h:Vm r) (hd:0<=d):∃ A B:List Int,(Bv r d).out=A ++ (Bv r d).n::B/\r.out=A ++ B/\(Bv r d).i=A.length+1/\(∀ x ∈ A,x<=(Bv r d).n)/\(∀ x ∈ B,x<(Bv r d).n) /\
  (Bv r d).n*(r.out.length+1)+A.length=spot r+d:=by
 obtain ⟨A,B,ho,hi,hA,hB⟩:=h;have hlen:r.out.length=A.length+B.length:=by rw [ho,jab]
 have hc:(0:Int)<(r.out.length:Int)+1:=jO
 have hm0:=Int.emod_nonneg (r.i+d) (show (r.out.length:Int)+1 ≠ 0 by omega);have hm1:=Int.emod_lt_of_pos (r.i+d) hc;have hdm:=Int.emod_add_mul_ediv (r.i+d) ((r.out.length:Int)+1);have hq0:0<=(r.i+d) / ((r.out.length:Int)+1):=Int.ediv_nonneg jO jO;generalize hk:((r.i+d) % ((r.out.length:Int)+1))=k at hm0 hm1 hdm;generalize hq:((r.i+d) / ((r.out.length:Int)+1))=q at hq0 hdm;have hall:∀ x ∈ r.out,x<=r.n:=by
  intro x hx;rw [ho,jap] at hx;rcases hx with hx | hx
  ·exact hA x hx
  ·have:=hB x hx;omega
 have hst:Bv r d=⟨r.out.take k.toNat ++ (r.n+q)::r.out.drop k.toNat,r.n+q,k+1⟩:=by
  unfold Bv;rw [hk,hq,O8 _ _ _ jO]
 rw [hst];refine ⟨r.out.take k.toNat,r.out.drop k.toNat,rfl,(List.take_append_drop _ _).symm,?_,λx hx=>?_,λx hx=>?_,?_⟩
 ·simp only [jak];omega
 ·have:=hall x (List.mem_of_mem_take hx);simp only;omega
 ·simp only;by_cases hq1:1<=q
  ·have:=hall x (List.mem_of_mem_drop hx);omega
  ·have hqz:q=0:=jO
   subst hqz;rw [Int.mul_zero] at hdm;have hx':x ∈ B:=by
    rw [ho,List.drop_append] at hx;rw [List.drop_of_length_le jO,List.nil_append] at hx;exact List.mem_of_mem_drop hx
   have:=hB x hx';omega
 ·simp only [jak,spot];rw [Int.add_mul,show ((min k.toNat r.out.length:Nat):Int)=k by omega];have:((r.out.length:Int)+1)*q=q*((r.out.length:Int)+1):=Int.mul_comm _ _;omega
theorem Adl {r:Rd} {d:Int} (h:Vm r) (hd:0<=d):Vm (Bv r d):=by
 obtain ⟨A,B,h1,-,h3,h4,h5,-⟩:=Kk h hd;refine ⟨A ++ [(Bv r d).n],B,by rw [h1];simp,by rw [h3];simp,λx hx=>?_,h5⟩;rw [jap,List.mem_singleton] at hx;rcases hx with hx | rfl
 · exact h4 x hx
 · exact Int.le_refl _
theorem Za:∀ {ds:List Int} {r:Rd},Vm r->(∀ d ∈ ds,0<=d)->Vm (Gl r ds)
 | [],_,h,_=>h
 | d::ds,r,h,hd=>Za (ds:=ds) (Adl h (hd d jS)) λx hx=>hd x (by simp [hx])
theorem Sv:∀ (ds:List Int) (r:Rd),Vm r->(∀ d ∈ ds,0<=d)->(Gl r ds).out.length=r.out.length+ds.length
 | [],_,_,_=>rfl
 | d::ds,r,h,hd=>by
  have h0:=hd d jS;obtain ⟨A,B,h1,h2,-⟩:=Kk h h0;have:=Sv ds (Bv r d) (Adl h h0) λx hx=>hd x (by simp [hx]);show (Gl (Bv r d) ds).out.length=_;rw [this,h1,h2];simp only [jab,jac];omega
theorem Azo {A B A' B':List Int} {n n':Int} (h:A ++ n::B=A' ++ n'::B') (hA:∀ x ∈ A,x<=n) (hB:∀ x ∈ B,x<n) (hA':∀ x ∈ A',x<=n') (hB':∀ x ∈ B',x<n'):A=A'/\n=n'/\B=B':=by
 have hn:n=n':=by
  have h1:n ∈ A' ++ n'::B':=by rw [<- h];simp
  have h2:n' ∈ A ++ n::B:=by rw [h];simp
  rw [jap,jal] at h1 h2;have g1:n<=n':=by
   rcases h1 with h1 | h1 | h1
   · exact hA' n h1
   · omega
   · have:=hB' n h1;omega
  have g2:n'<=n:=by
   rcases h2 with h2 | h2 | h2
   · exact hA n' h2
   · omega
   · have:=hB n' h2;omega
  omega
 subst hn;rcases List.append_eq_append_iff.1 h with ⟨C,rfl,hC⟩ | ⟨C,rfl,hC⟩
 ·cases C with
  | nil=>simp at hC;simp [hC]
  | cons y C =>
   simp only [jah,List.cons.injEq] at hC;exfalso;have:=hB n (by rw [hC.2];simp);omega
 ·cases C with
  | nil=>simp at hC;simp [hC]
  | cons y C =>
   simp only [jah,List.cons.injEq] at hC;exfalso;have:=hB' n (by rw [hC.2];simp);omega
theorem Ak4 {r:Rd} (hr:Vm r):∀ (k:Nat) (ds es:List Int),ds.length=k->es.length=k->(∀ d ∈ ds,0<=d)->(∀ d ∈ es,0<=d)->(Gl r ds).out=(Gl r es).out->ds=es
 | 0,ds,es,h1,h2,_,_,_=>by rw [List.eq_nil_of_length_eq_zero h1,List.eq_nil_of_length_eq_zero h2]
 | k+1,ds,es,h1,h2,hd,he,h=>by
  rcases List.eq_nil_or_concat ds with rfl | ⟨ds,d,rfl⟩
  ·simp at h1
  rcases List.eq_nil_or_concat es with rfl | ⟨es,e,rfl⟩
  ·simp at h2
  simp only [List.concat_eq_append,jab,jac,List.length_nil,jap,List.mem_singleton] at h1 h2 hd he h ⊢;have kd:=Za (r:=r) (ds:=ds) hr λx hx=>hd x (.inl hx);have ke:=Za (r:=r) (ds:=es) hr λx hx=>he x (.inl hx);have ed:Gl r (ds ++ [d])=Bv (Gl r ds) d:=by unfold Gl;rw [List.foldl_append];rfl
  have ee:Gl r (es ++ [e])=Bv (Gl r es) e:=by unfold Gl;rw [List.foldl_append];rfl
  rw [ed,ee] at h;obtain ⟨A,B,a1,a2,-,a4,a5,a6⟩:=Kk kd (hd d (.inr rfl));obtain ⟨A',B',b1,b2,-,b4,b5,b6⟩:=Kk ke (he e (.inr rfl));rw [a1,b1] at h;obtain ⟨rfl,hn,rfl⟩:=Azo h a4 a5 b4 b5;have hout:(Gl r ds).out=(Gl r es).out:=by rw [a2,b2]
  obtain rfl:=Ak4 hr k ds es jO jO (λx hx=>hd x (.inl hx)) (λx hx=>he x (.inl hx)) hout;have hde:d=e:=by
   rw [<- hn] at b6;omega
  rw [hde]
theorem M5 (m:Int):∀ (t:List Int) (e:Int),0<=e->(∀ d ∈ (row m t e).1,0<=d)/\0<=(row m t e).2
 | [],_,h=>⟨(λd hd=>by cases hd),h⟩
 | x::t,e,h=>by
  unfold row;split
  ·exact M5 m t (e+1) jO
  ·split
   ·obtain ⟨h1,h2⟩:=M5 m t 0 jO;refine ⟨λd hd=>?_,h2⟩;rcases jal.1 hd with rfl | hd
    · exact h
    · exact h1 d hd
   ·exact M5 m t e h
theorem Oe (l:List Int):∀ (ms:List Int) (n e:Int),Xq l ms n->0<=e->∀ d ∈ rows l ms n e,0<=d
 | [],_,_,_,_=>λd hd=>by cases hd
 | m::ms,n,e,hr,he=>by
  obtain ⟨h1,-,h3⟩:=hr;have h0:0<=e+(m - n)*((lt n l).length+1):=by
   have:=Int.mul_nonneg (show 0<=m - n by omega) (show (0:Int)<=((lt n l).length:Int)+1 by omega);omega
  obtain ⟨g1,g2⟩:=M5 m l _ h0;intro d hd;unfold rows at hd;rw [jap] at hd;rcases hd with hd | hd
  ·exact g1 d hd
  ·exact Oe l ms (m+1) _ h3 jO d hd
def start (p:List Int):Rd:=⟨p,128,0⟩
theorem Aaq {p:List Int} (h:∀ x ∈ p,x<128):Vm (start p):=⟨[],p,rfl,rfl,(λx hx=>by cases hx),h⟩
theorem Aa8 (l ms:List Int) (h:Xq l ms 128):(Gl (start (lt 128 l)) (rows l ms 128 0)).out=l :=
 Sz l ms 128 0 _ h rfl (by simp [spot,start])
theorem Apf {p ds l ms:List Int} (hp:∀ x ∈ p,x<128) (hd:∀ d ∈ ds,0<=d) (hl:(Gl (start p) ds).out=l) (hpl:lt 128 l=p) (h:Xq l ms 128):rows l ms 128 0=ds:=by
 have hk:=Aaq hp;have hw:=Aa8 l ms h;rw [hpl] at hw;have hn:=Oe l ms 128 0 h jO;have l1:=Sv (rows l ms 128 0) (start p) hk hn;have l2:=Sv ds (start p) hk hd;rw [hw] at l1;rw [hl] at l2;exact Ak4 hk ds.length _ _ jO rfl hn hd (by rw [hw,hl])
end Puny
end
section
namespace Puny
def least (n:Int):List Int->Int->Int
 | [],m=>m
 | x::t,m=>least n t (if n<=x/\x<m then x else m)
theorem least_le (n:Int):∀ (l:List Int) (m:Int),least n l m<=m
 | [],m=>Int.le_refl _
 | x::t,m=>by
  unfold least;have:=least_le n t (if n<=x/\x<m then x else m);split at this
  · rename_i h;rw [if_pos h];omega
  · rename_i h;rw [if_neg h];exact this
theorem Uq (n:Int):∀ (l:List Int) (m:Int),∀ x ∈ l,n<=x->least n l m<=x
 | [],_,x,hx,_=>by cases hx
 | y::t,m,x,hx,hn=>by
  unfold least;rcases jal.1 hx with rfl | hx
  ·have:=least_le n t (if n<=x/\x<m then x else m);by_cases h:n<=x/\x<m
   · rw [if_pos h] at this ⊢;exact this
   · rw [if_neg h] at this ⊢;omega
  ·exact Uq n t _ x hx hn
theorem Zb (n:Int):∀ (l:List Int) (m:Int),least n l m=m\/(least n l m ∈ l/\n<=least n l m)
 | [],m=>.inl rfl
 | y::t,m=>by
  unfold least;by_cases h:n<=y/\y<m
  ·rw [if_pos h];rcases Zb n t y with e | ⟨e1,e2⟩
   · exact .inr ⟨by rw [e];simp,by rw [e];exact h.1⟩
   · exact .inr ⟨by simp [e1],e2⟩
  ·rw [if_neg h];rcases Zb n t m with e | ⟨e1,e2⟩
   · exact .inl e
   · exact .inr ⟨by simp [e1],e2⟩
theorem Adq {n m:Int} (h:n<=m):∀ (l:List Int),(lt n l).length<=(lt m l).length
 | []=>jaa _
 | x::t=>by
  have:=Adq h t;rw [Ia,Ia];by_cases h1:x<n
  ·rw [if_pos h1,if_pos jO];simp only [jac];omega
  ·rw [if_neg h1];split
   · simp only [jac];omega
   · exact this
theorem Ny {n m:Int} (h:n<=m):∀ (l:List Int),m ∈ l->(lt n l).length<(lt (m+1) l).length
 | [],hm=>by cases hm
 | x::t,hm=>by
  rw [Ia,Ia];rcases jal.1 hm with rfl | hm
  ·rw [if_neg jO,if_pos jO,jac];have:=Adq (show n<=m+1 by omega) t;omega
  ·have:=Ny h t hm;by_cases h1:x<n
   ·rw [if_pos h1,if_pos jO];simp only [jac];omega
   ·rw [if_neg h1];split
    · simp only [jac];omega
    · exact this
theorem Uu (n:Int) (l:List Int):(lt n l).length<=l.length:=by unfold lt;exact List.length_filter_le _ _
theorem Af7 {n:Int}:∀ {l:List Int},(lt n l).length=l.length->∀ x ∈ l,x<n
 | [],_,x,hx=>by cases hx
 | y::t,h,x,hx=>by
  rw [Ia] at h;have h0:=Uu n t;by_cases h1:y<n
  ·rw [if_pos h1] at h;simp only [jac] at h;rcases jal.1 hx with rfl | hx
   · exact h1
   · exact Af7 jO x hx
  ·rw [if_neg h1,jac] at h;omega
theorem Arq {n:Int}:∀ {l:List Int},(lt n l).length ≠ l.length->∃ x ∈ l,n<=x
 | [],h=>absurd rfl h
 | y::t,h=>by
  rw [Ia] at h;by_cases h1:y<n
  ·rw [if_pos h1] at h;simp only [jac] at h;obtain ⟨x,hx,hn⟩:=Arq (l:=t) (n:=n) jO;exact ⟨x,by simp [hx],hn⟩
  ·exact ⟨y,by simp,by omega⟩
def msF:Nat->List Int->Int->List Int
 | 0,_,_=>[]
 | f+1,l,n=>if (lt n l).length=l.length then [] else least n l 1114112::msF f l (least n l 1114112+1)
theorem Ajp {l:List Int} {n:Int} (hl:∀ x ∈ l,x<1114112) (h:(lt n l).length ≠ l.length):least n l 1114112 ∈ l/\n<=least n l 1114112/\∀ x ∈ l,x<n\/least n l 1114112<=x:=by
 obtain ⟨x,hx,hn⟩:=Arq h;have h1:=Uq n l 1114112 x hx hn;rcases Zb n l 1114112 with e | ⟨e1,e2⟩
 ·have:=hl x hx;omega
 ·refine ⟨e1,e2,λy hy=>?_⟩;by_cases hy1:y<n
  · exact .inl hy1
  · exact .inr (Uq n l 1114112 y hy jO)
theorem Adw:∀ (f:Nat) (l:List Int) (n:Int),(∀ x ∈ l,x<1114112)->l.length - (lt n l).length<=f->Xq l (msF f l n) n
 | 0,l,n,hl,hf=>by
  have:=Uu n l;exact Af7 jO
 | f+1,l,n,hl,hf=>by
  unfold msF;by_cases h:(lt n l).length=l.length
  ·rw [if_pos h];exact Af7 h
  ·rw [if_neg h];obtain ⟨h1,h2,h3⟩:=Ajp hl h;have:=Ny h2 l h1;exact ⟨h2,h3,Adw f l _ hl jO⟩
def F5 (l:List Int):List Int:=rows l (msF l.length l 128) 128 0
theorem Mb (l:List Int) (hl:∀ x ∈ l,x<1114112):Xq l (msF l.length l 128) 128:=Adw _ _ _ hl jO
theorem R5 (ad:Int->Int->Bool->Int) (d:Int) (ds:List Int) (b c:Int) (f:Bool):emit ad (d::ds) b c f=digits d 36 b ++ emit ad ds (ad d (c+1) f) (c+1) false:=rfl
def Fs (l ms:List Int) (m:Int) (t:List Int) (e:Int):List Int:=(row m t e).1 ++ rows l ms (m+1) ((row m t e).2+1)
theorem Apg (l ms:List Int) (m n e:Int):rows l (m::ms) n e=Fs l ms m l (e+(m - n)*((lt n l).length+1)):=rfl
theorem Avq {l ms:List Int} {m x:Int} {t:List Int} {e:Int} (h:x<m):Fs l ms m (x::t) e=Fs l ms m t (e+1):=by unfold Fs;rw [row,if_pos h]
theorem Avs {l ms:List Int} {m:Int} {t:List Int} {e:Int}:Fs l ms m (m::t) e=e::Fs l ms m t 0:=by
 unfold Fs;rw [row,if_neg jO,if_pos rfl];rfl
theorem Avr {l ms:List Int} {m x:Int} {t:List Int} {e:Int} (h:m<x):Fs l ms m (x::t) e=Fs l ms m t e:=by unfold Fs;rw [row,if_neg jO,if_neg jO]
theorem A09 (l ms:List Int) (m e:Int):Fs l ms m [] e=rows l ms (m+1) (e+1):=rfl
end Puny
end
section
open Go.RowKit
namespace Puny
def Qm (n:Int):Int:=if n<26 then 97+n else 22+n
def valOf (n:Int):Option Int:=if 97<=n/\n<=122 then some (n - 97) else if 65<=n/\n<=90 then some (n - 65) else if 48<=n/\n<=57 then some (n - 48+26) else none
def Hf:Nat->Int->Int->Int
 | 0,d,k=>k+36*d / (d+38)
 | f+1,d,k=>if 455<d then Hf f (d / 35) (k+36) else k+36*d / (d+38)
theorem Vp:∀ (f g:Nat) (d k:Int),0<=d->d.toNat<=f->d.toNat<=g->Hf f d k=Hf g d k
 | 0,0,_,_,_,_,_=>rfl
 | 0,g+1,d,k,h0,hf,_=>by unfold Hf;rw [if_neg jO]
 | f+1,0,d,k,h0,_,hg=>by unfold Hf;rw [if_neg jO]
 | f+1,g+1,d,k,h0,hf,hg=>by
  unfold Hf;split
  · exact Vp f g _ _ jO jO jO
  · rfl
def Wq (d k:Int):Int:=Hf d.toNat d k
theorem Ass {d k:Int} (h:455<d):Wq d k=Wq (d / 35) (k+36):=by
 unfold Wq;obtain ⟨f,hf⟩:∃ f,d.toNat=f+1:=⟨d.toNat - 1,by omega⟩
 rw [hf,Hf,if_pos h];exact Vp _ _ _ _ jO jO jO
theorem Asr {d k:Int} (h:¬ 455<d):Wq d k=k+36*d / (d+38):=by
 unfold Wq;cases d.toNat with
 | zero=>rfl
 | succ f=>rw [Hf,if_neg h]
def adapt (delta count:Int) (first:Bool):Int:=Wq ((if first then delta / 700 else delta / 2)+(if first then delta / 700 else delta / 2) / count) 0
end Puny
namespace Puny
def J6 (n:Int):UInt8:=UInt8.ofNat (Qm n).toNat
theorem Rv {n:Int} (h:0<=n/\n<=35):((J6 n).toNat:Int)=Qm n:=by
 have h1:0<=Qm n/\Qm n<256:=by unfold Qm;split<;>omega
 unfold J6;rw [UInt8.toNat_ofNat',Nat.mod_eq_of_lt (by show (Qm n).toNat<256;omega)];omega
def Cc (n k b:Int):List UInt8:=(digits n k b).map J6
theorem Afn {n k b:Int} (h:n<thr k b):Cc n k b=[J6 n]:=by unfold Cc;rw [Fb h];rfl
theorem Afo {n k b:Int} (h:thr k b<=n):Cc n k b=J6 (thr k b+(n - thr k b) % (36 - thr k b))::Cc ((n - thr k b) / (36 - thr k b)) (k+36) b:=by unfold Cc;rw [Gf h];rfl
end Puny
end
section
open Go.RowKit Utf
namespace Puny
theorem Aca:∀ (f:Nat) (d k:Int),0<=d->k<=Hf f d k/\Hf f d k<=k+d+36
 | 0,d,k,h=>by
  have h1:0<=36*d / (d+38):=Int.ediv_nonneg jO jO;have h2:36*d / (d+38)<=36:=by
   have:=Int.ediv_le_ediv (c:=d+38) jO (show 36*d<=36*(d+38) by omega);rwa [Int.mul_ediv_cancel _ jO] at this
  unfold Hf;omega
 | f+1,d,k,h=>by
  unfold Hf;split
  ·have:=Aca f (d / 35) (k+36) jO;omega
  ·have h1:0<=36*d / (d+38):=Int.ediv_nonneg jO jO;have h2:36*d / (d+38)<=36:=by
    have:=Int.ediv_le_ediv (c:=d+38) jO (show 36*d<=36*(d+38) by omega);rwa [Int.mul_ediv_cancel _ jO] at this
   omega
theorem Ahr {delta count:Int} (first:Bool) (hd:0<=delta/\delta<=2147483647) (hc:1<=count):0<=adapt delta count first/\adapt delta count first<=5000000000:=by
 unfold adapt;obtain ⟨d,hdd⟩:∃ d,d=(if first then delta / 700 else delta / 2):=⟨_,rfl⟩
 rw [<- hdd];have hb:0<=d/\d<=2147483647:=by rw [hdd];split<;>omega
 have hq0:0<=d / count:=Int.ediv_nonneg hb.1 jO;have hq1:d / count<=d:=Int.ediv_le_self _ hb.1;have:=Aca (d+d / count).toNat (d+d / count) 0 jO;unfold Wq;omega
def Da (ds:List Int) (b c:Int) (f:Bool):List UInt8:=(emit adapt ds b c f).map J6
theorem Aen (d:Int) (ds:List Int) (b c:Int) (f:Bool):Da (d::ds) b c f=Cc d 36 b ++ Da ds (adapt d (c+1) f) (c+1) false:=by
 unfold Da Cc;rw [R5,List.map_append]
def Bg (l:List Int):List UInt8:=(lt 128 l).map λx=>UInt8.ofNat x.toNat
def La (l:List Int):List UInt8:=if (lt 128 l).length=0 then [] else [45]
def Bq (l:List Int):List UInt8:=Bg l ++ La l ++ Da (F5 l) 72 (lt 128 l).length true
theorem Az6 {f:Nat} {l:List Int} {n:Int} (h:(lt n l).length=l.length):msF f l n=[]:=by
 cases f with
 | zero=>rfl
 | succ f=>unfold msF;rw [if_pos h]
theorem Az7 {f:Nat} {l:List Int} {n:Int} (h:(lt n l).length ≠ l.length):msF (f+1) l n=least n l 1114112::msF f l (least n l 1114112+1):=by rw [msF,if_neg h]
theorem An8 (n x:Int) (t:List Int) (z:Int):least n (x::t) z=least n t (if n<=x/\x<z then x else z):=rfl
theorem A57 (m:Int) (l:List Int):(le m l).length<=l.length:=by unfold le;exact List.length_filter_le _ _
theorem A32 (m:Int) (p:List Int) (x:Int):lt m (p ++ [x])=if x<m then lt m p ++ [x] else lt m p:=by
 unfold lt;rw [List.filter_append];by_cases h:x<m<;>simp [h]
end Puny
def Axn (bs:List UInt8) (ok:Bool) (w:World) (e:Ending) (w':World):Prop:=e=.returned (.tuple #[.string ⟨bs.toArray⟩,.bool ok])/\Below w.heap.size w w'
theorem Z9 {l:List Int} {k:Nat} (h:k<l.length) (hr:Ae l=true):Aj l[k]! = true:=by
 unfold Ae at hr;rw [getElem!_pos l k h];exact jar.1 hr _ (List.getElem_mem h)
theorem Ew {l:List Int} (h:Ae l=true):∀ x ∈ l,x<1114112:=λx hx=>by
 unfold Ae at h;have:=(An x).1 (jar.1 h x hx);omega
end
section
open Go.RowKit Utf
namespace Puny
def Ep (c:UInt8):Int:=(c.toNat:Int)
def Io (b:Int):List UInt8->Int->Int->Int->Nat->Option (Int × Nat)
 | [],_,_,_,_=>none
 | c::l,k,w,s,u=>match valOf (Ep c) with
  | none=>none
  | some d=>if Fp<w\/Fp<s+d*w then none else if d<thr k b then some (s+d*w,u+1) else Io b l (k+36) (w*(36 - thr k b)) (s+d*w) (u+1)
theorem Aaz {n d:Int} (h:valOf n=some d):0<=d/\d<=35:=by
 unfold valOf at h;split at h
 ·have:=Option.some.inj h;omega
 ·split at h
  ·have:=Option.some.inj h;omega
  ·split at h
   · have:=Option.some.inj h;omega
   · cases h
def Aot (o:Option (Int × Nat)):Value:=match o with | none=>.tuple #[.int .i64 0,.int .i64 0] | some (x,u)=>.tuple #[.int .i64 x,.int .i64 u]
end Puny
end
section
open Go.RowKit Utf
namespace Puny
def Hl (r:Rd) (d:Int):Bool:=decide (r.i+d<=Fp) && Aj (r.n+(r.i+d) / (r.out.length+1))
def Ma:Nat->List UInt8->Int->Bool->Rd->Option (List Int)
 | _,[],_,_,r=>some r.out
 | 0,_::_,_,_,_=>none
 | k+1,x::l,b,f,r=>match Io b (x::l) 36 1 0 0 with
  | none=>none
  | some (d,m)=>if Hl r d then Ma k ((x::l).drop m) (adapt d (r.out.length+1) f) false (Bv r d) else none
def Cb:List UInt8->Nat->Nat->Nat
 | [],_,a=>a
 | c::t,k,a=>Cb t (k+1) (if c.toNat=45 then k else a)
def Bh (bs:List UInt8):Nat:=Cb bs 0 0
def Wm (bs:List UInt8):Bool:=bs.any λc=>decide (127<c.toNat)
def D5 (bs:List UInt8):Nat:=if Bh bs=0 then 0 else Bh bs+1
def Ig (bs:List UInt8):Option (List Int) :=
 if Wm bs then none else Ma bs.length (bs.drop (D5 bs)) 72 true (start ((bs.take (Bh bs)).map Ep))
theorem Nl:∀ (t:List UInt8) (k a:Nat),a<=k->Cb t k a<=k+t.length/\(Cb t k a=a\/Cb t k a<k+t.length)
 | [],k,a,h=>⟨by simpa [Cb] using h,.inl rfl⟩
 | c::t,k,a,h=>by
  unfold Cb;split
  ·have:=Nl t (k+1) k jO;simp only [jac];omega
  ·have:=Nl t (k+1) a jO;simp only [jac];omega
theorem K9 (bs:List UInt8):Bh bs=0\/Bh bs<bs.length:=by
 have:=(Nl bs 0 0 (jaa _)).2;unfold Bh;omega
theorem Aem (bs:List UInt8):D5 bs<=bs.length:=by
 have:=K9 bs;unfold D5;split<;>omega
theorem Xg (b:Int):∀ (l:List UInt8) (k w s:Int) (u:Nat) (x:Int) (v:Nat),Io b l k w s u=some (x,v)->1<=w->0<=s->0<=x/\x<=Fp/\u+1<=v/\v<=u+l.length
 | [],_,_,_,_,_,_,h,_,_=>by cases h
 | c::l,k,w,s,u,x,v,h,hw,hs=>by
  unfold Io at h;cases hv:valOf (Ep c) with
  | none=>rw [hv] at h;cases h
  | some d =>
   rw [hv] at h;simp only at h;have hd:=Aaz hv;have ht:=Kv k b;have h0:0<=d*w:=Int.mul_nonneg hd.1 jO;split at h
   ·cases h
   ·rename_i hlim
    split at h
    ·have:=Option.some.inj h;injection this with e1 e2
     subst e1 e2;simp only [jac];refine ⟨by omega,by omega,by omega,by omega⟩
    ·have h1:1<=w*(36 - thr k b):=by
      have:1*1<=w*(36 - thr k b):=Int.mul_le_mul hw jO jO jO;omega
     have:=Xg b l _ _ _ _ _ _ h h1 jO;simp only [jac];omega
theorem Acv {k:Nat} {x:UInt8} {l:List UInt8} {b:Int} {f:Bool} {r:Rd} (h:Io b (x::l) 36 1 0 0=none):Ma k (x::l) b f r=none:=by
 cases k with
 | zero=>rfl
 | succ k=>unfold Ma;rw [h]
theorem Aik {k:Nat} {x:UInt8} {l:List UInt8} {b:Int} {f:Bool} {r:Rd} {d:Int} {m:Nat} (h:Io b (x::l) 36 1 0 0=some (d,m)) (ho:Hl r d=false):Ma k (x::l) b f r=none:=by
 cases k with
 | zero=>rfl
 | succ k=>unfold Ma;rw [h];simp [ho]
theorem Ub {k:Nat} {x:UInt8} {l:List UInt8} {b:Int} {f:Bool} {r:Rd} {d:Int} {m:Nat} (h:Io b (x::l) 36 1 0 0=some (d,m)) (ho:Hl r d=true) :
  Ma (k+1) (x::l) b f r=Ma k ((x::l).drop m) (adapt d (r.out.length+1) f) false (Bv r d):=by
 rw [Ma,h];simp [ho]
theorem Pk (r:Rd) (d:Int):(Bv r d).out=r.out.take ((r.i+d) % (r.out.length+1)).toNat ++ ((Bv r d).n::r.out.drop ((r.i+d) % (r.out.length+1)).toNat):=by
 have h1:=Int.emod_nonneg (r.i+d) (b:=r.out.length+1) jO;have h2:=Int.emod_lt_of_pos (r.i+d) (b:=r.out.length+1) jO;unfold Bv;exact O8 _ _ _ jO
theorem Aed (r:Rd) (d:Int):(Bv r d).out.length=r.out.length+1:=by
 have h1:=Int.emod_nonneg (r.i+d) (b:=r.out.length+1) jO;have h2:=Int.emod_lt_of_pos (r.i+d) (b:=r.out.length+1) jO;rw [Pk r d,jab,jac,jak,jaj];omega
end Puny
def Ws (o:Option (List Int)) (w:World) (e:Ending) (w':World):Prop :=
 ∃ A c,e=.returned (.tuple #[.slice A (o.getD []).length c,.bool o.isSome])/\Runes (.slice A (o.getD []).length c) (o.getD []) w'/\Below w.heap.size w w'
theorem Av8 (w:World):Runes (.slice none 0 0) [] w:=⟨none,0,rfl,jaa _,λ_=>rfl,λh=>absurd h jS⟩
theorem Yh {o:Option (List Int)} {w w':World} (h:o=none) (hb:Below w.heap.size w w'):Ws o w (.returned (.tuple #[.slice none 0 0,.bool false])) w':=by
 subst h;exact ⟨none,0,rfl,Av8 _,hb⟩
theorem extract_drop (s:ByteArray) (k:Nat):(s.extract k s.size).data.toList=s.data.toList.drop k:=by
 rw [ByteArray.data_extract,Array.toList_extract,List.extract_eq_take_drop,List.take_of_length_le jS]
end
section
open Go.RowKit Utf
end
section
open Go.RowKit Utf
namespace Puny
def Ng (c:UInt8):Option Int:=valOf (Ep c)
theorem Ana {n:Int} (h:0<=n/\n<=35):Ep (J6 n)=Qm n:=Rv h
theorem Aet {n:Int} (h:0<=n/\n<=35):Ng (J6 n)=some n:=by
 unfold Ng;rw [Ana h];unfold Qm;by_cases h1:n<26
 ·rw [if_pos h1];unfold valOf;rw [if_pos jO];congr 1;omega
 ·rw [if_neg h1];unfold valOf;rw [if_neg jO,if_neg jO,if_pos jO];congr 1;omega
theorem Ud:∀ (f:Nat) (n k b:Int),0<=n->n.toNat<f->∀ x ∈ digits n k b,0<=x/\x<=35
 | 0,_,_,_,_,h=>by omega
 | f+1,n,k,b,hn,hf=>by
  have ht:=Kv k b;by_cases h:n<thr k b
  ·rw [Fb h];intro x hx;rw [List.mem_singleton] at hx;omega
  ·have hl:=less n (thr k b) ht.1 ht.2 jO;have hp:=parts n (thr k b) ht.1 ht.2;rw [Gf jO];intro x hx;rcases jal.1 hx with rfl | hx
   · omega
   · exact Ud f _ _ _ hl.1 jO x hx
theorem Md:∀ (ds:List Int) (b c:Int) (f:Bool),(∀ d ∈ ds,0<=d)->∀ x ∈ emit adapt ds b c f,0<=x/\x<=35
 | [],_,_,_,_=>λx hx=>by cases hx
 | d::ds,b,c,f,h=>by
  intro x hx;rw [R5] at hx;rcases jap.1 hx with hx | hx
  · exact Ud (d.toNat+1) d 36 b (h d jS) jO x hx
  · exact Md ds _ _ _ (λy hy=>h y (by simp [hy])) x hx
theorem R4:∀ (ds:List Int) (b c:Int) (f:Bool),ds.length<=(emit adapt ds b c f).length
 | [],_,_,_=>jaa _
 | d::ds,b,c,f=>by
  rw [R5,jab,jac];have:=R4 ds (adapt d (c+1) f) (c+1) false;have:=List.length_pos_iff.2 (Acw d 36 b);omega
theorem Akh (b:Int):∀ (vs:List Int) (k w s:Int) (u:Nat),(∀ x ∈ vs,0<=x/\x<=35)->Io b (vs.map J6) k w s u=num b vs k w s u
 | [],_,_,_,_,_=>rfl
 | x::vs,k,w,s,u,h=>by
  have hx:=Aet (h x jS);unfold Ng at hx;have ih:=λk w s u=>Akh b vs k w s u (λy hy=>h y (by simp [hy]));rw [List.map_cons,Io,num,hx];simp only [ih]
theorem V1 (b:Int):∀ (bs:List UInt8) (k w s:Int) (u:Nat) (x:Int) (v:Nat),Io b bs k w s u=some (x,v) ->
  ∃ vs:List Int,(bs.take (v - u)).map Ng=vs.map some/\num b vs k w s u=some (x,v)/\u+vs.length=v
 | [],_,_,_,_,_,_,h=>by cases h
 | c::l,k,w,s,u,x,v,h=>by
  unfold Io at h;cases hv:valOf (Ep c) with
  | none=>rw [hv] at h;cases h
  | some d =>
   rw [hv] at h;simp only at h;split at h
   ·cases h
   ·rename_i hlim
    split at h
    ·rename_i ht
     have e:=Option.some.inj h;injection e with e1 e2
     subst e1 e2;refine ⟨[d],?_,?_,by simp⟩
     ·rw [show u+1 - u=1 by omega];simp [Ng,hv]
     ·rw [num,if_neg hlim,if_pos ht]
    ·rename_i ht
     obtain ⟨vs,h1,h2,h3⟩:=V1 b l _ _ _ _ _ _ h;refine ⟨d::vs,?_,?_,by simp only [jac];omega⟩
     ·rw [show v - u=(v - (u+1))+1 by omega,List.take_succ_cons,List.map_cons,List.map_cons,h1];simp [Ng,hv]
     ·rw [num,if_neg hlim,if_neg ht,h2]
theorem Ar9 {c:UInt8} {d:Int} (h:Ng c=some d):0<=d/\d<36:=by have:=Aaz h;omega
theorem A4y {bs:List UInt8} {vs:List Int} (h:bs.map Ng=vs.map some):∀ d ∈ vs,0<=d/\d<36:=by
 intro d hd;have:some d ∈ bs.map Ng:=by rw [h];exact List.mem_map.2 ⟨d,hd,rfl⟩
 obtain ⟨c,-,hc⟩:=List.mem_map.1 this;exact Ar9 hc
theorem Aur {b:Int} {bs:List UInt8} {d:Int} {m:Nat} (h:Io b bs 36 1 0 0=some (d,m)):0<=d/\1<=m/\m<=bs.length/\(bs.take m).map Ng=(digits d 36 b).map some:=by
 have hb:=Xg b _ _ _ _ _ _ _ h jD jD;obtain ⟨vs,h1,h2,h3⟩:=V1 b _ _ _ _ _ _ _ h;rw [Nat.sub_zero] at h1;obtain ⟨n,j,hn,hx,hv,hj,-,ht⟩:=Aki b vs 36 1 0 0 d m (A4y h1) h2;obtain rfl:d=n:=jO
 rw [List.take_of_length_le jO] at ht;rw [ht] at h1;exact ⟨hn,by omega,by omega,h1⟩
theorem mem_insert {l:List Int} {k:Nat} {x y:Int} (hk:k<=l.length) (h:y ∈ l):y ∈ l.insertIdx k x:=by
 rw [O8 l k x hk];rw [<- List.take_append_drop k l] at h;rcases jap.1 h with h | h
 · exact jap.2 (.inl h)
 · exact jap.2 (.inr (List.mem_cons_of_mem _ h))
theorem Av5 {r:Rd} {d:Int}:(Bv r d).n ∈ (Bv r d).out:=by rw [Pk];simp
theorem Apr {r:Rd} {d y:Int} (h:y ∈ r.out):y ∈ (Bv r d).out:=by
 have h1:=Int.emod_nonneg (r.i+d) (b:=r.out.length+1) jO;have h2:=Int.emod_lt_of_pos (r.i+d) (b:=r.out.length+1) jO;exact mem_insert jO h
theorem Ad6:∀ {ds:List Int} {r:Rd} {y:Int},y ∈ r.out->y ∈ (Gl r ds).out
 | [],_,_,h=>h
 | _::ds,_,_,h=>Ad6 (ds:=ds) (Apr h)
theorem Avk (r:Rd) (d:Int) (ds:List Int):Gl r (d::ds)=Gl (Bv r d) ds:=rfl
theorem Acu:∀ (ds:List Int) (r:Rd) (b:Int) (f:Bool) (fuel:Nat),(∀ d ∈ ds,0<=d)->0<=r.n->0<=r.i->r.out.length+ds.length<=112->(∀ x ∈ (Gl r ds).out,Aj x=true)->ds.length<=fuel ->
  Ma fuel (Da ds b r.out.length f) b f r=some (Gl r ds).out
 | [],r,b,f,fuel,_,_,_,_,_,_=>by unfold Da emit;cases fuel<;>rfl
 | d::ds,r,b,f,fuel,hd,hn,hi,hlen,hR,hf=>by
  obtain ⟨k,rfl⟩:∃ k,fuel=k+1:=⟨fuel - 1,by simp only [jac] at hf;omega⟩
  have hd0:=hd d jS;have hn1:=hR _ (Ad6 (ds:=ds) (Av5 (r:=r) (d:=d)));have hr1:=(An _).1 hn1;have hL:r.out.length<=111:=by simp only [jac] at hlen;omega
  have hq:(Bv r d).n=r.n+(r.i+d) / (r.out.length+1):=rfl;have hdm:=Int.mul_ediv_add_emod (r.i+d) (r.out.length+1);have hm1:=Int.emod_lt_of_pos (r.i+d) (b:=r.out.length+1) jO;have hm0:=Int.emod_nonneg (r.i+d) (b:=r.out.length+1) jO;have hqb:(r.i+d) / (r.out.length+1)<=1114111:=jO
  have hqn:0<=(r.i+d) / (r.out.length+1):=Int.ediv_nonneg jO jO;have hmul:((r.out.length:Int)+1)*((r.i+d) / (r.out.length+1))<=112*1114111:=Int.mul_le_mul jO hqb hqn jD;have hsum:r.i+d<=126322567:=jO
  have hok:Hl r d=true:=by
   unfold Hl Fp;rw [<- hq,hn1,decide_eq_true jO];rfl
  have htl:Da (d::ds) b r.out.length f=Cc d 36 b ++ Da ds (adapt d ((r.out.length:Int)+1) f) ((r.out.length:Int)+1) false:=Aen _ _ _ _ _;have hval:∀ x ∈ digits d 36 b ++ emit adapt ds (adapt d ((r.out.length:Int)+1) f) ((r.out.length:Int)+1) false,0<=x/\x<=35:=by
   intro x hx;rcases jap.1 hx with hx | hx
   ·exact Ud (d.toNat+1) d 36 b hd0 jO x hx
   ·exact Md ds _ _ _ (λy hy=>hd y (by simp [hy])) x hx
  have hnum:Io b (Da (d::ds) b r.out.length f) 36 1 0 0=some (d,(Cc d 36 b).length):=by
   have h1:=Zk b 126322567 jD (d.toNat+1) d 36 1 0 0 (emit adapt ds (adapt d ((r.out.length:Int)+1) f) ((r.out.length:Int)+1) false) jO hd0 jD jD jO jD (λ_=>⟨0,rfl⟩);rw [<- Akh b _ _ _ _ _ hval] at h1;rw [show Da (d::ds) b r.out.length f=(digits d 36 b ++ emit adapt ds (adapt d ((r.out.length:Int)+1) f) ((r.out.length:Int)+1) false).map J6 from rfl,h1];simp [Cc]
  have hne:∃ x l,Da (d::ds) b r.out.length f=x::l:=by
   cases hc:Da (d::ds) b r.out.length f with
   | nil =>
    have h1:=congrArg List.length hc;rw [htl,jab] at h1;have h2:(Cc d 36 b).length=(digits d 36 b).length:=by simp [Cc]
    have h3:=List.length_pos_iff.2 (Acw d 36 b);simp only [List.length_nil] at h1;omega
   | cons x l=>exact ⟨x,l,rfl⟩
  obtain ⟨x,l,hxl⟩:=hne;have hdrop:(Da (d::ds) b r.out.length f).drop (Cc d 36 b).length=Da ds (adapt d ((r.out.length:Int)+1) f) ((r.out.length:Int)+1) false:=by rw [htl,List.drop_left]
  rw [hxl] at hnum hdrop ⊢;rw [Ub hnum hok,hdrop,Avk];have hl2:=Aed r d;have ih:=Acu ds (Bv r d) (adapt d ((r.out.length:Int)+1) f) false k (λy hy=>hd y (by simp [hy])) jO (by show 0<=(r.i+d) % (r.out.length+1)+1;omega) (by rw [hl2];simp only [jac] at hlen;omega) hR (by simp only [jac] at hf;omega);rw [hl2] at ih;exact ih
end Puny
end
section
open Go.RowKit Utf
namespace Puny
def Oh (b:UInt8):UInt8:=if 65<=b.toNat/\b.toNat<=90 then UInt8.ofNat (b.toNat+32) else b
theorem Ie:∀ (t:List UInt8) (k a:Nat),(∀ c ∈ t,c.toNat ≠ 45)->Cb t k a=a
 | [],_,_,_=>rfl
 | c::t,k,a,h=>by
  unfold Cb;rw [if_neg (h c jS),Ie t _ _ λx hx=>h x (by simp [hx])]
theorem F2:∀ (x y:List UInt8) (k a:Nat),Cb (x ++ y) k a=Cb y (k+x.length) (Cb x k a)
 | [],y,k,a=>rfl
 | c::x,y,k,a=>by
  rw [jah,Cb,Cb,F2 x y,jac];congr 1;omega
theorem Nk:∀ (t:List UInt8) (k a:Nat),Cb t k a=a\/∃ j,Cb t k a=k+j/\∃ h:j<t.length,(t[j]).toNat=45
 | [],_,_=>.inl rfl
 | c::t,k,a=>by
  unfold Cb;by_cases hc:c.toNat=45
  ·rw [if_pos hc];rcases Nk t (k+1) k with h | ⟨j,h1,h2,h3⟩
   · exact .inr ⟨0,by rw [h];rfl,by simp,hc⟩
   · exact .inr ⟨j+1,by rw [h1];omega,by simp only [jac];omega,by simpa using h3⟩
  ·rw [if_neg hc];rcases Nk t (k+1) a with h | ⟨j,h1,h2,h3⟩
   · exact .inl h
   · exact .inr ⟨j+1,by rw [h1];omega,by simp only [jac];omega,by simpa using h3⟩
theorem Aqw {bs:List UInt8} (h:Bh bs ≠ 0):bs=bs.take (Bh bs) ++ [45] ++ bs.drop (Bh bs+1):=by
 rcases Nk bs 0 0 with h0 | ⟨j,h1,h2,h3⟩
 ·exact absurd h0 h
 ·have e:Bh bs=j:=by unfold Bh;rw [h1];omega
  have e45:bs[j]=45:=by
   apply UInt8.toNat_inj.1;rw [h3];rfl
  rw [e];rw [jaq,List.singleton_append,<- e45,<- List.drop_eq_getElem_cons h2,List.take_append_drop]
theorem Am9 {n:Int} (h:0<=n/\n<=35):(J6 n).toNat ≠ 45/\(J6 n).toNat<128:=by
 have:=Rv h;unfold Qm at this;split at this<;>omega
theorem Wk {ds:List Int} (b c:Int) (f:Bool) (h:∀ d ∈ ds,0<=d):∀ x ∈ Da ds b c f,x.toNat ≠ 45/\x.toNat<128:=by
 intro x hx;obtain ⟨v,hv,rfl⟩:=List.mem_map.1 hx;exact Am9 (Md ds b c f h v hv)
theorem Af8 {m:Int} {l:List Int} {x:Int} (h:x ∈ lt m l):x ∈ l/\x<m:=by
 unfold lt at h;have:=List.mem_filter.1 h;exact ⟨this.1,by simpa using this.2⟩
theorem Aky {l:List Int} (h:∀ x ∈ l,0<=x):(Bg l).map Ep=lt 128 l:=by
 unfold Bg;rw [List.map_map];refine (List.map_congr_left λx hx=>?_).trans (List.map_id _);have:=Af8 hx;have h0:=h x this.1;show ((UInt8.ofNat x.toNat).toNat:Int)=x;rw [UInt8.toNat_ofNat_of_lt' (by show x.toNat<256;omega)];omega
theorem Au7 {l:List Int} (h:∀ x ∈ l,0<=x):∀ c ∈ Bg l,c.toNat<128:=by
 intro c hc;unfold Bg at hc;obtain ⟨x,hx,rfl⟩:=List.mem_map.1 hc;have:=Af8 hx;have h0:=h x this.1;rw [UInt8.toNat_ofNat_of_lt' (by show x.toNat<256;omega)];omega
theorem Aaa {l:List Int} (h:Ae l=true):∀ x ∈ l,Aj x=true:=by
 unfold Ae at h;rwa [jar] at h
theorem U8 {l:List Int} (h:Ae l=true):∀ x ∈ l,0<=x:=λx hx=>((An x).1 (Aaa h x hx)).1
theorem Hh {l:List Int} (h:∀ x ∈ l,x<1114112):∀ d ∈ F5 l,0<=d:=Oe l _ _ _ (Mb l h) jD
theorem Nn {l:List Int} (h:Ae l=true):(Gl (start (lt 128 l)) (F5 l)).out=l:=Aa8 l _ (Mb l (Ew h))
theorem Ql {l:List Int} (h:Ae l=true):(lt 128 l).length+(F5 l).length=l.length:=by
 have h1:=Sv (F5 l) (start (lt 128 l)) (Aaq λx hx=>(Af8 hx).2) (Hh (Ew h));rw [Nn h] at h1;exact h1.symm
theorem A4z {bs:List UInt8} (h:∀ c ∈ bs,c.toNat<128):Wm bs=false:=by
 unfold Wm;rw [List.any_eq_false];intro c hc;have:=h c hc;simp;omega
theorem Aq8 {l:List Int} (h:Ae l=true):∀ c ∈ Bq l,c.toNat<128:=by
 intro c hc;unfold Bq at hc;rcases jap.1 hc with hc | hc
 ·rcases jap.1 hc with hc | hc
  ·exact Au7 (U8 h) c hc
  ·unfold La at hc;split at hc
   · cases hc
   · rw [List.mem_singleton] at hc;subst hc;decide
 ·exact (Wk _ _ _ (Hh (Ew h)) c hc).2
theorem Ati {l:List Int} (h:Ae l=true):Bh (Bq l)=(Bg l).length/\(Bq l).drop (D5 (Bq l))=Da (F5 l) 72 (lt 128 l).length true:=by
 have hno:=λc hc=>(Wk 72 (lt 128 l).length true (Hh (Ew h)) c hc).1;have hpl:(Bg l).length=(lt 128 l).length:=by unfold Bg;rw [jai]
 by_cases h0:(lt 128 l).length=0
 ·have hp:Bg l=[]:=List.eq_nil_of_length_eq_zero jO;have he:Bq l=Da (F5 l) 72 (lt 128 l).length true:=by unfold Bq La;rw [hp,if_pos h0];rfl
  have hd:Bh (Bq l)=0:=by rw [he];exact Ie _ _ _ hno
  refine ⟨by rw [hd,hp];rfl,?_⟩;unfold D5;rw [hd,if_pos rfl,he,List.drop_zero]
 ·have he:Bq l=Bg l ++ [45] ++ Da (F5 l) 72 (lt 128 l).length true:=by unfold Bq La;rw [if_neg h0]
  have hd:Bh (Bq l)=(Bg l).length:=by
   unfold Bh;rw [he,F2,Ie _ _ _ hno,F2];rw [Cb,Cb,if_pos jD];omega
  refine ⟨hd,?_⟩;unfold D5;rw [hd,if_neg jO,he];rw [show (Bg l).length+1=(Bg l ++ [45]).length by simp,List.drop_left]
theorem Afl {l:List Int} (h:Ae l=true) (hn:l.length<=110):Ig (Bq l)=some l:=by
 obtain ⟨h1,h2⟩:=Ati h;have hl:=Ql h;have htk:(Bq l).take (Bg l).length=Bg l:=by unfold Bq;rw [jaq,List.take_left]
 have hfu:(F5 l).length<=(Bq l).length:=by
  have:(Da (F5 l) 72 (lt 128 l).length true).length<=(Bq l).length:=by unfold Bq;rw [jab];omega
  have h3:=R4 (F5 l) 72 (lt 128 l).length true;unfold Da at this;rw [jai] at this;omega
 unfold Ig;rw [A4z (Aq8 h),if_neg jD,h2,h1,htk,Aky (U8 h)];have key:=Acu (F5 l) (start (lt 128 l)) 72 true (Bq l).length (Hh (Ew h)) (show (0:Int)<=128 by decide) (Int.le_refl 0) (by show (lt 128 l).length+_<=112;omega) (by rw [Nn h];exact Aaa h) hfu;rw [Nn h] at key;exact key
theorem Ua:∀ (fuel:Nat) (bs:List UInt8) (b:Int) (f:Bool) (r:Rd) (out:List Int),Ma fuel bs b f r=some out->128<=r.n->0<=r.i->(∀ x ∈ r.out,Aj x=true) ->
  ∃ ds:List Int,(∀ d ∈ ds,0<=d)/\out=(Gl r ds).out/\bs.map Ng=(emit adapt ds b r.out.length f).map some/\(∀ x ∈ out,Aj x=true)/\lt 128 out=lt 128 r.out
 | fuel,[],b,f,r,out,h,_,_,hr=>by
  have:some r.out=some out:=by cases fuel<;>exact h
  have:=Option.some.inj this;subst this;exact ⟨[],(λd hd=>by cases hd),rfl,rfl,hr,rfl⟩
 | 0,_::_,_,_,_,_,h,_,_,_=>by cases h
 | k+1,x::l,b,f,r,out,h,hn,hi,hr=>by
  cases hN:Io b (x::l) 36 1 0 0 with
  | none=>rw [Acv hN] at h;cases h
  | some p =>
   obtain ⟨d,m⟩:=p;cases hok:Hl r d with
   | false=>rw [Aik hN hok] at h;cases h
   | true =>
    rw [Ub hN hok] at h;obtain ⟨hd0,hm1,hml,hdig⟩:=Aur hN;have hq:(Bv r d).n=r.n+(r.i+d) / (r.out.length+1):=rfl;have hqn:0<=(r.i+d) / (r.out.length+1):=Int.ediv_nonneg jO jO;have hm0:=Int.emod_nonneg (r.i+d) (b:=r.out.length+1) jO;have hnr:Aj (Bv r d).n=true:=by
     unfold Hl at hok;rw [jag] at hok;rw [hq];exact hok.2
    have hout:=Pk r d;have hmem:∀ y ∈ (Bv r d).out,y=(Bv r d).n\/y ∈ r.out:=by
     intro y hy;rw [hout] at hy;rcases jap.1 hy with hy | hy
     ·exact .inr (List.mem_of_mem_take hy)
     ·rcases jal.1 hy with hy | hy
      · exact .inl hy
      · exact .inr (List.mem_of_mem_drop hy)
    have hlt:lt 128 (Bv r d).out=lt 128 r.out:=by
     rw [hout];unfold lt;rw [List.filter_append,List.filter_cons_of_neg (by simp;omega),<- List.filter_append,List.take_append_drop]
    obtain ⟨ds,h1,h2,h3,h4,h5⟩:=Ua k _ _ _ (Bv r d) out h jO (by show 0<=(r.i+d) % (r.out.length+1)+1;omega) (λy hy=>by rcases hmem y hy with rfl | hy;exact hnr;exact hr y hy);refine ⟨d::ds,?_,h2,?_,h4,by rw [h5,hlt]⟩
    ·intro e he;rcases jal.1 he with rfl | he
     ·exact hd0
     ·exact h1 e he
    ·rw [R5,List.map_append,<- hdig];rw [Aed] at h3;rw [show ((r.out.length+1:Nat):Int)=(r.out.length:Int)+1 by omega] at h3;rw [<- h3,<- List.map_append,List.take_append_drop]
theorem Tg {c:UInt8} {v:Int} (h:Ng c=some v):Oh c=J6 v:=by
 have hc:=Dq c;have hv:=Ar9 h;have hd:=Rv (n:=v) jO;apply UInt8.toNat_inj.1;unfold Ng valOf Ep at h;unfold Qm at hd;unfold Oh;split at h
 ·have:=Option.some.inj h;rw [if_neg jO];split at hd<;>omega
 ·split at h
  ·have:=Option.some.inj h;rw [if_pos jO,UInt8.toNat_ofNat_of_lt' (by show c.toNat+32<256;omega)];split at hd<;>omega
  ·split at h
   ·have:=Option.some.inj h;rw [if_neg jO];split at hd<;>omega
   ·cases h
theorem Aak {v:Int} (h:0<=v/\v<=35):Oh (J6 v)=J6 v:=Tg (Aet h)
theorem Apv {bs:List UInt8} {vs:List Int} (h:bs.map Ng=vs.map some):bs.map Oh=vs.map J6:=by
 induction bs generalizing vs with
 | nil =>
  cases vs with
  | nil=>rfl
  | cons v vs=>cases h
 | cons c bs ih =>
  cases vs with
  | nil=>cases h
  | cons v vs =>
   rw [List.map_cons,List.map_cons] at h;injection h with h1 h2
   rw [List.map_cons,List.map_cons,Tg h1,ih h2]
theorem Afq {bs:List UInt8} {l:List Int} (h:Ig bs=some l):Ae l=true/\(Bq l).map Oh=bs.map Oh/\l.length<=bs.length:=by
 unfold Ig at h;cases hw:Wm bs with
 | true=>rw [hw] at h;cases h
 | false =>
  rw [hw,if_neg jD] at h;have hb:∀ c ∈ bs,c.toNat<128:=by
   intro c hc;unfold Wm at hw;rw [List.any_eq_false] at hw;have:=hw c hc;simp at this;omega
  have hp:∀ x ∈ (bs.take (Bh bs)).map Ep,0<=x/\x<128:=by
   intro x hx;obtain ⟨c,hc,rfl⟩:=List.mem_map.1 hx;have:=hb c (List.mem_of_mem_take hc);unfold Ep;omega
  obtain ⟨ds,h1,h2,h3,h4,h5⟩:=Ua _ _ _ _ _ _ h (Int.le_refl 128) (Int.le_refl 0) (λx hx=>(An x).2 (by have:=hp x hx;omega));have hR:Ae l=true:=by unfold Ae;rw [jar];exact h4
  have hpl:lt 128 l=(bs.take (Bh bs)).map Ep:=by rw [h5];exact Az0 λx hx=>(hp x hx).2
  have hds:F5 l=ds:=Apf (λx hx=>(hp x hx).2) h1 h2.symm hpl (Mb l (Ew hR));have hlen:(lt 128 l).length=(bs.take (Bh bs)).length:=by rw [hpl,jai]
  have hpb:Bg l=bs.take (Bh bs):=by
   unfold Bg;rw [hpl,List.map_map];refine (List.map_congr_left λc _=>?_).trans (List.map_id _);show UInt8.ofNat ((c.toNat:Int)).toNat=c;rw [Int.toNat_natCast];exact UInt8.ofNat_toNat
  have hso:(start ((bs.take (Bh bs)).map Ep)).out.length=(lt 128 l).length:=by rw [hpl];rfl
  rw [hso] at h3;have htl:(Da (F5 l) 72 (lt 128 l).length true).map Oh=(bs.drop (D5 bs)).map Oh:=by
   rw [Apv h3,hds];unfold Da;rw [List.map_map];exact List.map_congr_left λv hv=>Aak (Md ds _ _ _ h1 v hv)
  have hdl:=Ql hR;have hll:ds.length<=(bs.drop (D5 bs)).length:=by
   have e1:=congrArg List.length h3;rw [jai,jai] at e1;have:=R4 ds 72 (lt 128 l).length true;omega
  refine ⟨hR,?_,?_⟩
  ·unfold Bq;rw [List.map_append,htl,List.map_append,hpb];by_cases h0:Bh bs=0
   ·have:(lt 128 l).length=0:=by rw [hlen,h0];rfl
    unfold La D5;rw [if_pos this,if_pos h0,h0];rfl
   ·have h7:¬ (lt 128 l).length=0:=by
     have:=K9 bs;rw [hlen,jak];omega
    unfold La D5;rw [if_neg h7,if_neg h0,<- List.map_append,<- List.map_append,<- Aqw h0]
  ·have h8:=Aem bs;have h9:=K9 bs;rw [jaj] at hll;rw [jak] at hlen;rw [hds] at hdl;unfold D5 at hll h8;split at hll<;>omega
end Puny
end
