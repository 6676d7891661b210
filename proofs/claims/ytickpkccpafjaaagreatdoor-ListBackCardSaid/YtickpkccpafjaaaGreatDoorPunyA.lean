import Derived.Test.YtickpkccpafjaaaGreatDoorUtfA
namespace Go.Proofs.YtickpkccpafjaaaGreatDoor
section
namespace Puny
def thr (k b:Int):Int:=max 1 (min 26 (k - b))
theorem Kf (k b:Int):1<=thr k b/\thr k b<=26:=by unfold thr;omega
theorem Ayu (k b:Int):thr k b<=thr (k+36) b:=by unfold thr;omega
def Alh:Nat->Int->Int->Int->List Int
 | 0,_,_,_=>[]
 | f+1,n,k,b=>if n<thr k b then [n] else (thr k b+(n - thr k b) % (36 - thr k b))::Alh f ((n - thr k b) / (36 - thr k b)) (k+36) b
theorem less (n t:Int) (ht:1<=t) (ht':t<=26) (h:t<=n):0<=(n - t) / (36 - t)/\((n - t) / (36 - t)).toNat<n.toNat:=by
 have h0:0<=(n - t) / (36 - t):=Int.ediv_nonneg jO jO;refine ⟨h0,?_⟩;have h1:(n - t) / (36 - t)<=n - t:=Int.ediv_le_self _ jO;omega
theorem Abm:∀ (f g:Nat) (n k b:Int),0<=n->n.toNat<f->n.toNat<g->Alh f n k b=Alh g n k b
 | 0,_,_,_,_,_,h,_=>by omega
 | _,0,_,_,_,_,_,h=>by omega
 | f+1,g+1,n,k,b,hn,hf,hg=>by
  unfold Alh;have ht:=Kf k b;split
  ·rfl
  ·rename_i h
   obtain ⟨h0,h1⟩:=less n (thr k b) ht.1 ht.2 jO;rw [Abm f g _ (k+36) b h0 jO jO]
def digits (n k b:Int):List Int:=Alh (n.toNat+1) n k b
theorem Ez {n k b:Int} (h:n<thr k b):digits n k b=[n]:=by unfold digits Alh;rw [if_pos h]
theorem F6 {n k b:Int} (h:thr k b<=n):digits n k b=(thr k b+(n - thr k b) % (36 - thr k b))::digits ((n - thr k b) / (36 - thr k b)) (k+36) b:=by
 have ht:=Kf k b;obtain ⟨h0,h1⟩:=less n (thr k b) ht.1 ht.2 h;unfold digits;rw [Alh,if_neg jO];rw [Abm n.toNat (((n - thr k b) / (36 - thr k b)).toNat+1) _ (k+36) b h0 h1 jO]
def Fg:Int:=2147483647
def num (b:Int):List Int->Int->Int->Int->Nat->Option (Int × Nat)
 | [],_,_,_,_=>none
 | d::l,k,w,s,u=>if Fg<w\/Fg<s+d*w then none else if d<thr k b then some (s+d*w,u+1) else num b l (k+36) (w*(36 - thr k b)) (s+d*w) (u+1)
theorem parts (n t:Int) (ht:1<=t) (ht':t<=26):n=(t+(n - t) % (36 - t))+(36 - t)*((n - t) / (36 - t))/\t<=t+(n - t) % (36 - t)/\t+(n - t) % (36 - t)<36:=by
 have h1:=Int.emod_add_mul_ediv (n - t) (36 - t);have h2:=Int.emod_nonneg (n - t) (show 36 - t ≠ 0 by omega);have h3:=Int.emod_lt_of_pos (n - t) (show 0<36 - t by omega);omega
theorem Acl (w n d t q s:Int) (h:n=d+(36 - t)*q):s+n*w=(s+d*w)+q*(w*(36 - t)):=by
 subst h;rw [Int.add_mul,<- Int.add_assoc];congr 1;rw [Int.mul_comm (36 - t) q,Int.mul_assoc,Int.mul_comm (36 - t) w]
theorem Aft (w t N:Int) (hN:N<=126322567) (ht:2<=t) (ht':t<=26) (h:t*w<=N):w*(36 - t)<=Fg:=by
 unfold Fg;have hc:t=2\/t=3\/t=4\/t=5\/t=6\/t=7\/t=8\/t=9\/t=10\/t=11\/t=12\/t=13\/t=14\/t=15\/t=16\/t=17\/t=18\/t=19\/t=20\/t=21\/t=22\/t=23\/t=24\/t=25\/t=26:=jO
 rcases hc with rfl | rfl | rfl | rfl | rfl | rfl | rfl | rfl | rfl | rfl | rfl | rfl | rfl | rfl | rfl | rfl | rfl | rfl | rfl | rfl | rfl | rfl | rfl | rfl | rfl<;>omega
theorem An5:∀ (j:Nat),(35:Int) ^ j<=126322567->(35:Int) ^ (j+1)<=Fg
 | 0,_=>by decide
 | 1,_=>by decide
 | 2,_=>by decide
 | 3,_=>by decide
 | 4,_=>by decide
 | 5,_=>by decide
 | j+6,h=>by
  exfalso;have h1:(1:Int)<=35 ^ j:=Int.pow_pos jD;have h2:(35:Int) ^ (j+6)=35 ^ j*1838265625:=by rw [Int.pow_add];rfl
  rw [h2] at h;have:(1838265625:Int)<=35 ^ j*1838265625:=by
   have:=Int.mul_le_mul_of_nonneg_right h1 (show (0:Int)<=1838265625 by decide);omega
  omega
theorem Yl (b N:Int) (hN:N<=126322567):∀ (f:Nat) (n k w s:Int) (u:Nat) (rest:List Int),n.toNat<f->0<=n->1<=w->0<=s->s+n*w<=N->w<=Fg->(thr k b=1->∃ j:Nat,w=35 ^ j) ->
  num b (digits n k b ++ rest) k w s u=some (s+n*w,u+(digits n k b).length)
 | 0,_,_,_,_,_,_,hf,_,_,_,_,_,_=>by omega
 | f+1,n,k,w,s,u,rest,hf,hn,hw,hs,hsum,hwl,hpow=>by
  have ht:=Kf k b;have hlim:(N:Int)<=Fg:=by unfold Fg;omega
  by_cases h:n<thr k b
  ·rw [Ez h];simp only [jah,List.nil_append,num];rw [if_neg jO,if_pos h];rfl
  ·have h':thr k b<=n:=jO
   obtain ⟨q0,q1⟩:=less n (thr k b) ht.1 ht.2 h';obtain ⟨p1,p2,p3⟩:=parts n (thr k b) ht.1 ht.2;rw [F6 h'];generalize hd:thr k b+(n - thr k b) % (36 - thr k b)=d at p1 p2 p3 ⊢;generalize hq:(n - thr k b) / (36 - thr k b)=q at p1 q0 q1 ⊢;have e:=Acl w n d (thr k b) q s p1;have hw':1<=w*(36 - thr k b):=Int.mul_pos jO jO;have hdw:0<=d*w:=Int.mul_nonneg jO jO;have hqw:0<=q*(w*(36 - thr k b)):=Int.mul_nonneg q0 jO;have htw:thr k b*w<=N:=by
    have:=Int.mul_le_mul_of_nonneg_right h' (show 0<=w by omega);omega
   have hwn:w*(36 - thr k b)<=Fg:=by
    by_cases ht1:thr k b=1
    ·obtain ⟨j,rfl⟩:=hpow ht1;rw [ht1] at htw ⊢;have:=An5 j jO;rw [Int.pow_succ] at this;exact this
    ·exact Aft w (thr k b) N hN jO ht.2 htw
   have ih:=Yl b N hN f q (k+36) (w*(36 - thr k b)) (s+d*w) (u+1) rest jO q0 hw' jO jO hwn (λh1=>by
    have:=Ayu k b;have ht1:thr k b=1:=jO
    obtain ⟨j,rfl⟩:=hpow ht1;exact ⟨j+1,by rw [ht1,Int.pow_succ];rfl⟩)
   simp only [jah,num];rw [if_neg jO,if_neg jO,ih,e];simp only [jac,Option.some.injEq,Prod.mk.injEq,true_and];omega
theorem Ait (b:Int):∀ (l:List Int) (k w s:Int) (u:Nat) (x:Int) (v:Nat),(∀ d ∈ l,0<=d/\d<36)->num b l k w s u=some (x,v) ->
  ∃ (n:Int) (m:Nat),0<=n/\x=s+n*w/\v=u+m/\m<=l.length/\1<=m/\l.take m=digits n k b
 | [],_,_,_,_,_,_,_,h=>by cases h
 | d::l,k,w,s,u,x,v,hl,h=>by
  have ht:=Kf k b;have hd:=hl d jS;unfold num at h;split at h
  ·cases h
  ·split at h
   ·rename_i hlt
    simp only [Option.some.injEq,Prod.mk.injEq] at h;obtain ⟨rfl,rfl⟩:=h;exact ⟨d,1,hd.1,rfl,rfl,by simp,jaa _,by rw [Ez hlt];rfl⟩
   ·rename_i hge
    obtain ⟨q,m,hq,hx,hv,hm,hm1,htk⟩:=Ait b l _ _ _ _ _ _ (λy hy=>hl y (by simp [hy])) h;have hpos:0<36 - thr k b:=jO
    have hqt:0<=(36 - thr k b)*q:=Int.mul_nonneg jO hq;refine ⟨d+(36 - thr k b)*q,m+1,by omega,?_,by omega,by simp only [jac];omega,by omega,?_⟩
    ·rw [hx];exact (Acl w (d+(36 - thr k b)*q) d (thr k b) q s rfl).symm
    ·have e1:d+(36 - thr k b)*q - thr k b=(d - thr k b)+(36 - thr k b)*q:=jO
     have e2:(d+(36 - thr k b)*q - thr k b) % (36 - thr k b)=d - thr k b:=by
      rw [e1,Int.add_mul_emod_self_left];exact Int.emod_eq_of_lt jO jO
     have e3:(d+(36 - thr k b)*q - thr k b) / (36 - thr k b)=q:=by
      rw [e1,Int.add_mul_ediv_left _ _ jO,Int.ediv_eq_zero_of_lt jO jO];omega
     rw [F6 jO,e2,e3,List.take_succ_cons,htk];congr 1;omega
end Puny
end
section
namespace Puny
theorem Abl (n k b:Int):digits n k b ≠ []:=by
 by_cases h:n<thr k b
 · rw [Ez h];simp
 · rw [F6 jO];simp
def emit (ad:Int->Int->Bool->Int):List Int->Int->Int->Bool->List Int
 | [],_,_,_=>[]
 | d::ds,b,c,f=>digits d 36 b ++ emit ad ds (ad d (c+1) f) (c+1) false
end Puny
end
section
namespace Puny
structure Rd where
 out:List Int
 n:Int
 i:Int
def Bp (r:Rd) (d:Int):Rd :=
 ⟨r.out.insertIdx ((r.i+d) % (r.out.length+1)).toNat (r.n+(r.i+d) / (r.out.length+1)),r.n+(r.i+d) / (r.out.length+1),(r.i+d) % (r.out.length+1)+1⟩
def Gc (r:Rd) (ds:List Int):Rd:=ds.foldl Bp r
def row (m:Int):List Int->Int->List Int × Int
 | [],e=>([],e)
 | x::t,e=>if x<m then row m t (e+1) else if x=m then (e::(row m t 0).1,(row m t 0).2) else row m t e
def spot (r:Rd):Int:=r.n*(r.out.length+1)+r.i
def le (m:Int) (l:List Int):List Int:=l.filter λx=>decide (x<=m)
def lt (m:Int) (l:List Int):List Int:=l.filter λx=>decide (x<m)
theorem V6 (m:Int) (p:List Int) (x:Int):le m (p ++ [x])=if x<=m then le m p ++ [x] else le m p:=by
 unfold le;rw [List.filter_append];by_cases h:x<=m<;>simp [h]
theorem Hl (m:Int) (x:Int) (t:List Int):lt m (x::t)=if x<m then x::lt m t else lt m t:=by
 unfold lt;by_cases h:x<m<;>simp [h]
theorem Aro (a b:List Int) (x:Int):(a ++ b).insertIdx a.length x=a ++ x::b:=by
 induction a with
 | nil=>simp
 | cons y a ih=>simpa using ih
theorem Aya (r:Rd) (a b:List Int) (m d:Int) (ho:r.out=a ++ b) (h:spot r+d=m*(r.out.length+1)+a.length):Bp r d=⟨a ++ m::b,m,a.length+1⟩:=by
 have hlen:r.out.length=a.length+b.length:=by rw [ho,jab]
 have hc:(0:Int)<(r.out.length:Int)+1:=jO
 have e:r.i+d=(a.length:Int)+((r.out.length:Int)+1)*(m - r.n):=by
  unfold spot at h;rw [Int.mul_sub,Int.mul_comm _ m,Int.mul_comm _ r.n];omega
 have e1:(r.i+d) % ((r.out.length:Int)+1)=a.length:=by
  rw [e,Int.add_mul_emod_self_left];exact Int.emod_eq_of_lt jO jO
 have e2:(r.i+d) / ((r.out.length:Int)+1)=m - r.n:=by
  rw [e,Int.add_mul_ediv_left _ _ jO,Int.ediv_eq_zero_of_lt jO jO];omega
 unfold Bp;rw [e1,e2,Int.toNat_natCast,show r.n+(m - r.n)=m by omega,ho,Aro]
theorem Mg (m:Int):∀ (t p:List Int) (e:Int) (r:Rd),r.out=le m p ++ lt m t->spot r+e=m*(r.out.length+1)+(le m p).length ->
  (Gc r (row m t e).1).out=le m (p ++ t)/\spot (Gc r (row m t e).1)+(row m t e).2=m*((le m (p ++ t)).length+1)+(le m (p ++ t)).length
 | [],p,e,r,ho,hs=>by
  have ho':r.out=le m p:=by rw [ho];simp [lt]
  rw [List.append_nil];show r.out=le m p/\spot r+e=_;rw [hs,ho'];exact ⟨rfl,rfl⟩
 | x::t,p,e,r,ho,hs=>by
  have hap:p ++ x::t=(p ++ [x]) ++ t:=by simp
  rw [hap];unfold row;by_cases h1:x<m
  ·rw [if_pos h1];have hle:le m (p ++ [x])=le m p ++ [x]:=by rw [V6,if_pos jO]
   refine Mg m t (p ++ [x]) (e+1) r ?_ ?_
   ·rw [ho,Hl,if_pos h1,hle];simp
   ·rw [hle,jab,<- Int.add_assoc,hs];simp;omega
  ·rw [if_neg h1];by_cases h2:x=m
   ·subst h2;rw [if_pos rfl];have hle:le x (p ++ [x])=le x p ++ [x]:=by rw [V6,if_pos jO]
    have ho2:r.out=le x p ++ lt x t:=by rw [ho,Hl,if_neg h1]
    have hst:=Aya r (le x p) (lt x t) x e ho2 hs;show (Gc (Bp r e) (row x t 0).1).out=_/\spot (Gc (Bp r e) (row x t 0).1)+(row x t 0).2=_;rw [hst];refine Mg x t (p ++ [x]) 0 _ ?_ ?_
    ·rw [hle];simp
    ·unfold spot;simp only [hle,jab,jac,List.length_nil];omega
   ·rw [if_neg h2];have hle:le m (p ++ [x])=le m p:=by rw [V6,if_neg jO]
    refine Mg m t (p ++ [x]) e r ?_ ?_
    ·rw [ho,Hl,if_neg h1,hle]
    ·rw [hle,hs]
def rows (l:List Int):List Int->Int->Int->List Int
 | [],_,_=>[]
 | m::ms,n,e=>(row m l (e+(m - n)*((lt n l).length+1))).1 ++ rows l ms (m+1) ((row m l (e+(m - n)*((lt n l).length+1))).2+1)
def Wm (l:List Int):List Int->Int->Prop
 | [],n=>∀ x ∈ l,x<n
 | m::ms,n=>n<=m/\(∀ x ∈ l,x<n\/m<=x)/\Wm l ms (m+1)
theorem lt_next (l:List Int) (m:Int):lt (m+1) l=le m l:=by
 unfold lt le;congr 1
 funext x
 rw [Bool.eq_iff_iff,decide_eq_true_eq,decide_eq_true_eq];omega
theorem Apg {l:List Int} {n m:Int} (hnm:n<=m) (h:∀ x ∈ l,x<n\/m<=x):lt m l=lt n l:=by
 unfold lt;apply List.filter_congr;intro x hx;rw [Bool.eq_iff_iff,decide_eq_true_eq,decide_eq_true_eq];have:=h x hx;omega
theorem Aw0 {l:List Int} {n:Int} (h:∀ x ∈ l,x<n):lt n l=l:=by
 unfold lt;rw [List.filter_eq_self];intro x hx;simpa using h x hx
theorem R4 (l:List Int):∀ (ms:List Int) (n e:Int) (r:Rd),Wm l ms n->r.out=lt n l->spot r+e=n*(r.out.length+1)->(Gc r (rows l ms n e)).out=l
 | [],n,e,r,hr,ho,_=>by
  show r.out=l;rw [ho,Aw0 hr]
 | m::ms,n,e,r,hr,ho,hs=>by
  obtain ⟨h1,h2,h3⟩:=hr;have hlt:=Apg h1 h2;unfold rows;rw [Gc,List.foldl_append];have key:=Mg m l [] (e+(m - n)*((lt n l).length+1)) r (by rw [ho,hlt];simp [le]) (by
   rw [<- Int.add_assoc,hs,ho,Int.sub_mul];simp [le];omega)
  rw [List.nil_append] at key;refine R4 l ms (m+1) _ _ h3 (by rw [lt_next];exact key.1) ?_;have hk:=key.2;have hl:=congrArg List.length key.1;show spot (Gc r _)+(_+1)=(m+1)*((Gc r _).out.length+1);rw [hl,<- Int.add_assoc,hk,Int.add_mul];omega
theorem Od:∀ (l:List Int) (k:Nat) (x:Int),k<=l.length->l.insertIdx k x=l.take k ++ x::l.drop k
 | _,0,_,_=>by simp
 | [],k+1,_,h=>by simp at h
 | y::l,k+1,x,h=>by
  have:=Od l k x (by simpa using h);simpa using this
def Uo (r:Rd):Prop:=∃ A B:List Int,r.out=A ++ B/\r.i=A.length/\(∀ x ∈ A,x<=r.n)/\∀ x ∈ B,x<r.n
theorem J0 {r:Rd} {d:Int} (h:Uo r) (hd:0<=d):∃ A B:List Int,(Bp r d).out=A ++ (Bp r d).n::B/\r.out=A ++ B/\(Bp r d).i=A.length+1/\(∀ x ∈ A,x<=(Bp r d).n)/\(∀ x ∈ B,x<(Bp r d).n) /\
  (Bp r d).n*(r.out.length+1)+A.length=spot r+d:=by
 obtain ⟨A,B,ho,hi,hA,hB⟩:=h;have hlen:r.out.length=A.length+B.length:=by rw [ho,jab]
 have hc:(0:Int)<(r.out.length:Int)+1:=jO
 have hm0:=Int.emod_nonneg (r.i+d) (show (r.out.length:Int)+1 ≠ 0 by omega);have hm1:=Int.emod_lt_of_pos (r.i+d) hc;have hdm:=Int.emod_add_mul_ediv (r.i+d) ((r.out.length:Int)+1);have hq0:0<=(r.i+d) / ((r.out.length:Int)+1):=Int.ediv_nonneg jO jO;generalize hk:((r.i+d) % ((r.out.length:Int)+1))=k at hm0 hm1 hdm;generalize hq:((r.i+d) / ((r.out.length:Int)+1))=q at hq0 hdm;have hall:∀ x ∈ r.out,x<=r.n:=by
  intro x hx;rw [ho,jap] at hx;rcases hx with hx | hx
  ·exact hA x hx
  ·have:=hB x hx;omega
 have hst:Bp r d=⟨r.out.take k.toNat ++ (r.n+q)::r.out.drop k.toNat,r.n+q,k+1⟩:=by
  unfold Bp;rw [hk,hq,Od _ _ _ jO]
 rw [hst];refine ⟨r.out.take k.toNat,r.out.drop k.toNat,rfl,(List.take_append_drop _ _).symm,?_,λx hx=>?_,λx hx=>?_,?_⟩
 ·simp only [jak];omega
 ·have:=hall x (List.mem_of_mem_take hx);simp only;omega
 ·simp only;by_cases hq1:1<=q
  ·have:=hall x (List.mem_of_mem_drop hx);omega
  ·have hqz:q=0:=jO
   subst hqz;rw [Int.mul_zero] at hdm;have hx':x ∈ B:=by
    rw [ho,List.drop_append] at hx;rw [List.drop_of_length_le jO,List.nil_append] at hx;exact List.mem_of_mem_drop hx
   have:=hB x hx';omega
 ·simp only [jak,spot];rw [Int.add_mul,show ((min k.toNat r.out.length:Nat):Int)=k by omega];have:((r.out.length:Int)+1)*q=q*((r.out.length:Int)+1):=Int.mul_comm _ _;omega
theorem Acb {r:Rd} {d:Int} (h:Uo r) (hd:0<=d):Uo (Bp r d):=by
 obtain ⟨A,B,h1,-,h3,h4,h5,-⟩:=J0 h hd;refine ⟨A ++ [(Bp r d).n],B,by rw [h1];simp,by rw [h3];simp,λx hx=>?_,h5⟩;rw [jap,List.mem_singleton] at hx;rcases hx with hx | rfl
 · exact h4 x hx
 · exact Int.le_refl _
theorem X9:∀ {ds:List Int} {r:Rd},Uo r->(∀ d ∈ ds,0<=d)->Uo (Gc r ds)
 | [],_,h,_=>h
 | d::ds,r,h,hd=>X9 (ds:=ds) (Acb h (hd d jS)) λx hx=>hd x (by simp [hx])
theorem Rw:∀ (ds:List Int) (r:Rd),Uo r->(∀ d ∈ ds,0<=d)->(Gc r ds).out.length=r.out.length+ds.length
 | [],_,_,_=>rfl
 | d::ds,r,h,hd=>by
  have h0:=hd d jS;obtain ⟨A,B,h1,h2,-⟩:=J0 h h0;have:=Rw ds (Bp r d) (Acb h h0) λx hx=>hd x (by simp [hx]);show (Gc (Bp r d) ds).out.length=_;rw [this,h1,h2];simp only [jab,jac];omega
theorem Awp {A B A' B':List Int} {n n':Int} (h:A ++ n::B=A' ++ n'::B') (hA:∀ x ∈ A,x<=n) (hB:∀ x ∈ B,x<n) (hA':∀ x ∈ A',x<=n') (hB':∀ x ∈ B',x<n'):A=A'/\n=n'/\B=B':=by
 have hn:n=n':=by
  have h1:n ∈ A' ++ n'::B':=by rw [<- h];simp
  have h2:n' ∈ A ++ n::B:=by rw [h];simp
  rw [jap,jal] at h1 h2;have g1:n<=n':=by
   rcases h1 with h1 | h1 | h1
   · exact hA' n h1
   · omega
   · have:=hB' n h1;omega
  have g2:n'<=n:=by
   rcases h2 with h2 | h2 | h2
   · exact hA n' h2
   · omega
   · have:=hB n' h2;omega
  omega
 subst hn;rcases List.append_eq_append_iff.1 h with ⟨C,rfl,hC⟩ | ⟨C,rfl,hC⟩
 ·cases C with
  | nil=>simp at hC;simp [hC]
  | cons y C =>
   simp only [jah,List.cons.injEq] at hC;exfalso;have:=hB n (by rw [hC.2];simp);omega
 ·cases C with
  | nil=>simp at hC;simp [hC]
  | cons y C =>
   simp only [jah,List.cons.injEq] at hC;exfalso;have:=hB' n (by rw [hC.2];simp);omega
theorem Ajb {r:Rd} (hr:Uo r):∀ (k:Nat) (ds es:List Int),ds.length=k->es.length=k->(∀ d ∈ ds,0<=d)->(∀ d ∈ es,0<=d)->(Gc r ds).out=(Gc r es).out->ds=es
 | 0,ds,es,h1,h2,_,_,_=>by rw [List.eq_nil_of_length_eq_zero h1,List.eq_nil_of_length_eq_zero h2]
 | k+1,ds,es,h1,h2,hd,he,h=>by
  rcases List.eq_nil_or_concat ds with rfl | ⟨ds,d,rfl⟩
  ·simp at h1
  rcases List.eq_nil_or_concat es with rfl | ⟨es,e,rfl⟩
  ·simp at h2
  simp only [List.concat_eq_append,jab,jac,List.length_nil,jap,List.mem_singleton] at h1 h2 hd he h ⊢;have kd:=X9 (r:=r) (ds:=ds) hr λx hx=>hd x (.inl hx);have ke:=X9 (r:=r) (ds:=es) hr λx hx=>he x (.inl hx);have ed:Gc r (ds ++ [d])=Bp (Gc r ds) d:=by unfold Gc;rw [List.foldl_append];rfl
  have ee:Gc r (es ++ [e])=Bp (Gc r es) e:=by unfold Gc;rw [List.foldl_append];rfl
  rw [ed,ee] at h;obtain ⟨A,B,a1,a2,-,a4,a5,a6⟩:=J0 kd (hd d (.inr rfl));obtain ⟨A',B',b1,b2,-,b4,b5,b6⟩:=J0 ke (he e (.inr rfl));rw [a1,b1] at h;obtain ⟨rfl,hn,rfl⟩:=Awp h a4 a5 b4 b5;have hout:(Gc r ds).out=(Gc r es).out:=by rw [a2,b2]
  obtain rfl:=Ajb hr k ds es jO jO (λx hx=>hd x (.inl hx)) (λx hx=>he x (.inl hx)) hout;have hde:d=e:=by
   rw [<- hn] at b6;omega
  rw [hde]
theorem Mf (m:Int):∀ (t:List Int) (e:Int),0<=e->(∀ d ∈ (row m t e).1,0<=d)/\0<=(row m t e).2
 | [],_,h=>⟨(λd hd=>by cases hd),h⟩
 | x::t,e,h=>by
  unfold row;split
  ·exact Mf m t (e+1) jO
  ·split
   ·obtain ⟨h1,h2⟩:=Mf m t 0 jO;refine ⟨λd hd=>?_,h2⟩;rcases jal.1 hd with rfl | hd
    · exact h
    · exact h1 d hd
   ·exact Mf m t e h
theorem Nn (l:List Int):∀ (ms:List Int) (n e:Int),Wm l ms n->0<=e->∀ d ∈ rows l ms n e,0<=d
 | [],_,_,_,_=>λd hd=>by cases hd
 | m::ms,n,e,hr,he=>by
  obtain ⟨h1,-,h3⟩:=hr;have h0:0<=e+(m - n)*((lt n l).length+1):=by
   have:=Int.mul_nonneg (show 0<=m - n by omega) (show (0:Int)<=((lt n l).length:Int)+1 by omega);omega
  obtain ⟨g1,g2⟩:=Mf m l _ h0;intro d hd;unfold rows at hd;rw [jap] at hd;rcases hd with hd | hd
  ·exact g1 d hd
  ·exact Nn l ms (m+1) _ h3 jO d hd
def start (p:List Int):Rd:=⟨p,128,0⟩
theorem Zq {p:List Int} (h:∀ x ∈ p,x<128):Uo (start p):=⟨[],p,rfl,rfl,(λx hx=>by cases hx),h⟩
theorem Z8 (l ms:List Int) (h:Wm l ms 128):(Gc (start (lt 128 l)) (rows l ms 128 0)).out=l :=
 R4 l ms 128 0 _ h rfl (by simp [spot,start])
theorem Anb {p ds l ms:List Int} (hp:∀ x ∈ p,x<128) (hd:∀ d ∈ ds,0<=d) (hl:(Gc (start p) ds).out=l) (hpl:lt 128 l=p) (h:Wm l ms 128):rows l ms 128 0=ds:=by
 have hk:=Zq hp;have hw:=Z8 l ms h;rw [hpl] at hw;have hn:=Nn l ms 128 0 h jO;have l1:=Rw (rows l ms 128 0) (start p) hk hn;have l2:=Rw ds (start p) hk hd;rw [hw] at l1;rw [hl] at l2;exact Ajb hk ds.length _ _ jO rfl hn hd (by rw [hw,hl])
end Puny
end
section
namespace Puny
def least (n:Int):List Int->Int->Int
 | [],m=>m
 | x::t,m=>least n t (if n<=x/\x<m then x else m)
theorem least_le (n:Int):∀ (l:List Int) (m:Int),least n l m<=m
 | [],m=>Int.le_refl _
 | x::t,m=>by
  unfold least;have:=least_le n t (if n<=x/\x<m then x else m);split at this
  · rename_i h;rw [if_pos h];omega
  · rename_i h;rw [if_neg h];exact this
theorem Ts (n:Int):∀ (l:List Int) (m:Int),∀ x ∈ l,n<=x->least n l m<=x
 | [],_,x,hx,_=>by cases hx
 | y::t,m,x,hx,hn=>by
  unfold least;rcases jal.1 hx with rfl | hx
  ·have:=least_le n t (if n<=x/\x<m then x else m);by_cases h:n<=x/\x<m
   · rw [if_pos h] at this ⊢;exact this
   · rw [if_neg h] at this ⊢;omega
  ·exact Ts n t _ x hx hn
theorem Yb (n:Int):∀ (l:List Int) (m:Int),least n l m=m\/(least n l m ∈ l/\n<=least n l m)
 | [],m=>.inl rfl
 | y::t,m=>by
  unfold least;by_cases h:n<=y/\y<m
  ·rw [if_pos h];rcases Yb n t y with e | ⟨e1,e2⟩
   · exact .inr ⟨by rw [e];simp,by rw [e];exact h.1⟩
   · exact .inr ⟨by simp [e1],e2⟩
  ·rw [if_neg h];rcases Yb n t m with e | ⟨e1,e2⟩
   · exact .inl e
   · exact .inr ⟨by simp [e1],e2⟩
theorem Acf {n m:Int} (h:n<=m):∀ (l:List Int),(lt n l).length<=(lt m l).length
 | []=>jaa _
 | x::t=>by
  have:=Acf h t;rw [Hl,Hl];by_cases h1:x<n
  ·rw [if_pos h1,if_pos jO];simp only [jac];omega
  ·rw [if_neg h1];split
   · simp only [jac];omega
   · exact this
theorem Nc {n m:Int} (h:n<=m):∀ (l:List Int),m ∈ l->(lt n l).length<(lt (m+1) l).length
 | [],hm=>by cases hm
 | x::t,hm=>by
  rw [Hl,Hl];rcases jal.1 hm with rfl | hm
  ·rw [if_neg jO,if_pos jO,jac];have:=Acf (show n<=m+1 by omega) t;omega
  ·have:=Nc h t hm;by_cases h1:x<n
   ·rw [if_pos h1,if_pos jO];simp only [jac];omega
   ·rw [if_neg h1];split
    · simp only [jac];omega
    · exact this
theorem Tu (n:Int) (l:List Int):(lt n l).length<=l.length:=by unfold lt;exact List.length_filter_le _ _
theorem Aex {n:Int}:∀ {l:List Int},(lt n l).length=l.length->∀ x ∈ l,x<n
 | [],_,x,hx=>by cases hx
 | y::t,h,x,hx=>by
  rw [Hl] at h;have h0:=Tu n t;by_cases h1:y<n
  ·rw [if_pos h1] at h;simp only [jac] at h;rcases jal.1 hx with rfl | hx
   · exact h1
   · exact Aex jO x hx
  ·rw [if_neg h1,jac] at h;omega
theorem Aph {n:Int}:∀ {l:List Int},(lt n l).length ≠ l.length->∃ x ∈ l,n<=x
 | [],h=>absurd rfl h
 | y::t,h=>by
  rw [Hl] at h;by_cases h1:y<n
  ·rw [if_pos h1] at h;simp only [jac] at h;obtain ⟨x,hx,hn⟩:=Aph (l:=t) (n:=n) jO;exact ⟨x,by simp [hx],hn⟩
  ·exact ⟨y,by simp,by omega⟩
def msF:Nat->List Int->Int->List Int
 | 0,_,_=>[]
 | f+1,l,n=>if (lt n l).length=l.length then [] else least n l 1114112::msF f l (least n l 1114112+1)
theorem Ah4 {l:List Int} {n:Int} (hl:∀ x ∈ l,x<1114112) (h:(lt n l).length ≠ l.length):least n l 1114112 ∈ l/\n<=least n l 1114112/\∀ x ∈ l,x<n\/least n l 1114112<=x:=by
 obtain ⟨x,hx,hn⟩:=Aph h;have h1:=Ts n l 1114112 x hx hn;rcases Yb n l 1114112 with e | ⟨e1,e2⟩
 ·have:=hl x hx;omega
 ·refine ⟨e1,e2,λy hy=>?_⟩;by_cases hy1:y<n
  · exact .inl hy1
  · exact .inr (Ts n l 1114112 y hy jO)
theorem Ack:∀ (f:Nat) (l:List Int) (n:Int),(∀ x ∈ l,x<1114112)->l.length - (lt n l).length<=f->Wm l (msF f l n) n
 | 0,l,n,hl,hf=>by
  have:=Tu n l;exact Aex jO
 | f+1,l,n,hl,hf=>by
  unfold msF;by_cases h:(lt n l).length=l.length
  ·rw [if_pos h];exact Aex h
  ·rw [if_neg h];obtain ⟨h1,h2,h3⟩:=Ah4 hl h;have:=Nc h2 l h1;exact ⟨h2,h3,Ack f l _ hl jO⟩
def Fv (l:List Int):List Int:=rows l (msF l.length l 128) 128 0
theorem Lm (l:List Int) (hl:∀ x ∈ l,x<1114112):Wm l (msF l.length l 128) 128:=Ack _ _ _ hl jO
theorem Q7 (ad:Int->Int->Bool->Int) (d:Int) (ds:List Int) (b c:Int) (f:Bool):emit ad (d::ds) b c f=digits d 36 b ++ emit ad ds (ad d (c+1) f) (c+1) false:=rfl
def Fj (l ms:List Int) (m:Int) (t:List Int) (e:Int):List Int:=(row m t e).1 ++ rows l ms (m+1) ((row m t e).2+1)
theorem Anc (l ms:List Int) (m n e:Int):rows l (m::ms) n e=Fj l ms m l (e+(m - n)*((lt n l).length+1)):=rfl
theorem As9 {l ms:List Int} {m x:Int} {t:List Int} {e:Int} (h:x<m):Fj l ms m (x::t) e=Fj l ms m t (e+1):=by unfold Fj;rw [row,if_pos h]
theorem Atb {l ms:List Int} {m:Int} {t:List Int} {e:Int}:Fj l ms m (m::t) e=e::Fj l ms m t 0:=by
 unfold Fj;rw [row,if_neg jO,if_pos rfl];rfl
theorem Ata {l ms:List Int} {m x:Int} {t:List Int} {e:Int} (h:m<x):Fj l ms m (x::t) e=Fj l ms m t e:=by unfold Fj;rw [row,if_neg jO,if_neg jO]
theorem Axz (l ms:List Int) (m e:Int):Fj l ms m [] e=rows l ms (m+1) (e+1):=rfl
end Puny
end
section
open Go.RowKit
namespace Puny
def Pn (n:Int):Int:=if n<26 then 97+n else 22+n
def valOf (n:Int):Option Int:=if 97<=n/\n<=122 then some (n - 97) else if 65<=n/\n<=90 then some (n - 65) else if 48<=n/\n<=57 then some (n - 48+26) else none
def Gu:Nat->Int->Int->Int
 | 0,d,k=>k+36*d / (d+38)
 | f+1,d,k=>if 455<d then Gu f (d / 35) (k+36) else k+36*d / (d+38)
theorem Uq:∀ (f g:Nat) (d k:Int),0<=d->d.toNat<=f->d.toNat<=g->Gu f d k=Gu g d k
 | 0,0,_,_,_,_,_=>rfl
 | 0,g+1,d,k,h0,hf,_=>by unfold Gu;rw [if_neg jO]
 | f+1,0,d,k,h0,_,hg=>by unfold Gu;rw [if_neg jO]
 | f+1,g+1,d,k,h0,hf,hg=>by
  unfold Gu;split
  · exact Uq f g _ _ jO jO jO
  · rfl
def Vl (d k:Int):Int:=Gu d.toNat d k
theorem Aqh {d k:Int} (h:455<d):Vl d k=Vl (d / 35) (k+36):=by
 unfold Vl;obtain ⟨f,hf⟩:∃ f,d.toNat=f+1:=⟨d.toNat - 1,by omega⟩
 rw [hf,Gu,if_pos h];exact Uq _ _ _ _ jO jO jO
theorem Aqg {d k:Int} (h:¬ 455<d):Vl d k=k+36*d / (d+38):=by
 unfold Vl;cases d.toNat with
 | zero=>rfl
 | succ f=>rw [Gu,if_neg h]
def adapt (delta count:Int) (first:Bool):Int:=Vl ((if first then delta / 700 else delta / 2)+(if first then delta / 700 else delta / 2) / count) 0
end Puny
namespace Puny
def Jo (n:Int):UInt8:=UInt8.ofNat (Pn n).toNat
theorem Q0 {n:Int} (h:0<=n/\n<=35):((Jo n).toNat:Int)=Pn n:=by
 have h1:0<=Pn n/\Pn n<256:=by unfold Pn;split<;>omega
 unfold Jo;rw [UInt8.toNat_ofNat',Nat.mod_eq_of_lt (by show (Pn n).toNat<256;omega)];omega
def Bu (n k b:Int):List UInt8:=(digits n k b).map Jo
theorem Aee {n k b:Int} (h:n<thr k b):Bu n k b=[Jo n]:=by unfold Bu;rw [Ez h];rfl
theorem Aef {n k b:Int} (h:thr k b<=n):Bu n k b=Jo (thr k b+(n - thr k b) % (36 - thr k b))::Bu ((n - thr k b) / (36 - thr k b)) (k+36) b:=by unfold Bu;rw [F6 h];rfl
end Puny
end
section
open Go.RowKit Utf
namespace Puny
theorem Aa5:∀ (f:Nat) (d k:Int),0<=d->k<=Gu f d k/\Gu f d k<=k+d+36
 | 0,d,k,h=>by
  have h1:0<=36*d / (d+38):=Int.ediv_nonneg jO jO;have h2:36*d / (d+38)<=36:=by
   have:=Int.ediv_le_ediv (c:=d+38) jO (show 36*d<=36*(d+38) by omega);rwa [Int.mul_ediv_cancel _ jO] at this
  unfold Gu;omega
 | f+1,d,k,h=>by
  unfold Gu;split
  ·have:=Aa5 f (d / 35) (k+36) jO;omega
  ·have h1:0<=36*d / (d+38):=Int.ediv_nonneg jO jO;have h2:36*d / (d+38)<=36:=by
    have:=Int.ediv_le_ediv (c:=d+38) jO (show 36*d<=36*(d+38) by omega);rwa [Int.mul_ediv_cancel _ jO] at this
   omega
theorem Af2 {delta count:Int} (first:Bool) (hd:0<=delta/\delta<=2147483647) (hc:1<=count):0<=adapt delta count first/\adapt delta count first<=5000000000:=by
 unfold adapt;obtain ⟨d,hdd⟩:∃ d,d=(if first then delta / 700 else delta / 2):=⟨_,rfl⟩
 rw [<- hdd];have hb:0<=d/\d<=2147483647:=by rw [hdd];split<;>omega
 have hq0:0<=d / count:=Int.ediv_nonneg hb.1 jO;have hq1:d / count<=d:=Int.ediv_le_self _ hb.1;have:=Aa5 (d+d / count).toNat (d+d / count) 0 jO;unfold Vl;omega
def Cv (ds:List Int) (b c:Int) (f:Bool):List UInt8:=(emit adapt ds b c f).map Jo
theorem Adg (d:Int) (ds:List Int) (b c:Int) (f:Bool):Cv (d::ds) b c f=Bu d 36 b ++ Cv ds (adapt d (c+1) f) (c+1) false:=by
 unfold Cv Bu;rw [Q7,List.map_append]
def Bg (l:List Int):List UInt8:=(lt 128 l).map λx=>UInt8.ofNat x.toNat
def Kk (l:List Int):List UInt8:=if (lt 128 l).length=0 then [] else [45]
def Bk (l:List Int):List UInt8:=Bg l ++ Kk l ++ Cv (Fv l) 72 (lt 128 l).length true
theorem Aw4 {f:Nat} {l:List Int} {n:Int} (h:(lt n l).length=l.length):msF f l n=[]:=by
 cases f with
 | zero=>rfl
 | succ f=>unfold msF;rw [if_pos h]
theorem Aw5 {f:Nat} {l:List Int} {n:Int} (h:(lt n l).length ≠ l.length):msF (f+1) l n=least n l 1114112::msF f l (least n l 1114112+1):=by rw [msF,if_neg h]
theorem Amd (n x:Int) (t:List Int) (z:Int):least n (x::t) z=least n t (if n<=x/\x<z then x else z):=rfl
theorem A11 (m:Int) (l:List Int):(le m l).length<=l.length:=by unfold le;exact List.length_filter_le _ _
theorem A0h (m:Int) (p:List Int) (x:Int):lt m (p ++ [x])=if x<m then lt m p ++ [x] else lt m p:=by
 unfold lt;rw [List.filter_append];by_cases h:x<m<;>simp [h]
end Puny
def Aut (bs:List UInt8) (ok:Bool) (w:World) (e:Ending) (w':World):Prop:=e=.returned (.tuple #[.string ⟨bs.toArray⟩,.bool ok])/\Below w.heap.size w w'
theorem Zc {l:List Int} {k:Nat} (h:k<l.length) (hr:Af l=true):Ai l[k]! = true:=by
 unfold Af at hr;rw [getElem!_pos l k h];exact jar.1 hr _ (List.getElem_mem h)
theorem Eo {l:List Int} (h:Af l=true):∀ x ∈ l,x<1114112:=λx hx=>by
 unfold Af at h;have:=(Al x).1 (jar.1 h x hx);omega
end
section
open Go.RowKit Utf
namespace Puny
def Ei (c:UInt8):Int:=(c.toNat:Int)
def Ig (b:Int):List UInt8->Int->Int->Int->Nat->Option (Int × Nat)
 | [],_,_,_,_=>none
 | c::l,k,w,s,u=>match valOf (Ei c) with
  | none=>none
  | some d=>if Fg<w\/Fg<s+d*w then none else if d<thr k b then some (s+d*w,u+1) else Ig b l (k+36) (w*(36 - thr k b)) (s+d*w) (u+1)
theorem Z0 {n d:Int} (h:valOf n=some d):0<=d/\d<=35:=by
 unfold valOf at h;split at h
 ·have:=Option.some.inj h;omega
 ·split at h
  ·have:=Option.some.inj h;omega
  ·split at h
   · have:=Option.some.inj h;omega
   · cases h
def Amv (o:Option (Int × Nat)):Value:=match o with | none=>.tuple #[.int .i64 0,.int .i64 0] | some (x,u)=>.tuple #[.int .i64 x,.int .i64 u]
end Puny
end
section
open Go.RowKit Utf
namespace Puny
def G7 (r:Rd) (d:Int):Bool:=decide (r.i+d<=Fg) && Ai (r.n+(r.i+d) / (r.out.length+1))
def Ll:Nat->List UInt8->Int->Bool->Rd->Option (List Int)
 | _,[],_,_,r=>some r.out
 | 0,_::_,_,_,_=>none
 | k+1,x::l,b,f,r=>match Ig b (x::l) 36 1 0 0 with
  | none=>none
  | some (d,m)=>if G7 r d then Ll k ((x::l).drop m) (adapt d (r.out.length+1) f) false (Bp r d) else none
def Bt:List UInt8->Nat->Nat->Nat
 | [],_,a=>a
 | c::t,k,a=>Bt t (k+1) (if c.toNat=45 then k else a)
def Bh (bs:List UInt8):Nat:=Bt bs 0 0
def Vi (bs:List UInt8):Bool:=bs.any λc=>decide (127<c.toNat)
def Dv (bs:List UInt8):Nat:=if Bh bs=0 then 0 else Bh bs+1
def Hq (bs:List UInt8):Option (List Int) :=
 if Vi bs then none else Ll bs.length (bs.drop (Dv bs)) 72 true (start ((bs.take (Bh bs)).map Ei))
theorem My:∀ (t:List UInt8) (k a:Nat),a<=k->Bt t k a<=k+t.length/\(Bt t k a=a\/Bt t k a<k+t.length)
 | [],k,a,h=>⟨by simpa [Bt] using h,.inl rfl⟩
 | c::t,k,a,h=>by
  unfold Bt;split
  ·have:=My t (k+1) k jO;simp only [jac];omega
  ·have:=My t (k+1) a jO;simp only [jac];omega
theorem Kj (bs:List UInt8):Bh bs=0\/Bh bs<bs.length:=by
 have:=(My bs 0 0 (jaa _)).2;unfold Bh;omega
theorem Adf (bs:List UInt8):Dv bs<=bs.length:=by
 have:=Kj bs;unfold Dv;split<;>omega
theorem Wc (b:Int):∀ (l:List UInt8) (k w s:Int) (u:Nat) (x:Int) (v:Nat),Ig b l k w s u=some (x,v)->1<=w->0<=s->0<=x/\x<=Fg/\u+1<=v/\v<=u+l.length
 | [],_,_,_,_,_,_,h,_,_=>by cases h
 | c::l,k,w,s,u,x,v,h,hw,hs=>by
  unfold Ig at h;cases hv:valOf (Ei c) with
  | none=>rw [hv] at h;cases h
  | some d =>
   rw [hv] at h;simp only at h;have hd:=Z0 hv;have ht:=Kf k b;have h0:0<=d*w:=Int.mul_nonneg hd.1 jO;split at h
   ·cases h
   ·rename_i hlim
    split at h
    ·have:=Option.some.inj h;injection this with e1 e2
     subst e1 e2;simp only [jac];refine ⟨by omega,by omega,by omega,by omega⟩
    ·have h1:1<=w*(36 - thr k b):=by
      have:1*1<=w*(36 - thr k b):=Int.mul_le_mul hw jO jO jO;omega
     have:=Wc b l _ _ _ _ _ _ h h1 jO;simp only [jac];omega
theorem Abk {k:Nat} {x:UInt8} {l:List UInt8} {b:Int} {f:Bool} {r:Rd} (h:Ig b (x::l) 36 1 0 0=none):Ll k (x::l) b f r=none:=by
 cases k with
 | zero=>rfl
 | succ k=>unfold Ll;rw [h]
theorem Agr {k:Nat} {x:UInt8} {l:List UInt8} {b:Int} {f:Bool} {r:Rd} {d:Int} {m:Nat} (h:Ig b (x::l) 36 1 0 0=some (d,m)) (ho:G7 r d=false):Ll k (x::l) b f r=none:=by
 cases k with
 | zero=>rfl
 | succ k=>unfold Ll;rw [h];simp [ho]
theorem Tc {k:Nat} {x:UInt8} {l:List UInt8} {b:Int} {f:Bool} {r:Rd} {d:Int} {m:Nat} (h:Ig b (x::l) 36 1 0 0=some (d,m)) (ho:G7 r d=true) :
  Ll (k+1) (x::l) b f r=Ll k ((x::l).drop m) (adapt d (r.out.length+1) f) false (Bp r d):=by
 rw [Ll,h];simp [ho]
theorem Om (r:Rd) (d:Int):(Bp r d).out=r.out.take ((r.i+d) % (r.out.length+1)).toNat ++ ((Bp r d).n::r.out.drop ((r.i+d) % (r.out.length+1)).toNat):=by
 have h1:=Int.emod_nonneg (r.i+d) (b:=r.out.length+1) jO;have h2:=Int.emod_lt_of_pos (r.i+d) (b:=r.out.length+1) jO;unfold Bp;exact Od _ _ _ jO
theorem Ac3 (r:Rd) (d:Int):(Bp r d).out.length=r.out.length+1:=by
 have h1:=Int.emod_nonneg (r.i+d) (b:=r.out.length+1) jO;have h2:=Int.emod_lt_of_pos (r.i+d) (b:=r.out.length+1) jO;rw [Om r d,jab,jac,jak,jaj];omega
end Puny
def Vp (o:Option (List Int)) (w:World) (e:Ending) (w':World):Prop :=
 ∃ A c,e=.returned (.tuple #[.slice A (o.getD []).length c,.bool o.isSome])/\Runes (.slice A (o.getD []).length c) (o.getD []) w'/\Below w.heap.size w w'
theorem Att (w:World):Runes (.slice none 0 0) [] w:=⟨none,0,rfl,jaa _,λ_=>rfl,λh=>absurd h jS⟩
theorem Xe {o:Option (List Int)} {w w':World} (h:o=none) (hb:Below w.heap.size w w'):Vp o w (.returned (.tuple #[.slice none 0 0,.bool false])) w':=by
 subst h;exact ⟨none,0,rfl,Att _,hb⟩
theorem extract_drop (s:ByteArray) (k:Nat):(s.extract k s.size).data.toList=s.data.toList.drop k:=by
 rw [ByteArray.data_extract,Array.toList_extract,List.extract_eq_take_drop,List.take_of_length_le jS]
end
section
open Go.RowKit Utf
end
section
open Go.RowKit Utf
namespace Puny
def Mt (c:UInt8):Option Int:=valOf (Ei c)
theorem Ale {n:Int} (h:0<=n/\n<=35):Ei (Jo n)=Pn n:=Q0 h
theorem Ado {n:Int} (h:0<=n/\n<=35):Mt (Jo n)=some n:=by
 unfold Mt;rw [Ale h];unfold Pn;by_cases h1:n<26
 ·rw [if_pos h1];unfold valOf;rw [if_pos jO];congr 1;omega
 ·rw [if_neg h1];unfold valOf;rw [if_neg jO,if_neg jO,if_pos jO];congr 1;omega
theorem Td:∀ (f:Nat) (n k b:Int),0<=n->n.toNat<f->∀ x ∈ digits n k b,0<=x/\x<=35
 | 0,_,_,_,_,h=>by omega
 | f+1,n,k,b,hn,hf=>by
  have ht:=Kf k b;by_cases h:n<thr k b
  ·rw [Ez h];intro x hx;rw [List.mem_singleton] at hx;omega
  ·have hl:=less n (thr k b) ht.1 ht.2 jO;have hp:=parts n (thr k b) ht.1 ht.2;rw [F6 jO];intro x hx;rcases jal.1 hx with rfl | hx
   · omega
   · exact Td f _ _ _ hl.1 jO x hx
theorem Ln:∀ (ds:List Int) (b c:Int) (f:Bool),(∀ d ∈ ds,0<=d)->∀ x ∈ emit adapt ds b c f,0<=x/\x<=35
 | [],_,_,_,_=>λx hx=>by cases hx
 | d::ds,b,c,f,h=>by
  intro x hx;rw [Q7] at hx;rcases jap.1 hx with hx | hx
  · exact Td (d.toNat+1) d 36 b (h d jS) jO x hx
  · exact Ln ds _ _ _ (λy hy=>h y (by simp [hy])) x hx
theorem Q6:∀ (ds:List Int) (b c:Int) (f:Bool),ds.length<=(emit adapt ds b c f).length
 | [],_,_,_=>jaa _
 | d::ds,b,c,f=>by
  rw [Q7,jab,jac];have:=Q6 ds (adapt d (c+1) f) (c+1) false;have:=List.length_pos_iff.2 (Abl d 36 b);omega
theorem Ais (b:Int):∀ (vs:List Int) (k w s:Int) (u:Nat),(∀ x ∈ vs,0<=x/\x<=35)->Ig b (vs.map Jo) k w s u=num b vs k w s u
 | [],_,_,_,_,_=>rfl
 | x::vs,k,w,s,u,h=>by
  have hx:=Ado (h x jS);unfold Mt at hx;have ih:=λk w s u=>Ais b vs k w s u (λy hy=>h y (by simp [hy]));rw [List.map_cons,Ig,num,hx];simp only [ih]
theorem U0 (b:Int):∀ (bs:List UInt8) (k w s:Int) (u:Nat) (x:Int) (v:Nat),Ig b bs k w s u=some (x,v) ->
  ∃ vs:List Int,(bs.take (v - u)).map Mt=vs.map some/\num b vs k w s u=some (x,v)/\u+vs.length=v
 | [],_,_,_,_,_,_,h=>by cases h
 | c::l,k,w,s,u,x,v,h=>by
  unfold Ig at h;cases hv:valOf (Ei c) with
  | none=>rw [hv] at h;cases h
  | some d =>
   rw [hv] at h;simp only at h;split at h
   ·cases h
   ·rename_i hlim
    split at h
    ·rename_i ht
     have e:=Option.some.inj h;injection e with e1 e2
     subst e1 e2;refine ⟨[d],?_,?_,by simp⟩
     ·rw [show u+1 - u=1 by omega];simp [Mt,hv]
     ·rw [num,if_neg hlim,if_pos ht]
    ·rename_i ht
     obtain ⟨vs,h1,h2,h3⟩:=U0 b l _ _ _ _ _ _ h;refine ⟨d::vs,?_,?_,by simp only [jac];omega⟩
     ·rw [show v - u=(v - (u+1))+1 by omega,List.take_succ_cons,List.map_cons,List.map_cons,h1];simp [Mt,hv]
     ·rw [num,if_neg hlim,if_neg ht,h2]
theorem Apz {c:UInt8} {d:Int} (h:Mt c=some d):0<=d/\d<36:=by have:=Z0 h;omega
theorem A05 {bs:List UInt8} {vs:List Int} (h:bs.map Mt=vs.map some):∀ d ∈ vs,0<=d/\d<36:=by
 intro d hd;have:some d ∈ bs.map Mt:=by rw [h];exact List.mem_map.2 ⟨d,hd,rfl⟩
 obtain ⟨c,-,hc⟩:=List.mem_map.1 this;exact Apz hc
theorem Asl {b:Int} {bs:List UInt8} {d:Int} {m:Nat} (h:Ig b bs 36 1 0 0=some (d,m)):0<=d/\1<=m/\m<=bs.length/\(bs.take m).map Mt=(digits d 36 b).map some:=by
 have hb:=Wc b _ _ _ _ _ _ _ h jD jD;obtain ⟨vs,h1,h2,h3⟩:=U0 b _ _ _ _ _ _ _ h;rw [Nat.sub_zero] at h1;obtain ⟨n,j,hn,hx,hv,hj,-,ht⟩:=Ait b vs 36 1 0 0 d m (A05 h1) h2;obtain rfl:d=n:=jO
 rw [List.take_of_length_le jO] at ht;rw [ht] at h1;exact ⟨hn,by omega,by omega,h1⟩
theorem mem_insert {l:List Int} {k:Nat} {x y:Int} (hk:k<=l.length) (h:y ∈ l):y ∈ l.insertIdx k x:=by
 rw [Od l k x hk];rw [<- List.take_append_drop k l] at h;rcases jap.1 h with h | h
 · exact jap.2 (.inl h)
 · exact jap.2 (.inr (List.mem_cons_of_mem _ h))
theorem Atq {r:Rd} {d:Int}:(Bp r d).n ∈ (Bp r d).out:=by rw [Om];simp
theorem Ank {r:Rd} {d y:Int} (h:y ∈ r.out):y ∈ (Bp r d).out:=by
 have h1:=Int.emod_nonneg (r.i+d) (b:=r.out.length+1) jO;have h2:=Int.emod_lt_of_pos (r.i+d) (b:=r.out.length+1) jO;exact mem_insert jO h
theorem Acu:∀ {ds:List Int} {r:Rd} {y:Int},y ∈ r.out->y ∈ (Gc r ds).out
 | [],_,_,h=>h
 | _::ds,_,_,h=>Acu (ds:=ds) (Ank h)
theorem As4 (r:Rd) (d:Int) (ds:List Int):Gc r (d::ds)=Gc (Bp r d) ds:=rfl
theorem Abj:∀ (ds:List Int) (r:Rd) (b:Int) (f:Bool) (fuel:Nat),(∀ d ∈ ds,0<=d)->0<=r.n->0<=r.i->r.out.length+ds.length<=112->(∀ x ∈ (Gc r ds).out,Ai x=true)->ds.length<=fuel ->
  Ll fuel (Cv ds b r.out.length f) b f r=some (Gc r ds).out
 | [],r,b,f,fuel,_,_,_,_,_,_=>by unfold Cv emit;cases fuel<;>rfl
 | d::ds,r,b,f,fuel,hd,hn,hi,hlen,hR,hf=>by
  obtain ⟨k,rfl⟩:∃ k,fuel=k+1:=⟨fuel - 1,by simp only [jac] at hf;omega⟩
  have hd0:=hd d jS;have hn1:=hR _ (Acu (ds:=ds) (Atq (r:=r) (d:=d)));have hr1:=(Al _).1 hn1;have hL:r.out.length<=111:=by simp only [jac] at hlen;omega
  have hq:(Bp r d).n=r.n+(r.i+d) / (r.out.length+1):=rfl;have hdm:=Int.mul_ediv_add_emod (r.i+d) (r.out.length+1);have hm1:=Int.emod_lt_of_pos (r.i+d) (b:=r.out.length+1) jO;have hm0:=Int.emod_nonneg (r.i+d) (b:=r.out.length+1) jO;have hqb:(r.i+d) / (r.out.length+1)<=1114111:=jO
  have hqn:0<=(r.i+d) / (r.out.length+1):=Int.ediv_nonneg jO jO;have hmul:((r.out.length:Int)+1)*((r.i+d) / (r.out.length+1))<=112*1114111:=Int.mul_le_mul jO hqb hqn jD;have hsum:r.i+d<=126322567:=jO
  have hok:G7 r d=true:=by
   unfold G7 Fg;rw [<- hq,hn1,decide_eq_true jO];rfl
  have htl:Cv (d::ds) b r.out.length f=Bu d 36 b ++ Cv ds (adapt d ((r.out.length:Int)+1) f) ((r.out.length:Int)+1) false:=Adg _ _ _ _ _;have hval:∀ x ∈ digits d 36 b ++ emit adapt ds (adapt d ((r.out.length:Int)+1) f) ((r.out.length:Int)+1) false,0<=x/\x<=35:=by
   intro x hx;rcases jap.1 hx with hx | hx
   ·exact Td (d.toNat+1) d 36 b hd0 jO x hx
   ·exact Ln ds _ _ _ (λy hy=>hd y (by simp [hy])) x hx
  have hnum:Ig b (Cv (d::ds) b r.out.length f) 36 1 0 0=some (d,(Bu d 36 b).length):=by
   have h1:=Yl b 126322567 jD (d.toNat+1) d 36 1 0 0 (emit adapt ds (adapt d ((r.out.length:Int)+1) f) ((r.out.length:Int)+1) false) jO hd0 jD jD jO jD (λ_=>⟨0,rfl⟩);rw [<- Ais b _ _ _ _ _ hval] at h1;rw [show Cv (d::ds) b r.out.length f=(digits d 36 b ++ emit adapt ds (adapt d ((r.out.length:Int)+1) f) ((r.out.length:Int)+1) false).map Jo from rfl,h1];simp [Bu]
  have hne:∃ x l,Cv (d::ds) b r.out.length f=x::l:=by
   cases hc:Cv (d::ds) b r.out.length f with
   | nil =>
    have h1:=congrArg List.length hc;rw [htl,jab] at h1;have h2:(Bu d 36 b).length=(digits d 36 b).length:=by simp [Bu]
    have h3:=List.length_pos_iff.2 (Abl d 36 b);simp only [List.length_nil] at h1;omega
   | cons x l=>exact ⟨x,l,rfl⟩
  obtain ⟨x,l,hxl⟩:=hne;have hdrop:(Cv (d::ds) b r.out.length f).drop (Bu d 36 b).length=Cv ds (adapt d ((r.out.length:Int)+1) f) ((r.out.length:Int)+1) false:=by rw [htl,List.drop_left]
  rw [hxl] at hnum hdrop ⊢;rw [Tc hnum hok,hdrop,As4];have hl2:=Ac3 r d;have ih:=Abj ds (Bp r d) (adapt d ((r.out.length:Int)+1) f) false k (λy hy=>hd y (by simp [hy])) jO (by show 0<=(r.i+d) % (r.out.length+1)+1;omega) (by rw [hl2];simp only [jac] at hlen;omega) hR (by simp only [jac] at hf;omega);rw [hl2] at ih;exact ih
end Puny
end
section
open Go.RowKit Utf
namespace Puny
def Np (b:UInt8):UInt8:=if 65<=b.toNat/\b.toNat<=90 then UInt8.ofNat (b.toNat+32) else b
theorem Hp:∀ (t:List UInt8) (k a:Nat),(∀ c ∈ t,c.toNat ≠ 45)->Bt t k a=a
 | [],_,_,_=>rfl
 | c::t,k,a,h=>by
  unfold Bt;rw [if_neg (h c jS),Hp t _ _ λx hx=>h x (by simp [hx])]
theorem Ft:∀ (x y:List UInt8) (k a:Nat),Bt (x ++ y) k a=Bt y (k+x.length) (Bt x k a)
 | [],y,k,a=>rfl
 | c::x,y,k,a=>by
  rw [jah,Bt,Bt,Ft x y,jac];congr 1;omega
theorem Mx:∀ (t:List UInt8) (k a:Nat),Bt t k a=a\/∃ j,Bt t k a=k+j/\∃ h:j<t.length,(t[j]).toNat=45
 | [],_,_=>.inl rfl
 | c::t,k,a=>by
  unfold Bt;by_cases hc:c.toNat=45
  ·rw [if_pos hc];rcases Mx t (k+1) k with h | ⟨j,h1,h2,h3⟩
   · exact .inr ⟨0,by rw [h];rfl,by simp,hc⟩
   · exact .inr ⟨j+1,by rw [h1];omega,by simp only [jac];omega,by simpa using h3⟩
  ·rw [if_neg hc];rcases Mx t (k+1) a with h | ⟨j,h1,h2,h3⟩
   · exact .inl h
   · exact .inr ⟨j+1,by rw [h1];omega,by simp only [jac];omega,by simpa using h3⟩
theorem Aon {bs:List UInt8} (h:Bh bs ≠ 0):bs=bs.take (Bh bs) ++ [45] ++ bs.drop (Bh bs+1):=by
 rcases Mx bs 0 0 with h0 | ⟨j,h1,h2,h3⟩
 ·exact absurd h0 h
 ·have e:Bh bs=j:=by unfold Bh;rw [h1];omega
  have e45:bs[j]=45:=by
   apply UInt8.toNat_inj.1;rw [h3];rfl
  rw [e];rw [jaq,List.singleton_append,<- e45,<- List.drop_eq_getElem_cons h2,List.take_append_drop]
theorem Ald {n:Int} (h:0<=n/\n<=35):(Jo n).toNat ≠ 45/\(Jo n).toNat<128:=by
 have:=Q0 h;unfold Pn at this;split at this<;>omega
theorem Vg {ds:List Int} (b c:Int) (f:Bool) (h:∀ d ∈ ds,0<=d):∀ x ∈ Cv ds b c f,x.toNat ≠ 45/\x.toNat<128:=by
 intro x hx;obtain ⟨v,hv,rfl⟩:=List.mem_map.1 hx;exact Ald (Ln ds b c f h v hv)
theorem Aey {m:Int} {l:List Int} {x:Int} (h:x ∈ lt m l):x ∈ l/\x<m:=by
 unfold lt at h;have:=List.mem_filter.1 h;exact ⟨this.1,by simpa using this.2⟩
theorem Ai4 {l:List Int} (h:∀ x ∈ l,0<=x):(Bg l).map Ei=lt 128 l:=by
 unfold Bg;rw [List.map_map];refine (List.map_congr_left λx hx=>?_).trans (List.map_id _);have:=Aey hx;have h0:=h x this.1;show ((UInt8.ofNat x.toNat).toNat:Int)=x;rw [UInt8.toNat_ofNat_of_lt' (by show x.toNat<256;omega)];omega
theorem Asv {l:List Int} (h:∀ x ∈ l,0<=x):∀ c ∈ Bg l,c.toNat<128:=by
 intro c hc;unfold Bg at hc;obtain ⟨x,hx,rfl⟩:=List.mem_map.1 hc;have:=Aey hx;have h0:=h x this.1;rw [UInt8.toNat_ofNat_of_lt' (by show x.toNat<256;omega)];omega
theorem Zd {l:List Int} (h:Af l=true):∀ x ∈ l,Ai x=true:=by
 unfold Af at h;rwa [jar] at h
theorem Ud {l:List Int} (h:Af l=true):∀ x ∈ l,0<=x:=λx hx=>((Al x).1 (Zd h x hx)).1
theorem Gx {l:List Int} (h:∀ x ∈ l,x<1114112):∀ d ∈ Fv l,0<=d:=Nn l _ _ _ (Lm l h) jD
theorem Mz {l:List Int} (h:Af l=true):(Gc (start (lt 128 l)) (Fv l)).out=l:=Z8 l _ (Lm l (Eo h))
theorem Pm {l:List Int} (h:Af l=true):(lt 128 l).length+(Fv l).length=l.length:=by
 have h1:=Rw (Fv l) (start (lt 128 l)) (Zq λx hx=>(Aey hx).2) (Gx (Eo h));rw [Mz h] at h1;exact h1.symm
theorem A06 {bs:List UInt8} (h:∀ c ∈ bs,c.toNat<128):Vi bs=false:=by
 unfold Vi;rw [List.any_eq_false];intro c hc;have:=h c hc;simp;omega
theorem Aoz {l:List Int} (h:Af l=true):∀ c ∈ Bk l,c.toNat<128:=by
 intro c hc;unfold Bk at hc;rcases jap.1 hc with hc | hc
 ·rcases jap.1 hc with hc | hc
  ·exact Asv (Ud h) c hc
  ·unfold Kk at hc;split at hc
   · cases hc
   · rw [List.mem_singleton] at hc;subst hc;decide
 ·exact (Vg _ _ _ (Gx (Eo h)) c hc).2
theorem Aq9 {l:List Int} (h:Af l=true):Bh (Bk l)=(Bg l).length/\(Bk l).drop (Dv (Bk l))=Cv (Fv l) 72 (lt 128 l).length true:=by
 have hno:=λc hc=>(Vg 72 (lt 128 l).length true (Gx (Eo h)) c hc).1;have hpl:(Bg l).length=(lt 128 l).length:=by unfold Bg;rw [jai]
 by_cases h0:(lt 128 l).length=0
 ·have hp:Bg l=[]:=List.eq_nil_of_length_eq_zero jO;have he:Bk l=Cv (Fv l) 72 (lt 128 l).length true:=by unfold Bk Kk;rw [hp,if_pos h0];rfl
  have hd:Bh (Bk l)=0:=by rw [he];exact Hp _ _ _ hno
  refine ⟨by rw [hd,hp];rfl,?_⟩;unfold Dv;rw [hd,if_pos rfl,he,List.drop_zero]
 ·have he:Bk l=Bg l ++ [45] ++ Cv (Fv l) 72 (lt 128 l).length true:=by unfold Bk Kk;rw [if_neg h0]
  have hd:Bh (Bk l)=(Bg l).length:=by
   unfold Bh;rw [he,Ft,Hp _ _ _ hno,Ft];rw [Bt,Bt,if_pos jD];omega
  refine ⟨hd,?_⟩;unfold Dv;rw [hd,if_neg jO,he];rw [show (Bg l).length+1=(Bg l ++ [45]).length by simp,List.drop_left]
theorem Vw {l:List Int} (h:Af l=true) (hn:l.length<=110):Hq (Bk l)=some l:=by
 obtain ⟨h1,h2⟩:=Aq9 h;have hl:=Pm h;have htk:(Bk l).take (Bg l).length=Bg l:=by unfold Bk;rw [jaq,List.take_left]
 have hfu:(Fv l).length<=(Bk l).length:=by
  have:(Cv (Fv l) 72 (lt 128 l).length true).length<=(Bk l).length:=by unfold Bk;rw [jab];omega
  have h3:=Q6 (Fv l) 72 (lt 128 l).length true;unfold Cv at this;rw [jai] at this;omega
 unfold Hq;rw [A06 (Aoz h),if_neg jD,h2,h1,htk,Ai4 (Ud h)];have key:=Abj (Fv l) (start (lt 128 l)) 72 true (Bk l).length (Gx (Eo h)) (show (0:Int)<=128 by decide) (Int.le_refl 0) (by show (lt 128 l).length+_<=112;omega) (by rw [Mz h];exact Zd h) hfu;rw [Mz h] at key;exact key
theorem Tb:∀ (fuel:Nat) (bs:List UInt8) (b:Int) (f:Bool) (r:Rd) (out:List Int),Ll fuel bs b f r=some out->128<=r.n->0<=r.i->(∀ x ∈ r.out,Ai x=true) ->
  ∃ ds:List Int,(∀ d ∈ ds,0<=d)/\out=(Gc r ds).out/\bs.map Mt=(emit adapt ds b r.out.length f).map some/\(∀ x ∈ out,Ai x=true)/\lt 128 out=lt 128 r.out
 | fuel,[],b,f,r,out,h,_,_,hr=>by
  have:some r.out=some out:=by cases fuel<;>exact h
  have:=Option.some.inj this;subst this;exact ⟨[],(λd hd=>by cases hd),rfl,rfl,hr,rfl⟩
 | 0,_::_,_,_,_,_,h,_,_,_=>by cases h
 | k+1,x::l,b,f,r,out,h,hn,hi,hr=>by
  cases hN:Ig b (x::l) 36 1 0 0 with
  | none=>rw [Abk hN] at h;cases h
  | some p =>
   obtain ⟨d,m⟩:=p;cases hok:G7 r d with
   | false=>rw [Agr hN hok] at h;cases h
   | true =>
    rw [Tc hN hok] at h;obtain ⟨hd0,hm1,hml,hdig⟩:=Asl hN;have hq:(Bp r d).n=r.n+(r.i+d) / (r.out.length+1):=rfl;have hqn:0<=(r.i+d) / (r.out.length+1):=Int.ediv_nonneg jO jO;have hm0:=Int.emod_nonneg (r.i+d) (b:=r.out.length+1) jO;have hnr:Ai (Bp r d).n=true:=by
     unfold G7 at hok;rw [jag] at hok;rw [hq];exact hok.2
    have hout:=Om r d;have hmem:∀ y ∈ (Bp r d).out,y=(Bp r d).n\/y ∈ r.out:=by
     intro y hy;rw [hout] at hy;rcases jap.1 hy with hy | hy
     ·exact .inr (List.mem_of_mem_take hy)
     ·rcases jal.1 hy with hy | hy
      · exact .inl hy
      · exact .inr (List.mem_of_mem_drop hy)
    have hlt:lt 128 (Bp r d).out=lt 128 r.out:=by
     rw [hout];unfold lt;rw [List.filter_append,List.filter_cons_of_neg (by simp;omega),<- List.filter_append,List.take_append_drop]
    obtain ⟨ds,h1,h2,h3,h4,h5⟩:=Tb k _ _ _ (Bp r d) out h jO (by show 0<=(r.i+d) % (r.out.length+1)+1;omega) (λy hy=>by rcases hmem y hy with rfl | hy;exact hnr;exact hr y hy);refine ⟨d::ds,?_,h2,?_,h4,by rw [h5,hlt]⟩
    ·intro e he;rcases jal.1 he with rfl | he
     ·exact hd0
     ·exact h1 e he
    ·rw [Q7,List.map_append,<- hdig];rw [Ac3] at h3;rw [show ((r.out.length+1:Nat):Int)=(r.out.length:Int)+1 by omega] at h3;rw [<- h3,<- List.map_append,List.take_append_drop]
theorem Sd {c:UInt8} {v:Int} (h:Mt c=some v):Np c=Jo v:=by
 have hc:=C5 c;have hv:=Apz h;have hd:=Q0 (n:=v) jO;apply UInt8.toNat_inj.1;unfold Mt valOf Ei at h;unfold Pn at hd;unfold Np;split at h
 ·have:=Option.some.inj h;rw [if_neg jO];split at hd<;>omega
 ·split at h
  ·have:=Option.some.inj h;rw [if_pos jO,UInt8.toNat_ofNat_of_lt' (by show c.toNat+32<256;omega)];split at hd<;>omega
  ·split at h
   ·have:=Option.some.inj h;rw [if_neg jO];split at hd<;>omega
   ·cases h
theorem Zk {v:Int} (h:0<=v/\v<=35):Np (Jo v)=Jo v:=Sd (Ado h)
theorem Anp {bs:List UInt8} {vs:List Int} (h:bs.map Mt=vs.map some):bs.map Np=vs.map Jo:=by
 induction bs generalizing vs with
 | nil =>
  cases vs with
  | nil=>rfl
  | cons v vs=>cases h
 | cons c bs ih =>
  cases vs with
  | nil=>cases h
  | cons v vs =>
   rw [List.map_cons,List.map_cons] at h;injection h with h1 h2
   rw [List.map_cons,List.map_cons,Sd h1,ih h2]
theorem Aej {bs:List UInt8} {l:List Int} (h:Hq bs=some l):Af l=true/\(Bk l).map Np=bs.map Np/\l.length<=bs.length:=by
 unfold Hq at h;cases hw:Vi bs with
 | true=>rw [hw] at h;cases h
 | false =>
  rw [hw,if_neg jD] at h;have hb:∀ c ∈ bs,c.toNat<128:=by
   intro c hc;unfold Vi at hw;rw [List.any_eq_false] at hw;have:=hw c hc;simp at this;omega
  have hp:∀ x ∈ (bs.take (Bh bs)).map Ei,0<=x/\x<128:=by
   intro x hx;obtain ⟨c,hc,rfl⟩:=List.mem_map.1 hx;have:=hb c (List.mem_of_mem_take hc);unfold Ei;omega
  obtain ⟨ds,h1,h2,h3,h4,h5⟩:=Tb _ _ _ _ _ _ h (Int.le_refl 128) (Int.le_refl 0) (λx hx=>(Al x).2 (by have:=hp x hx;omega));have hR:Af l=true:=by unfold Af;rw [jar];exact h4
  have hpl:lt 128 l=(bs.take (Bh bs)).map Ei:=by rw [h5];exact Aw0 λx hx=>(hp x hx).2
  have hds:Fv l=ds:=Anb (λx hx=>(hp x hx).2) h1 h2.symm hpl (Lm l (Eo hR));have hlen:(lt 128 l).length=(bs.take (Bh bs)).length:=by rw [hpl,jai]
  have hpb:Bg l=bs.take (Bh bs):=by
   unfold Bg;rw [hpl,List.map_map];refine (List.map_congr_left λc _=>?_).trans (List.map_id _);show UInt8.ofNat ((c.toNat:Int)).toNat=c;rw [Int.toNat_natCast];exact UInt8.ofNat_toNat
  have hso:(start ((bs.take (Bh bs)).map Ei)).out.length=(lt 128 l).length:=by rw [hpl];rfl
  rw [hso] at h3;have htl:(Cv (Fv l) 72 (lt 128 l).length true).map Np=(bs.drop (Dv bs)).map Np:=by
   rw [Anp h3,hds];unfold Cv;rw [List.map_map];exact List.map_congr_left λv hv=>Zk (Ln ds _ _ _ h1 v hv)
  have hdl:=Pm hR;have hll:ds.length<=(bs.drop (Dv bs)).length:=by
   have e1:=congrArg List.length h3;rw [jai,jai] at e1;have:=Q6 ds 72 (lt 128 l).length true;omega
  refine ⟨hR,?_,?_⟩
  ·unfold Bk;rw [List.map_append,htl,List.map_append,hpb];by_cases h0:Bh bs=0
   ·have:(lt 128 l).length=0:=by rw [hlen,h0];rfl
    unfold Kk Dv;rw [if_pos this,if_pos h0,h0];rfl
   ·have h7:¬ (lt 128 l).length=0:=by
     have:=Kj bs;rw [hlen,jak];omega
    unfold Kk Dv;rw [if_neg h7,if_neg h0,<- List.map_append,<- List.map_append,<- Aon h0]
  ·have h8:=Adf bs;have h9:=Kj bs;rw [jaj] at hll;rw [jak] at hlen;rw [hds] at hdl;unfold Dv at hll h8;split at hll<;>omega
end Puny
end
