import Derived.Test.YtpcgbgfpnhiihabGreatDoorUtfA
namespace Go.Proofs.YtpcgbgfpnhiihabGreatDoor
section
namespace Puny
def thr (k b:Int):Int:=max 1 (min 26 (k - b))
theorem Jp (k b:Int):1<=thr k b/\thr k b<=26:=by unfold thr;omega
theorem Avj (k b:Int):thr k b<=thr (k+36) b:=by unfold thr;omega
def Ajb:Nat->Int->Int->Int->List Int
 | 0,_,_,_=>[]
 | f+1,n,k,b=>if n<thr k b then [n] else (thr k b+(n - thr k b) % (36 - thr k b))::Ajb f ((n - thr k b) / (36 - thr k b)) (k+36) b
theorem less (n t:Int) (ht:1<=t) (ht':t<=26) (h:t<=n):0<=(n - t) / (36 - t)/\((n - t) / (36 - t)).toNat<n.toNat:=by
 have h0:0<=(n - t) / (36 - t):=Int.ediv_nonneg jO jO;refine ⟨h0,?_⟩;have h1:(n - t) / (36 - t)<=n - t:=Int.ediv_le_self _ jO;omega
theorem Aac:∀ (f g:Nat) (n k b:Int),0<=n->n.toNat<f->n.toNat<g->Ajb f n k b=Ajb g n k b
 | 0,_,_,_,_,_,h,_=>by omega
 | _,0,_,_,_,_,_,h=>by omega
 | f+1,g+1,n,k,b,hn,hf,hg=>by
  unfold Ajb;have ht:=Jp k b;split
  ·rfl
  ·rename_i h
   obtain ⟨h0,h1⟩:=less n (thr k b) ht.1 ht.2 jO;rw [Aac f g _ (k+36) b h0 jO jO]
def digits (n k b:Int):List Int:=Ajb (n.toNat+1) n k b
theorem Ew {n k b:Int} (h:n<thr k b):digits n k b=[n]:=by unfold digits Ajb;rw [if_pos h]
theorem F5 {n k b:Int} (h:thr k b<=n):digits n k b=(thr k b+(n - thr k b) % (36 - thr k b))::digits ((n - thr k b) / (36 - thr k b)) (k+36) b:=by
 have ht:=Jp k b;obtain ⟨h0,h1⟩:=less n (thr k b) ht.1 ht.2 h;unfold digits;rw [Ajb,if_neg jO];rw [Aac n.toNat (((n - thr k b) / (36 - thr k b)).toNat+1) _ (k+36) b h0 h1 jO]
def Fe:Int:=2147483647
def num (b:Int):List Int->Int->Int->Int->Nat->Option (Int × Nat)
 | [],_,_,_,_=>none
 | d::l,k,w,s,u=>if Fe<w\/Fe<s+d*w then none else if d<thr k b then some (s+d*w,u+1) else num b l (k+36) (w*(36 - thr k b)) (s+d*w) (u+1)
theorem parts (n t:Int) (ht:1<=t) (ht':t<=26):n=(t+(n - t) % (36 - t))+(36 - t)*((n - t) / (36 - t))/\t<=t+(n - t) % (36 - t)/\t+(n - t) % (36 - t)<36:=by
 have h1:=Int.emod_add_mul_ediv (n - t) (36 - t);have h2:=Int.emod_nonneg (n - t) (show 36 - t ≠ 0 by omega);have h3:=Int.emod_lt_of_pos (n - t) (show 0<36 - t by omega);omega
theorem Aa6 (w n d t q s:Int) (h:n=d+(36 - t)*q):s+n*w=(s+d*w)+q*(w*(36 - t)):=by
 subst h;rw [Int.add_mul,<- Int.add_assoc];congr 1;rw [Int.mul_comm (36 - t) q,Int.mul_assoc,Int.mul_comm (36 - t) w]
theorem Aec (w t N:Int) (hN:N<=126322567) (ht:2<=t) (ht':t<=26) (h:t*w<=N):w*(36 - t)<=Fe:=by
 unfold Fe;have hc:t=2\/t=3\/t=4\/t=5\/t=6\/t=7\/t=8\/t=9\/t=10\/t=11\/t=12\/t=13\/t=14\/t=15\/t=16\/t=17\/t=18\/t=19\/t=20\/t=21\/t=22\/t=23\/t=24\/t=25\/t=26:=jO
 rcases hc with rfl | rfl | rfl | rfl | rfl | rfl | rfl | rfl | rfl | rfl | rfl | rfl | rfl | rfl | rfl | rfl | rfl | rfl | rfl | rfl | rfl | rfl | rfl | rfl | rfl<;>omega
theorem Aln:∀ (j:Nat),(35:Int) ^ j<=126322567->(35:Int) ^ (j+1)<=Fe
 | 0,_=>by decide
 | 1,_=>by decide
 | 2,_=>by decide
 | 3,_=>by decide
 | 4,_=>by decide
 | 5,_=>by decide
 | j+6,h=>by
  exfalso;have h1:(1:Int)<=35 ^ j:=Int.pow_pos jD;have h2:(35:Int) ^ (j+6)=35 ^ j*1838265625:=by rw [Int.pow_add];rfl
  rw [h2] at h;have:(1838265625:Int)<=35 ^ j*1838265625:=by
   have:=Int.mul_le_mul_of_nonneg_right h1 (show (0:Int)<=1838265625 by decide);omega
  omega
theorem Xd (b N:Int) (hN:N<=126322567):∀ (f:Nat) (n k w s:Int) (u:Nat) (rest:List Int),n.toNat<f->0<=n->1<=w->0<=s->s+n*w<=N->w<=Fe->(thr k b=1->∃ j:Nat,w=35 ^ j) ->
  num b (digits n k b ++ rest) k w s u=some (s+n*w,u+(digits n k b).length)
 | 0,_,_,_,_,_,_,hf,_,_,_,_,_,_=>by omega
 | f+1,n,k,w,s,u,rest,hf,hn,hw,hs,hsum,hwl,hpow=>by
  have ht:=Jp k b;have hlim:(N:Int)<=Fe:=by unfold Fe;omega
  by_cases h:n<thr k b
  ·rw [Ew h];simp only [jah,List.nil_append,num];rw [if_neg jO,if_pos h];rfl
  ·have h':thr k b<=n:=jO
   obtain ⟨q0,q1⟩:=less n (thr k b) ht.1 ht.2 h';obtain ⟨p1,p2,p3⟩:=parts n (thr k b) ht.1 ht.2;rw [F5 h'];generalize hd:thr k b+(n - thr k b) % (36 - thr k b)=d at p1 p2 p3 ⊢;generalize hq:(n - thr k b) / (36 - thr k b)=q at p1 q0 q1 ⊢;have e:=Aa6 w n d (thr k b) q s p1;have hw':1<=w*(36 - thr k b):=Int.mul_pos jO jO;have hdw:0<=d*w:=Int.mul_nonneg jO jO;have hqw:0<=q*(w*(36 - thr k b)):=Int.mul_nonneg q0 jO;have htw:thr k b*w<=N:=by
    have:=Int.mul_le_mul_of_nonneg_right h' (show 0<=w by omega);omega
   have hwn:w*(36 - thr k b)<=Fe:=by
    by_cases ht1:thr k b=1
    ·obtain ⟨j,rfl⟩:=hpow ht1;rw [ht1] at htw ⊢;have:=Aln j jO;rw [Int.pow_succ] at this;exact this
    ·exact Aec w (thr k b) N hN jO ht.2 htw
   have ih:=Xd b N hN f q (k+36) (w*(36 - thr k b)) (s+d*w) (u+1) rest jO q0 hw' jO jO hwn (λh1=>by
    have:=Avj k b;have ht1:thr k b=1:=jO
    obtain ⟨j,rfl⟩:=hpow ht1;exact ⟨j+1,by rw [ht1,Int.pow_succ];rfl⟩)
   simp only [jah,num];rw [if_neg jO,if_neg jO,ih,e];simp only [jac,Option.some.injEq,Prod.mk.injEq,true_and];omega
theorem Agw (b:Int):∀ (l:List Int) (k w s:Int) (u:Nat) (x:Int) (v:Nat),(∀ d ∈ l,0<=d/\d<36)->num b l k w s u=some (x,v) ->
  ∃ (n:Int) (m:Nat),0<=n/\x=s+n*w/\v=u+m/\m<=l.length/\1<=m/\l.take m=digits n k b
 | [],_,_,_,_,_,_,_,h=>by cases h
 | d::l,k,w,s,u,x,v,hl,h=>by
  have ht:=Jp k b;have hd:=hl d jS;unfold num at h;split at h
  ·cases h
  ·split at h
   ·rename_i hlt
    simp only [Option.some.injEq,Prod.mk.injEq] at h;obtain ⟨rfl,rfl⟩:=h;exact ⟨d,1,hd.1,rfl,rfl,by simp,jaa _,by rw [Ew hlt];rfl⟩
   ·rename_i hge
    obtain ⟨q,m,hq,hx,hv,hm,hm1,htk⟩:=Agw b l _ _ _ _ _ _ (λy hy=>hl y (by simp [hy])) h;have hpos:0<36 - thr k b:=jO
    have hqt:0<=(36 - thr k b)*q:=Int.mul_nonneg jO hq;refine ⟨d+(36 - thr k b)*q,m+1,by omega,?_,by omega,by simp only [jac];omega,by omega,?_⟩
    ·rw [hx];exact (Aa6 w (d+(36 - thr k b)*q) d (thr k b) q s rfl).symm
    ·have e1:d+(36 - thr k b)*q - thr k b=(d - thr k b)+(36 - thr k b)*q:=jO
     have e2:(d+(36 - thr k b)*q - thr k b) % (36 - thr k b)=d - thr k b:=by
      rw [e1,Int.add_mul_emod_self_left];exact Int.emod_eq_of_lt jO jO
     have e3:(d+(36 - thr k b)*q - thr k b) / (36 - thr k b)=q:=by
      rw [e1,Int.add_mul_ediv_left _ _ jO,Int.ediv_eq_zero_of_lt jO jO];omega
     rw [F5 jO,e2,e3,List.take_succ_cons,htk];congr 1;omega
end Puny
end
section
namespace Puny
theorem Aab (n k b:Int):digits n k b ≠ []:=by
 by_cases h:n<thr k b
 · rw [Ew h];simp
 · rw [F5 jO];simp
def emit (ad:Int->Int->Bool->Int):List Int->Int->Int->Bool->List Int
 | [],_,_,_=>[]
 | d::ds,b,c,f=>digits d 36 b ++ emit ad ds (ad d (c+1) f) (c+1) false
end Puny
end
section
namespace Puny
structure Rd where
 out:List Int
 n:Int
 i:Int
def Bt (r:Rd) (d:Int):Rd :=
 ⟨r.out.insertIdx ((r.i+d) % (r.out.length+1)).toNat (r.n+(r.i+d) / (r.out.length+1)),r.n+(r.i+d) / (r.out.length+1),(r.i+d) % (r.out.length+1)+1⟩
def Gc (r:Rd) (ds:List Int):Rd:=ds.foldl Bt r
def row (m:Int):List Int->Int->List Int × Int
 | [],e=>([],e)
 | x::t,e=>if x<m then row m t (e+1) else if x=m then (e::(row m t 0).1,(row m t 0).2) else row m t e
def spot (r:Rd):Int:=r.n*(r.out.length+1)+r.i
def le (m:Int) (l:List Int):List Int:=l.filter λx=>decide (x<=m)
def lt (m:Int) (l:List Int):List Int:=l.filter λx=>decide (x<m)
theorem Vd (m:Int) (p:List Int) (x:Int):le m (p ++ [x])=if x<=m then le m p ++ [x] else le m p:=by
 unfold le;rw [List.filter_append];by_cases h:x<=m<;>simp [h]
theorem Hd (m:Int) (x:Int) (t:List Int):lt m (x::t)=if x<m then x::lt m t else lt m t:=by
 unfold lt;by_cases h:x<m<;>simp [h]
theorem Aol (a b:List Int) (x:Int):(a ++ b).insertIdx a.length x=a ++ x::b:=by
 induction a with
 | nil=>simp
 | cons y a ih=>simpa using ih
theorem Auw (r:Rd) (a b:List Int) (m d:Int) (ho:r.out=a ++ b) (h:spot r+d=m*(r.out.length+1)+a.length):Bt r d=⟨a ++ m::b,m,a.length+1⟩:=by
 have hlen:r.out.length=a.length+b.length:=by rw [ho,jab]
 have hc:(0:Int)<(r.out.length:Int)+1:=jO
 have e:r.i+d=(a.length:Int)+((r.out.length:Int)+1)*(m - r.n):=by
  unfold spot at h;rw [Int.mul_sub,Int.mul_comm _ m,Int.mul_comm _ r.n];omega
 have e1:(r.i+d) % ((r.out.length:Int)+1)=a.length:=by
  rw [e,Int.add_mul_emod_self_left];exact Int.emod_eq_of_lt jO jO
 have e2:(r.i+d) / ((r.out.length:Int)+1)=m - r.n:=by
  rw [e,Int.add_mul_ediv_left _ _ jO,Int.ediv_eq_zero_of_lt jO jO];omega
 unfold Bt;rw [e1,e2,Int.toNat_natCast,show r.n+(m - r.n)=m by omega,ho,Aol]
theorem Adw (m:Int):∀ (t p:List Int) (e:Int) (r:Rd),r.out=le m p ++ lt m t->spot r+e=m*(r.out.length+1)+(le m p).length ->
  (Gc r (row m t e).1).out=le m (p ++ t)/\spot (Gc r (row m t e).1)+(row m t e).2=m*((le m (p ++ t)).length+1)+(le m (p ++ t)).length
 | [],p,e,r,ho,hs=>by
  have ho':r.out=le m p:=by rw [ho];simp [lt]
  rw [List.append_nil];show r.out=le m p/\spot r+e=_;rw [hs,ho'];exact ⟨rfl,rfl⟩
 | x::t,p,e,r,ho,hs=>by
  have hap:p ++ x::t=(p ++ [x]) ++ t:=by simp
  rw [hap];unfold row;by_cases h1:x<m
  ·rw [if_pos h1];have hle:le m (p ++ [x])=le m p ++ [x]:=by rw [Vd,if_pos jO]
   refine Adw m t (p ++ [x]) (e+1) r ?_ ?_
   ·rw [ho,Hd,if_pos h1,hle];simp
   ·rw [hle,jab,<- Int.add_assoc,hs];simp;omega
  ·rw [if_neg h1];by_cases h2:x=m
   ·subst h2;rw [if_pos rfl];have hle:le x (p ++ [x])=le x p ++ [x]:=by rw [Vd,if_pos jO]
    have ho2:r.out=le x p ++ lt x t:=by rw [ho,Hd,if_neg h1]
    have hst:=Auw r (le x p) (lt x t) x e ho2 hs;show (Gc (Bt r e) (row x t 0).1).out=_/\spot (Gc (Bt r e) (row x t 0).1)+(row x t 0).2=_;rw [hst];refine Adw x t (p ++ [x]) 0 _ ?_ ?_
    ·rw [hle];simp
    ·unfold spot;simp only [hle,jab,jac,List.length_nil];omega
   ·rw [if_neg h2];have hle:le m (p ++ [x])=le m p:=by rw [Vd,if_neg jO]
    refine Adw m t (p ++ [x]) e r ?_ ?_
    ·rw [ho,Hd,if_neg h1,hle]
    ·rw [hle,hs]
def rows (l:List Int):List Int->Int->Int->List Int
 | [],_,_=>[]
 | m::ms,n,e=>(row m l (e+(m - n)*((lt n l).length+1))).1 ++ rows l ms (m+1) ((row m l (e+(m - n)*((lt n l).length+1))).2+1)
def Vq (l:List Int):List Int->Int->Prop
 | [],n=>∀ x ∈ l,x<n
 | m::ms,n=>n<=m/\(∀ x ∈ l,x<n\/m<=x)/\Vq l ms (m+1)
theorem lt_next (l:List Int) (m:Int):lt (m+1) l=le m l:=by
 unfold lt le;congr 1
 funext x
 rw [Bool.eq_iff_iff,decide_eq_true_eq,decide_eq_true_eq];omega
theorem Amq {l:List Int} {n m:Int} (hnm:n<=m) (h:∀ x ∈ l,x<n\/m<=x):lt m l=lt n l:=by
 unfold lt;apply List.filter_congr;intro x hx;rw [Bool.eq_iff_iff,decide_eq_true_eq,decide_eq_true_eq];have:=h x hx;omega
theorem Ats {l:List Int} {n:Int} (h:∀ x ∈ l,x<n):lt n l=l:=by
 unfold lt;rw [List.filter_eq_self];intro x hx;simpa using h x hx
theorem Rh (l:List Int):∀ (ms:List Int) (n e:Int) (r:Rd),Vq l ms n->r.out=lt n l->spot r+e=n*(r.out.length+1)->(Gc r (rows l ms n e)).out=l
 | [],n,e,r,hr,ho,_=>by
  show r.out=l;rw [ho,Ats hr]
 | m::ms,n,e,r,hr,ho,hs=>by
  obtain ⟨h1,h2,h3⟩:=hr;have hlt:=Amq h1 h2;unfold rows;rw [Gc,List.foldl_append];have key:=Adw m l [] (e+(m - n)*((lt n l).length+1)) r (by rw [ho,hlt];simp [le]) (by
   rw [<- Int.add_assoc,hs,ho,Int.sub_mul];simp [le];omega)
  rw [List.nil_append] at key;refine Rh l ms (m+1) _ _ h3 (by rw [lt_next];exact key.1) ?_;have hk:=key.2;have hl:=congrArg List.length key.1;show spot (Gc r _)+(_+1)=(m+1)*((Gc r _).out.length+1);rw [hl,<- Int.add_assoc,hk,Int.add_mul];omega
theorem Nw:∀ (l:List Int) (k:Nat) (x:Int),k<=l.length->l.insertIdx k x=l.take k ++ x::l.drop k
 | _,0,_,_=>by simp
 | [],k+1,_,h=>by simp at h
 | y::l,k+1,x,h=>by
  have:=Nw l k x (by simpa using h);simpa using this
def Ts (r:Rd):Prop:=∃ A B:List Int,r.out=A ++ B/\r.i=A.length/\(∀ x ∈ A,x<=r.n)/\∀ x ∈ B,x<r.n
theorem Je {r:Rd} {d:Int} (h:Ts r) (hd:0<=d):∃ A B:List Int,(Bt r d).out=A ++ (Bt r d).n::B/\r.out=A ++ B/\(Bt r d).i=A.length+1/\(∀ x ∈ A,x<=(Bt r d).n)/\(∀ x ∈ B,x<(Bt r d).n) /\
  (Bt r d).n*(r.out.length+1)+A.length=spot r+d:=by
 obtain ⟨A,B,ho,hi,hA,hB⟩:=h;have hlen:r.out.length=A.length+B.length:=by rw [ho,jab]
 have hc:(0:Int)<(r.out.length:Int)+1:=jO
 have hm0:=Int.emod_nonneg (r.i+d) (show (r.out.length:Int)+1 ≠ 0 by omega);have hm1:=Int.emod_lt_of_pos (r.i+d) hc;have hdm:=Int.emod_add_mul_ediv (r.i+d) ((r.out.length:Int)+1);have hq0:0<=(r.i+d) / ((r.out.length:Int)+1):=Int.ediv_nonneg jO jO;generalize hk:((r.i+d) % ((r.out.length:Int)+1))=k at hm0 hm1 hdm;generalize hq:((r.i+d) / ((r.out.length:Int)+1))=q at hq0 hdm;have hall:∀ x ∈ r.out,x<=r.n:=by
  intro x hx;rw [ho,jap] at hx;rcases hx with hx | hx
  ·exact hA x hx
  ·have:=hB x hx;omega
 have hst:Bt r d=⟨r.out.take k.toNat ++ (r.n+q)::r.out.drop k.toNat,r.n+q,k+1⟩:=by
  unfold Bt;rw [hk,hq,Nw _ _ _ jO]
 rw [hst];refine ⟨r.out.take k.toNat,r.out.drop k.toNat,rfl,(List.take_append_drop _ _).symm,?_,λx hx=>?_,λx hx=>?_,?_⟩
 ·simp only [jak];omega
 ·have:=hall x (List.mem_of_mem_take hx);simp only;omega
 ·simp only;by_cases hq1:1<=q
  ·have:=hall x (List.mem_of_mem_drop hx);omega
  ·have hqz:q=0:=jO
   subst hqz;rw [Int.mul_zero] at hdm;have hx':x ∈ B:=by
    rw [ho,List.drop_append] at hx;rw [List.drop_of_length_le jO,List.nil_append] at hx;exact List.mem_of_mem_drop hx
   have:=hB x hx';omega
 ·simp only [jak,spot];rw [Int.add_mul,show ((min k.toNat r.out.length:Nat):Int)=k by omega];have:((r.out.length:Int)+1)*q=q*((r.out.length:Int)+1):=Int.mul_comm _ _;omega
theorem Aay {r:Rd} {d:Int} (h:Ts r) (hd:0<=d):Ts (Bt r d):=by
 obtain ⟨A,B,h1,-,h3,h4,h5,-⟩:=Je h hd;refine ⟨A ++ [(Bt r d).n],B,by rw [h1];simp,by rw [h3];simp,λx hx=>?_,h5⟩;rw [jap,List.mem_singleton] at hx;rcases hx with hx | rfl
 · exact h4 x hx
 · exact Int.le_refl _
theorem Wz:∀ {ds:List Int} {r:Rd},Ts r->(∀ d ∈ ds,0<=d)->Ts (Gc r ds)
 | [],_,h,_=>h
 | d::ds,r,h,hd=>Wz (ds:=ds) (Aay h (hd d jS)) λx hx=>hd x (by simp [hx])
theorem Rc:∀ (ds:List Int) (r:Rd),Ts r->(∀ d ∈ ds,0<=d)->(Gc r ds).out.length=r.out.length+ds.length
 | [],_,_,_=>rfl
 | d::ds,r,h,hd=>by
  have h0:=hd d jS;obtain ⟨A,B,h1,h2,-⟩:=Je h h0;have:=Rc ds (Bt r d) (Aay h h0) λx hx=>hd x (by simp [hx]);show (Gc (Bt r d) ds).out.length=_;rw [this,h1,h2];simp only [jab,jac];omega
theorem Ath {A B A' B':List Int} {n n':Int} (h:A ++ n::B=A' ++ n'::B') (hA:∀ x ∈ A,x<=n) (hB:∀ x ∈ B,x<n) (hA':∀ x ∈ A',x<=n') (hB':∀ x ∈ B',x<n'):A=A'/\n=n'/\B=B':=by
 have hn:n=n':=by
  have h1:n ∈ A' ++ n'::B':=by rw [<- h];simp
  have h2:n' ∈ A ++ n::B:=by rw [h];simp
  rw [jap,jal] at h1 h2;have g1:n<=n':=by
   rcases h1 with h1 | h1 | h1
   · exact hA' n h1
   · omega
   · have:=hB' n h1;omega
  have g2:n'<=n:=by
   rcases h2 with h2 | h2 | h2
   · exact hA n' h2
   · omega
   · have:=hB n' h2;omega
  omega
 subst hn;rcases List.append_eq_append_iff.1 h with ⟨C,rfl,hC⟩ | ⟨C,rfl,hC⟩
 ·cases C with
  | nil=>simp at hC;simp [hC]
  | cons y C =>
   simp only [jah,List.cons.injEq] at hC;exfalso;have:=hB n (by rw [hC.2];simp);omega
 ·cases C with
  | nil=>simp at hC;simp [hC]
  | cons y C =>
   simp only [jah,List.cons.injEq] at hC;exfalso;have:=hB' n (by rw [hC.2];simp);omega
theorem Ahe {r:Rd} (hr:Ts r):∀ (k:Nat) (ds es:List Int),ds.length=k->es.length=k->(∀ d ∈ ds,0<=d)->(∀ d ∈ es,0<=d)->(Gc r ds).out=(Gc r es).out->ds=es
 | 0,ds,es,h1,h2,_,_,_=>by rw [List.eq_nil_of_length_eq_zero h1,List.eq_nil_of_length_eq_zero h2]
 | k+1,ds,es,h1,h2,hd,he,h=>by
  rcases List.eq_nil_or_concat ds with rfl | ⟨ds,d,rfl⟩
  ·simp at h1
  rcases List.eq_nil_or_concat es with rfl | ⟨es,e,rfl⟩
  ·simp at h2
  simp only [List.concat_eq_append,jab,jac,List.length_nil,jap,List.mem_singleton] at h1 h2 hd he h ⊢;have kd:=Wz (r:=r) (ds:=ds) hr λx hx=>hd x (.inl hx);have ke:=Wz (r:=r) (ds:=es) hr λx hx=>he x (.inl hx);have ed:Gc r (ds ++ [d])=Bt (Gc r ds) d:=by unfold Gc;rw [List.foldl_append];rfl
  have ee:Gc r (es ++ [e])=Bt (Gc r es) e:=by unfold Gc;rw [List.foldl_append];rfl
  rw [ed,ee] at h;obtain ⟨A,B,a1,a2,-,a4,a5,a6⟩:=Je kd (hd d (.inr rfl));obtain ⟨A',B',b1,b2,-,b4,b5,b6⟩:=Je ke (he e (.inr rfl));rw [a1,b1] at h;obtain ⟨rfl,hn,rfl⟩:=Ath h a4 a5 b4 b5;have hout:(Gc r ds).out=(Gc r es).out:=by rw [a2,b2]
  obtain rfl:=Ahe hr k ds es jO jO (λx hx=>hd x (.inl hx)) (λx hx=>he x (.inl hx)) hout;have hde:d=e:=by
   rw [<- hn] at b6;omega
  rw [hde]
theorem Li (m:Int):∀ (t:List Int) (e:Int),0<=e->(∀ d ∈ (row m t e).1,0<=d)/\0<=(row m t e).2
 | [],_,h=>⟨(λd hd=>by cases hd),h⟩
 | x::t,e,h=>by
  unfold row;split
  ·exact Li m t (e+1) jO
  ·split
   ·obtain ⟨h1,h2⟩:=Li m t 0 jO;refine ⟨λd hd=>?_,h2⟩;rcases jal.1 hd with rfl | hd
    · exact h
    · exact h1 d hd
   ·exact Li m t e h
theorem Mz (l:List Int):∀ (ms:List Int) (n e:Int),Vq l ms n->0<=e->∀ d ∈ rows l ms n e,0<=d
 | [],_,_,_,_=>λd hd=>by cases hd
 | m::ms,n,e,hr,he=>by
  obtain ⟨h1,-,h3⟩:=hr;have h0:0<=e+(m - n)*((lt n l).length+1):=by
   have:=Int.mul_nonneg (show 0<=m - n by omega) (show (0:Int)<=((lt n l).length:Int)+1 by omega);omega
  obtain ⟨g1,g2⟩:=Li m l _ h0;intro d hd;unfold rows at hd;rw [jap] at hd;rcases hd with hd | hd
  ·exact g1 d hd
  ·exact Mz l ms (m+1) _ h3 jO d hd
def start (p:List Int):Rd:=⟨p,128,0⟩
theorem Yf {p:List Int} (h:∀ x ∈ p,x<128):Ts (start p):=⟨[],p,rfl,rfl,(λx hx=>by cases hx),h⟩
theorem Yy (l ms:List Int) (h:Vq l ms 128):(Gc (start (lt 128 l)) (rows l ms 128 0)).out=l :=
 Rh l ms 128 0 _ h rfl (by simp [spot,start])
theorem Akx {p ds l ms:List Int} (hp:∀ x ∈ p,x<128) (hd:∀ d ∈ ds,0<=d) (hl:(Gc (start p) ds).out=l) (hpl:lt 128 l=p) (h:Vq l ms 128):rows l ms 128 0=ds:=by
 have hk:=Yf hp;have hw:=Yy l ms h;rw [hpl] at hw;have hn:=Mz l ms 128 0 h jO;have l1:=Rc (rows l ms 128 0) (start p) hk hn;have l2:=Rc ds (start p) hk hd;rw [hw] at l1;rw [hl] at l2;exact Ahe hk ds.length _ _ jO rfl hn hd (by rw [hw,hl])
end Puny
end
section
namespace Puny
def least (n:Int):List Int->Int->Int
 | [],m=>m
 | x::t,m=>least n t (if n<=x/\x<m then x else m)
theorem least_le (n:Int):∀ (l:List Int) (m:Int),least n l m<=m
 | [],m=>Int.le_refl _
 | x::t,m=>by
  unfold least;have:=least_le n t (if n<=x/\x<m then x else m);split at this
  · rename_i h;rw [if_pos h];omega
  · rename_i h;rw [if_neg h];exact this
theorem Ss (n:Int):∀ (l:List Int) (m:Int),∀ x ∈ l,n<=x->least n l m<=x
 | [],_,x,hx,_=>by cases hx
 | y::t,m,x,hx,hn=>by
  unfold least;rcases jal.1 hx with rfl | hx
  ·have:=least_le n t (if n<=x/\x<m then x else m);by_cases h:n<=x/\x<m
   · rw [if_pos h] at this ⊢;exact this
   · rw [if_neg h] at this ⊢;omega
  ·exact Ss n t _ x hx hn
theorem W6 (n:Int):∀ (l:List Int) (m:Int),least n l m=m\/(least n l m ∈ l/\n<=least n l m)
 | [],m=>.inl rfl
 | y::t,m=>by
  unfold least;by_cases h:n<=y/\y<m
  ·rw [if_pos h];rcases W6 n t y with e | ⟨e1,e2⟩
   · exact .inr ⟨by rw [e];simp,by rw [e];exact h.1⟩
   · exact .inr ⟨by simp [e1],e2⟩
  ·rw [if_neg h];rcases W6 n t m with e | ⟨e1,e2⟩
   · exact .inl e
   · exact .inr ⟨by simp [e1],e2⟩
theorem Aa0 {n m:Int} (h:n<=m):∀ (l:List Int),(lt n l).length<=(lt m l).length
 | []=>jaa _
 | x::t=>by
  have:=Aa0 h t;rw [Hd,Hd];by_cases h1:x<n
  ·rw [if_pos h1,if_pos jO];simp only [jac];omega
  ·rw [if_neg h1];split
   · simp only [jac];omega
   · exact this
theorem Mp {n m:Int} (h:n<=m):∀ (l:List Int),m ∈ l->(lt n l).length<(lt (m+1) l).length
 | [],hm=>by cases hm
 | x::t,hm=>by
  rw [Hd,Hd];rcases jal.1 hm with rfl | hm
  ·rw [if_neg jO,if_pos jO,jac];have:=Aa0 (show n<=m+1 by omega) t;omega
  ·have:=Mp h t hm;by_cases h1:x<n
   ·rw [if_pos h1,if_pos jO];simp only [jac];omega
   ·rw [if_neg h1];split
    · simp only [jac];omega
    · exact this
theorem Sv (n:Int) (l:List Int):(lt n l).length<=l.length:=by unfold lt;exact List.length_filter_le _ _
theorem Adf {n:Int}:∀ {l:List Int},(lt n l).length=l.length->∀ x ∈ l,x<n
 | [],_,x,hx=>by cases hx
 | y::t,h,x,hx=>by
  rw [Hd] at h;have h0:=Sv n t;by_cases h1:y<n
  ·rw [if_pos h1] at h;simp only [jac] at h;rcases jal.1 hx with rfl | hx
   · exact h1
   · exact Adf jO x hx
  ·rw [if_neg h1,jac] at h;omega
theorem Amr {n:Int}:∀ {l:List Int},(lt n l).length ≠ l.length->∃ x ∈ l,n<=x
 | [],h=>absurd rfl h
 | y::t,h=>by
  rw [Hd] at h;by_cases h1:y<n
  ·rw [if_pos h1] at h;simp only [jac] at h;obtain ⟨x,hx,hn⟩:=Amr (l:=t) (n:=n) jO;exact ⟨x,by simp [hx],hn⟩
  ·exact ⟨y,by simp,by omega⟩
def msF:Nat->List Int->Int->List Int
 | 0,_,_=>[]
 | f+1,l,n=>if (lt n l).length=l.length then [] else least n l 1114112::msF f l (least n l 1114112+1)
theorem Agc {l:List Int} {n:Int} (hl:∀ x ∈ l,x<1114112) (h:(lt n l).length ≠ l.length):least n l 1114112 ∈ l/\n<=least n l 1114112/\∀ x ∈ l,x<n\/least n l 1114112<=x:=by
 obtain ⟨x,hx,hn⟩:=Amr h;have h1:=Ss n l 1114112 x hx hn;rcases W6 n l 1114112 with e | ⟨e1,e2⟩
 ·have:=hl x hx;omega
 ·refine ⟨e1,e2,λy hy=>?_⟩;by_cases hy1:y<n
  · exact .inl hy1
  · exact .inr (Ss n l 1114112 y hy jO)
theorem Aa5:∀ (f:Nat) (l:List Int) (n:Int),(∀ x ∈ l,x<1114112)->l.length - (lt n l).length<=f->Vq l (msF f l n) n
 | 0,l,n,hl,hf=>by
  have:=Sv n l;exact Adf jO
 | f+1,l,n,hl,hf=>by
  unfold msF;by_cases h:(lt n l).length=l.length
  ·rw [if_pos h];exact Adf h
  ·rw [if_neg h];obtain ⟨h1,h2,h3⟩:=Agc hl h;have:=Mp h2 l h1;exact ⟨h2,h3,Aa5 f l _ hl jO⟩
def Fx (l:List Int):List Int:=rows l (msF l.length l 128) 128 0
theorem Ku (l:List Int) (hl:∀ x ∈ l,x<1114112):Vq l (msF l.length l 128) 128:=Aa5 _ _ _ hl jO
theorem Qo (ad:Int->Int->Bool->Int) (d:Int) (ds:List Int) (b c:Int) (f:Bool):emit ad (d::ds) b c f=digits d 36 b ++ emit ad ds (ad d (c+1) f) (c+1) false:=rfl
def Fg (l ms:List Int) (m:Int) (t:List Int) (e:Int):List Int:=(row m t e).1 ++ rows l ms (m+1) ((row m t e).2+1)
theorem Aky (l ms:List Int) (m n e:Int):rows l (m::ms) n e=Fg l ms m l (e+(m - n)*((lt n l).length+1)):=rfl
theorem Ap9 {l ms:List Int} {m x:Int} {t:List Int} {e:Int} (h:x<m):Fg l ms m (x::t) e=Fg l ms m t (e+1):=by unfold Fg;rw [row,if_pos h]
theorem Aqb {l ms:List Int} {m:Int} {t:List Int} {e:Int}:Fg l ms m (m::t) e=e::Fg l ms m t 0:=by
 unfold Fg;rw [row,if_neg jO,if_pos rfl];rfl
theorem Aqa {l ms:List Int} {m x:Int} {t:List Int} {e:Int} (h:m<x):Fg l ms m (x::t) e=Fg l ms m t e:=by unfold Fg;rw [row,if_neg jO,if_neg jO]
theorem Aup (l ms:List Int) (m e:Int):Fg l ms m [] e=rows l ms (m+1) (e+1):=rfl
end Puny
end
section
open Go.RowKit
namespace Puny
def Oy (n:Int):Int:=if n<26 then 97+n else 22+n
def valOf (n:Int):Option Int:=if 97<=n/\n<=122 then some (n - 97) else if 65<=n/\n<=90 then some (n - 65) else if 48<=n/\n<=57 then some (n - 48+26) else none
def Gr:Nat->Int->Int->Int
 | 0,d,k=>k+36*d / (d+38)
 | f+1,d,k=>if 455<d then Gr f (d / 35) (k+36) else k+36*d / (d+38)
theorem Tt:∀ (f g:Nat) (d k:Int),0<=d->d.toNat<=f->d.toNat<=g->Gr f d k=Gr g d k
 | 0,0,_,_,_,_,_=>rfl
 | 0,g+1,d,k,h0,hf,_=>by unfold Gr;rw [if_neg jO]
 | f+1,0,d,k,h0,_,hg=>by unfold Gr;rw [if_neg jO]
 | f+1,g+1,d,k,h0,hf,hg=>by
  unfold Gr;split
  · exact Tt f g _ _ jO jO jO
  · rfl
def Uw (d k:Int):Int:=Gr d.toNat d k
theorem Ann {d k:Int} (h:455<d):Uw d k=Uw (d / 35) (k+36):=by
 unfold Uw;obtain ⟨f,hf⟩:∃ f,d.toNat=f+1:=⟨d.toNat - 1,by omega⟩
 rw [hf,Gr,if_pos h];exact Tt _ _ _ _ jO jO jO
theorem Anm {d k:Int} (h:¬ 455<d):Uw d k=k+36*d / (d+38):=by
 unfold Uw;cases d.toNat with
 | zero=>rfl
 | succ f=>rw [Gr,if_neg h]
def adapt (delta count:Int) (first:Bool):Int:=Uw ((if first then delta / 700 else delta / 2)+(if first then delta / 700 else delta / 2) / count) 0
end Puny
namespace Puny
def Iy (n:Int):UInt8:=UInt8.ofNat (Oy n).toNat
theorem Qh {n:Int} (h:0<=n/\n<=35):((Iy n).toNat:Int)=Oy n:=by
 have h1:0<=Oy n/\Oy n<256:=by unfold Oy;split<;>omega
 unfold Iy;rw [UInt8.toNat_ofNat',Nat.mod_eq_of_lt (by show (Oy n).toNat<256;omega)];omega
def Bx (n k b:Int):List UInt8:=(digits n k b).map Iy
theorem Acr {n k b:Int} (h:n<thr k b):Bx n k b=[Iy n]:=by unfold Bx;rw [Ew h];rfl
theorem Acs {n k b:Int} (h:thr k b<=n):Bx n k b=Iy (thr k b+(n - thr k b) % (36 - thr k b))::Bx ((n - thr k b) / (36 - thr k b)) (k+36) b:=by unfold Bx;rw [F5 h];rfl
end Puny
end
section
open Go.RowKit Utf
namespace Puny
theorem Zu:∀ (f:Nat) (d k:Int),0<=d->k<=Gr f d k/\Gr f d k<=k+d+36
 | 0,d,k,h=>by
  have h1:0<=36*d / (d+38):=Int.ediv_nonneg jO jO;have h2:36*d / (d+38)<=36:=by
   have:=Int.ediv_le_ediv (c:=d+38) jO (show 36*d<=36*(d+38) by omega);rwa [Int.mul_ediv_cancel _ jO] at this
  unfold Gr;omega
 | f+1,d,k,h=>by
  unfold Gr;split
  ·have:=Zu f (d / 35) (k+36) jO;omega
  ·have h1:0<=36*d / (d+38):=Int.ediv_nonneg jO jO;have h2:36*d / (d+38)<=36:=by
    have:=Int.ediv_le_ediv (c:=d+38) jO (show 36*d<=36*(d+38) by omega);rwa [Int.mul_ediv_cancel _ jO] at this
   omega
theorem Aek {delta count:Int} (first:Bool) (hd:0<=delta/\delta<=2147483647) (hc:1<=count):0<=adapt delta count first/\adapt delta count first<=5000000000:=by
 unfold adapt;obtain ⟨d,hdd⟩:∃ d,d=(if first then delta / 700 else delta / 2):=⟨_,rfl⟩
 rw [<- hdd];have hb:0<=d/\d<=2147483647:=by rw [hdd];split<;>omega
 have hq0:0<=d / count:=Int.ediv_nonneg hb.1 jO;have hq1:d / count<=d:=Int.ediv_le_self _ hb.1;have:=Zu (d+d / count).toNat (d+d / count) 0 jO;unfold Uw;omega
def Cv (ds:List Int) (b c:Int) (f:Bool):List UInt8:=(emit adapt ds b c f).map Iy
theorem Abu (d:Int) (ds:List Int) (b c:Int) (f:Bool):Cv (d::ds) b c f=Bx d 36 b ++ Cv ds (adapt d (c+1) f) (c+1) false:=by
 unfold Cv Bx;rw [Qo,List.map_append]
def Bd (l:List Int):List UInt8:=(lt 128 l).map λx=>UInt8.ofNat x.toNat
def Jw (l:List Int):List UInt8:=if (lt 128 l).length=0 then [] else [45]
def Bm (l:List Int):List UInt8:=Bd l ++ Jw l ++ Cv (Fx l) 72 (lt 128 l).length true
theorem Atx {f:Nat} {l:List Int} {n:Int} (h:(lt n l).length=l.length):msF f l n=[]:=by
 cases f with
 | zero=>rfl
 | succ f=>unfold msF;rw [if_pos h]
theorem Aty {f:Nat} {l:List Int} {n:Int} (h:(lt n l).length ≠ l.length):msF (f+1) l n=least n l 1114112::msF f l (least n l 1114112+1):=by rw [msF,if_neg h]
theorem Ajz (n x:Int) (t:List Int) (z:Int):least n (x::t) z=least n t (if n<=x/\x<z then x else z):=rfl
theorem Ayp (m:Int) (l:List Int):(le m l).length<=l.length:=by unfold le;exact List.length_filter_le _ _
theorem Aww (m:Int) (p:List Int) (x:Int):lt m (p ++ [x])=if x<m then lt m p ++ [x] else lt m p:=by
 unfold lt;rw [List.filter_append];by_cases h:x<m<;>simp [h]
end Puny
def Ary (bs:List UInt8) (ok:Bool) (w:World) (e:Ending) (w':World):Prop:=e=.returned (.tuple #[.string ⟨bs.toArray⟩,.bool ok])/\Below w.heap.size w w'
theorem Xw {l:List Int} {k:Nat} (h:k<l.length) (hr:Ae l=true):Ai l[k]! = true:=by
 unfold Ae at hr;rw [getElem!_pos l k h];exact jar.1 hr _ (List.getElem_mem h)
theorem Ek {l:List Int} (h:Ae l=true):∀ x ∈ l,x<1114112:=λx hx=>by
 unfold Ae at h;have:=(Ak x).1 (jar.1 h x hx);omega
end
section
open Go.RowKit Utf
namespace Puny
def Eg (c:UInt8):Int:=(c.toNat:Int)
def Hs (b:Int):List UInt8->Int->Int->Int->Nat->Option (Int × Nat)
 | [],_,_,_,_=>none
 | c::l,k,w,s,u=>match valOf (Eg c) with
  | none=>none
  | some d=>if Fe<w\/Fe<s+d*w then none else if d<thr k b then some (s+d*w,u+1) else Hs b l (k+36) (w*(36 - thr k b)) (s+d*w) (u+1)
theorem Yr {n d:Int} (h:valOf n=some d):0<=d/\d<=35:=by
 unfold valOf at h;split at h
 ·have:=Option.some.inj h;omega
 ·split at h
  ·have:=Option.some.inj h;omega
  ·split at h
   · have:=Option.some.inj h;omega
   · cases h
def Akh (o:Option (Int × Nat)):Value:=match o with | none=>.tuple #[.int .i64 0,.int .i64 0] | some (x,u)=>.tuple #[.int .i64 x,.int .i64 u]
end Puny
end
section
open Go.RowKit Utf
namespace Puny
def Gw (r:Rd) (d:Int):Bool:=decide (r.i+d<=Fe) && Ai (r.n+(r.i+d) / (r.out.length+1))
def Kt:Nat->List UInt8->Int->Bool->Rd->Option (List Int)
 | _,[],_,_,r=>some r.out
 | 0,_::_,_,_,_=>none
 | k+1,x::l,b,f,r=>match Hs b (x::l) 36 1 0 0 with
  | none=>none
  | some (d,m)=>if Gw r d then Kt k ((x::l).drop m) (adapt d (r.out.length+1) f) false (Bt r d) else none
def Bw:List UInt8->Nat->Nat->Nat
 | [],_,a=>a
 | c::t,k,a=>Bw t (k+1) (if c.toNat=45 then k else a)
def Bg (bs:List UInt8):Nat:=Bw bs 0 0
def Ut (bs:List UInt8):Bool:=bs.any λc=>decide (127<c.toNat)
def Du (bs:List UInt8):Nat:=if Bg bs=0 then 0 else Bg bs+1
def Hj (bs:List UInt8):Option (List Int) :=
 if Ut bs then none else Kt bs.length (bs.drop (Du bs)) 72 true (start ((bs.take (Bg bs)).map Eg))
theorem Mb:∀ (t:List UInt8) (k a:Nat),a<=k->Bw t k a<=k+t.length/\(Bw t k a=a\/Bw t k a<k+t.length)
 | [],k,a,h=>⟨by simpa [Bw] using h,.inl rfl⟩
 | c::t,k,a,h=>by
  unfold Bw;split
  ·have:=Mb t (k+1) k jO;simp only [jac];omega
  ·have:=Mb t (k+1) a jO;simp only [jac];omega
theorem Jv (bs:List UInt8):Bg bs=0\/Bg bs<bs.length:=by
 have:=(Mb bs 0 0 (jaa _)).2;unfold Bg;omega
theorem Abt (bs:List UInt8):Du bs<=bs.length:=by
 have:=Jv bs;unfold Du;split<;>omega
theorem Vi (b:Int):∀ (l:List UInt8) (k w s:Int) (u:Nat) (x:Int) (v:Nat),Hs b l k w s u=some (x,v)->1<=w->0<=s->0<=x/\x<=Fe/\u+1<=v/\v<=u+l.length
 | [],_,_,_,_,_,_,h,_,_=>by cases h
 | c::l,k,w,s,u,x,v,h,hw,hs=>by
  unfold Hs at h;cases hv:valOf (Eg c) with
  | none=>rw [hv] at h;cases h
  | some d =>
   rw [hv] at h;simp only at h;have hd:=Yr hv;have ht:=Jp k b;have h0:0<=d*w:=Int.mul_nonneg hd.1 jO;split at h
   ·cases h
   ·rename_i hlim
    split at h
    ·have:=Option.some.inj h;injection this with e1 e2
     subst e1 e2;simp only [jac];refine ⟨by omega,by omega,by omega,by omega⟩
    ·have h1:1<=w*(36 - thr k b):=by
      have:1*1<=w*(36 - thr k b):=Int.mul_le_mul hw jO jO jO;omega
     have:=Vi b l _ _ _ _ _ _ h h1 jO;simp only [jac];omega
theorem Aaa {k:Nat} {x:UInt8} {l:List UInt8} {b:Int} {f:Bool} {r:Rd} (h:Hs b (x::l) 36 1 0 0=none):Kt k (x::l) b f r=none:=by
 cases k with
 | zero=>rfl
 | succ k=>unfold Kt;rw [h]
theorem Ae5 {k:Nat} {x:UInt8} {l:List UInt8} {b:Int} {f:Bool} {r:Rd} {d:Int} {m:Nat} (h:Hs b (x::l) 36 1 0 0=some (d,m)) (ho:Gw r d=false):Kt k (x::l) b f r=none:=by
 cases k with
 | zero=>rfl
 | succ k=>unfold Kt;rw [h];simp [ho]
theorem R9 {k:Nat} {x:UInt8} {l:List UInt8} {b:Int} {f:Bool} {r:Rd} {d:Int} {m:Nat} (h:Hs b (x::l) 36 1 0 0=some (d,m)) (ho:Gw r d=true) :
  Kt (k+1) (x::l) b f r=Kt k ((x::l).drop m) (adapt d (r.out.length+1) f) false (Bt r d):=by
 rw [Kt,h];simp [ho]
theorem N9 (r:Rd) (d:Int):(Bt r d).out=r.out.take ((r.i+d) % (r.out.length+1)).toNat ++ ((Bt r d).n::r.out.drop ((r.i+d) % (r.out.length+1)).toNat):=by
 have h1:=Int.emod_nonneg (r.i+d) (b:=r.out.length+1) jO;have h2:=Int.emod_lt_of_pos (r.i+d) (b:=r.out.length+1) jO;unfold Bt;exact Nw _ _ _ jO
theorem Abk (r:Rd) (d:Int):(Bt r d).out.length=r.out.length+1:=by
 have h1:=Int.emod_nonneg (r.i+d) (b:=r.out.length+1) jO;have h2:=Int.emod_lt_of_pos (r.i+d) (b:=r.out.length+1) jO;rw [N9 r d,jab,jac,jak,jaj];omega
end Puny
def Uz (o:Option (List Int)) (w:World) (e:Ending) (w':World):Prop :=
 ∃ A c,e=.returned (.tuple #[.slice A (o.getD []).length c,.bool o.isSome])/\Runes (.slice A (o.getD []).length c) (o.getD []) w'/\Below w.heap.size w w'
theorem Aqs (w:World):Runes (.slice none 0 0) [] w:=⟨none,0,rfl,jaa _,λ_=>rfl,λh=>absurd h jS⟩
theorem We {o:Option (List Int)} {w w':World} (h:o=none) (hb:Below w.heap.size w w'):Uz o w (.returned (.tuple #[.slice none 0 0,.bool false])) w':=by
 subst h;exact ⟨none,0,rfl,Aqs _,hb⟩
theorem extract_drop (s:ByteArray) (k:Nat):(s.extract k s.size).data.toList=s.data.toList.drop k:=by
 rw [ByteArray.data_extract,Array.toList_extract,List.extract_eq_take_drop,List.take_of_length_le jS]
end
section
open Go.RowKit Utf
end
section
open Go.RowKit Utf
namespace Puny
def Lu (c:UInt8):Option Int:=valOf (Eg c)
theorem Ai8 {n:Int} (h:0<=n/\n<=35):Eg (Iy n)=Oy n:=Qh h
theorem Aby {n:Int} (h:0<=n/\n<=35):Lu (Iy n)=some n:=by
 unfold Lu;rw [Ai8 h];unfold Oy;by_cases h1:n<26
 ·rw [if_pos h1];unfold valOf;rw [if_pos jO];congr 1;omega
 ·rw [if_neg h1];unfold valOf;rw [if_neg jO,if_neg jO,if_pos jO];congr 1;omega
theorem Se:∀ (f:Nat) (n k b:Int),0<=n->n.toNat<f->∀ x ∈ digits n k b,0<=x/\x<=35
 | 0,_,_,_,_,h=>by omega
 | f+1,n,k,b,hn,hf=>by
  have ht:=Jp k b;by_cases h:n<thr k b
  ·rw [Ew h];intro x hx;rw [List.mem_singleton] at hx;omega
  ·have hl:=less n (thr k b) ht.1 ht.2 jO;have hp:=parts n (thr k b) ht.1 ht.2;rw [F5 jO];intro x hx;rcases jal.1 hx with rfl | hx
   · omega
   · exact Se f _ _ _ hl.1 jO x hx
theorem Kv:∀ (ds:List Int) (b c:Int) (f:Bool),(∀ d ∈ ds,0<=d)->∀ x ∈ emit adapt ds b c f,0<=x/\x<=35
 | [],_,_,_,_=>λx hx=>by cases hx
 | d::ds,b,c,f,h=>by
  intro x hx;rw [Qo] at hx;rcases jap.1 hx with hx | hx
  · exact Se (d.toNat+1) d 36 b (h d jS) jO x hx
  · exact Kv ds _ _ _ (λy hy=>h y (by simp [hy])) x hx
theorem Qn:∀ (ds:List Int) (b c:Int) (f:Bool),ds.length<=(emit adapt ds b c f).length
 | [],_,_,_=>jaa _
 | d::ds,b,c,f=>by
  rw [Qo,jab,jac];have:=Qn ds (adapt d (c+1) f) (c+1) false;have:=List.length_pos_iff.2 (Aab d 36 b);omega
theorem Agv (b:Int):∀ (vs:List Int) (k w s:Int) (u:Nat),(∀ x ∈ vs,0<=x/\x<=35)->Hs b (vs.map Iy) k w s u=num b vs k w s u
 | [],_,_,_,_,_=>rfl
 | x::vs,k,w,s,u,h=>by
  have hx:=Aby (h x jS);unfold Lu at hx;have ih:=λk w s u=>Agv b vs k w s u (λy hy=>h y (by simp [hy]));rw [List.map_cons,Hs,num,hx];simp only [ih]
theorem Ue (b:Int):∀ (bs:List UInt8) (k w s:Int) (u:Nat) (x:Int) (v:Nat),Hs b bs k w s u=some (x,v) ->
  ∃ vs:List Int,(bs.take (v - u)).map Lu=vs.map some/\num b vs k w s u=some (x,v)/\u+vs.length=v
 | [],_,_,_,_,_,_,h=>by cases h
 | c::l,k,w,s,u,x,v,h=>by
  unfold Hs at h;cases hv:valOf (Eg c) with
  | none=>rw [hv] at h;cases h
  | some d =>
   rw [hv] at h;simp only at h;split at h
   ·cases h
   ·rename_i hlim
    split at h
    ·rename_i ht
     have e:=Option.some.inj h;injection e with e1 e2
     subst e1 e2;refine ⟨[d],?_,?_,by simp⟩
     ·rw [show u+1 - u=1 by omega];simp [Lu,hv]
     ·rw [num,if_neg hlim,if_pos ht]
    ·rename_i ht
     obtain ⟨vs,h1,h2,h3⟩:=Ue b l _ _ _ _ _ _ h;refine ⟨d::vs,?_,?_,by simp only [jac];omega⟩
     ·rw [show v - u=(v - (u+1))+1 by omega,List.take_succ_cons,List.map_cons,List.map_cons,h1];simp [Lu,hv]
     ·rw [num,if_neg hlim,if_neg ht,h2]
theorem Am8 {c:UInt8} {d:Int} (h:Lu c=some d):0<=d/\d<36:=by have:=Yr h;omega
theorem Axv {bs:List UInt8} {vs:List Int} (h:bs.map Lu=vs.map some):∀ d ∈ vs,0<=d/\d<36:=by
 intro d hd;have:some d ∈ bs.map Lu:=by rw [h];exact List.mem_map.2 ⟨d,hd,rfl⟩
 obtain ⟨c,-,hc⟩:=List.mem_map.1 this;exact Am8 hc
theorem Apj {b:Int} {bs:List UInt8} {d:Int} {m:Nat} (h:Hs b bs 36 1 0 0=some (d,m)):0<=d/\1<=m/\m<=bs.length/\(bs.take m).map Lu=(digits d 36 b).map some:=by
 have hb:=Vi b _ _ _ _ _ _ _ h jD jD;obtain ⟨vs,h1,h2,h3⟩:=Ue b _ _ _ _ _ _ _ h;rw [Nat.sub_zero] at h1;obtain ⟨n,j,hn,hx,hv,hj,-,ht⟩:=Agw b vs 36 1 0 0 d m (Axv h1) h2;obtain rfl:d=n:=jO
 rw [List.take_of_length_le jO] at ht;rw [ht] at h1;exact ⟨hn,by omega,by omega,h1⟩
theorem mem_insert {l:List Int} {k:Nat} {x y:Int} (hk:k<=l.length) (h:y ∈ l):y ∈ l.insertIdx k x:=by
 rw [Nw l k x hk];rw [<- List.take_append_drop k l] at h;rcases jap.1 h with h | h
 · exact jap.2 (.inl h)
 · exact jap.2 (.inr (List.mem_cons_of_mem _ h))
theorem Aqp {r:Rd} {d:Int}:(Bt r d).n ∈ (Bt r d).out:=by rw [N9];simp
theorem Ak5 {r:Rd} {d y:Int} (h:y ∈ r.out):y ∈ (Bt r d).out:=by
 have h1:=Int.emod_nonneg (r.i+d) (b:=r.out.length+1) jO;have h2:=Int.emod_lt_of_pos (r.i+d) (b:=r.out.length+1) jO;exact mem_insert jO h
theorem Abd:∀ {ds:List Int} {r:Rd} {y:Int},y ∈ r.out->y ∈ (Gc r ds).out
 | [],_,_,h=>h
 | _::ds,_,_,h=>Abd (ds:=ds) (Ak5 h)
theorem Ap5 (r:Rd) (d:Int) (ds:List Int):Gc r (d::ds)=Gc (Bt r d) ds:=rfl
theorem Z9:∀ (ds:List Int) (r:Rd) (b:Int) (f:Bool) (fuel:Nat),(∀ d ∈ ds,0<=d)->0<=r.n->0<=r.i->r.out.length+ds.length<=112->(∀ x ∈ (Gc r ds).out,Ai x=true)->ds.length<=fuel ->
  Kt fuel (Cv ds b r.out.length f) b f r=some (Gc r ds).out
 | [],r,b,f,fuel,_,_,_,_,_,_=>by unfold Cv emit;cases fuel<;>rfl
 | d::ds,r,b,f,fuel,hd,hn,hi,hlen,hR,hf=>by
  obtain ⟨k,rfl⟩:∃ k,fuel=k+1:=⟨fuel - 1,by simp only [jac] at hf;omega⟩
  have hd0:=hd d jS;have hn1:=hR _ (Abd (ds:=ds) (Aqp (r:=r) (d:=d)));have hr1:=(Ak _).1 hn1;have hL:r.out.length<=111:=by simp only [jac] at hlen;omega
  have hq:(Bt r d).n=r.n+(r.i+d) / (r.out.length+1):=rfl;have hdm:=Int.mul_ediv_add_emod (r.i+d) (r.out.length+1);have hm1:=Int.emod_lt_of_pos (r.i+d) (b:=r.out.length+1) jO;have hm0:=Int.emod_nonneg (r.i+d) (b:=r.out.length+1) jO;have hqb:(r.i+d) / (r.out.length+1)<=1114111:=jO
  have hqn:0<=(r.i+d) / (r.out.length+1):=Int.ediv_nonneg jO jO;have hmul:((r.out.length:Int)+1)*((r.i+d) / (r.out.length+1))<=112*1114111:=Int.mul_le_mul jO hqb hqn jD;have hsum:r.i+d<=126322567:=jO
  have hok:Gw r d=true:=by
   unfold Gw Fe;rw [<- hq,hn1,decide_eq_true jO];rfl
  have htl:Cv (d::ds) b r.out.length f=Bx d 36 b ++ Cv ds (adapt d ((r.out.length:Int)+1) f) ((r.out.length:Int)+1) false:=Abu _ _ _ _ _;have hval:∀ x ∈ digits d 36 b ++ emit adapt ds (adapt d ((r.out.length:Int)+1) f) ((r.out.length:Int)+1) false,0<=x/\x<=35:=by
   intro x hx;rcases jap.1 hx with hx | hx
   ·exact Se (d.toNat+1) d 36 b hd0 jO x hx
   ·exact Kv ds _ _ _ (λy hy=>hd y (by simp [hy])) x hx
  have hnum:Hs b (Cv (d::ds) b r.out.length f) 36 1 0 0=some (d,(Bx d 36 b).length):=by
   have h1:=Xd b 126322567 jD (d.toNat+1) d 36 1 0 0 (emit adapt ds (adapt d ((r.out.length:Int)+1) f) ((r.out.length:Int)+1) false) jO hd0 jD jD jO jD (λ_=>⟨0,rfl⟩);rw [<- Agv b _ _ _ _ _ hval] at h1;rw [show Cv (d::ds) b r.out.length f=(digits d 36 b ++ emit adapt ds (adapt d ((r.out.length:Int)+1) f) ((r.out.length:Int)+1) false).map Iy from rfl,h1];simp [Bx]
  have hne:∃ x l,Cv (d::ds) b r.out.length f=x::l:=by
   cases hc:Cv (d::ds) b r.out.length f with
   | nil =>
    have h1:=congrArg List.length hc;rw [htl,jab] at h1;have h2:(Bx d 36 b).length=(digits d 36 b).length:=by simp [Bx]
    have h3:=List.length_pos_iff.2 (Aab d 36 b);simp only [List.length_nil] at h1;omega
   | cons x l=>exact ⟨x,l,rfl⟩
  obtain ⟨x,l,hxl⟩:=hne;have hdrop:(Cv (d::ds) b r.out.length f).drop (Bx d 36 b).length=Cv ds (adapt d ((r.out.length:Int)+1) f) ((r.out.length:Int)+1) false:=by rw [htl,List.drop_left]
  rw [hxl] at hnum hdrop ⊢;rw [R9 hnum hok,hdrop,Ap5];have hl2:=Abk r d;have ih:=Z9 ds (Bt r d) (adapt d ((r.out.length:Int)+1) f) false k (λy hy=>hd y (by simp [hy])) jO (by show 0<=(r.i+d) % (r.out.length+1)+1;omega) (by rw [hl2];simp only [jac] at hlen;omega) hR (by simp only [jac] at hf;omega);rw [hl2] at ih;exact ih
end Puny
end
section
open Go.RowKit Utf
namespace Puny
def M9 (b:UInt8):UInt8:=if 65<=b.toNat/\b.toNat<=90 then UInt8.ofNat (b.toNat+32) else b
theorem Hi:∀ (t:List UInt8) (k a:Nat),(∀ c ∈ t,c.toNat ≠ 45)->Bw t k a=a
 | [],_,_,_=>rfl
 | c::t,k,a,h=>by
  unfold Bw;rw [if_neg (h c jS),Hi t _ _ λx hx=>h x (by simp [hx])]
theorem Fv:∀ (x y:List UInt8) (k a:Nat),Bw (x ++ y) k a=Bw y (k+x.length) (Bw x k a)
 | [],y,k,a=>rfl
 | c::x,y,k,a=>by
  rw [jah,Bw,Bw,Fv x y,jac];congr 1;omega
theorem Ma:∀ (t:List UInt8) (k a:Nat),Bw t k a=a\/∃ j,Bw t k a=k+j/\∃ h:j<t.length,(t[j]).toNat=45
 | [],_,_=>.inl rfl
 | c::t,k,a=>by
  unfold Bw;by_cases hc:c.toNat=45
  ·rw [if_pos hc];rcases Ma t (k+1) k with h | ⟨j,h1,h2,h3⟩
   · exact .inr ⟨0,by rw [h];rfl,by simp,hc⟩
   · exact .inr ⟨j+1,by rw [h1];omega,by simp only [jac];omega,by simpa using h3⟩
  ·rw [if_neg hc];rcases Ma t (k+1) a with h | ⟨j,h1,h2,h3⟩
   · exact .inl h
   · exact .inr ⟨j+1,by rw [h1];omega,by simp only [jac];omega,by simpa using h3⟩
theorem Al5 {bs:List UInt8} (h:Bg bs ≠ 0):bs=bs.take (Bg bs) ++ [45] ++ bs.drop (Bg bs+1):=by
 rcases Ma bs 0 0 with h0 | ⟨j,h1,h2,h3⟩
 ·exact absurd h0 h
 ·have e:Bg bs=j:=by unfold Bg;rw [h1];omega
  have e45:bs[j]=45:=by
   apply UInt8.toNat_inj.1;rw [h3];rfl
  rw [e];rw [jaq,List.singleton_append,<- e45,<- List.drop_eq_getElem_cons h2,List.take_append_drop]
theorem Ai7 {n:Int} (h:0<=n/\n<=35):(Iy n).toNat ≠ 45/\(Iy n).toNat<128:=by
 have:=Qh h;unfold Oy at this;split at this<;>omega
theorem Ur {ds:List Int} (b c:Int) (f:Bool) (h:∀ d ∈ ds,0<=d):∀ x ∈ Cv ds b c f,x.toNat ≠ 45/\x.toNat<128:=by
 intro x hx;obtain ⟨v,hv,rfl⟩:=List.mem_map.1 hx;exact Ai7 (Kv ds b c f h v hv)
theorem Adg {m:Int} {l:List Int} {x:Int} (h:x ∈ lt m l):x ∈ l/\x<m:=by
 unfold lt at h;have:=List.mem_filter.1 h;exact ⟨this.1,by simpa using this.2⟩
theorem Ag8 {l:List Int} (h:∀ x ∈ l,0<=x):(Bd l).map Eg=lt 128 l:=by
 unfold Bd;rw [List.map_map];refine (List.map_congr_left λx hx=>?_).trans (List.map_id _);have:=Adg hx;have h0:=h x this.1;show ((UInt8.ofNat x.toNat).toNat:Int)=x;rw [UInt8.toNat_ofNat_of_lt' (by show x.toNat<256;omega)];omega
theorem Apu {l:List Int} (h:∀ x ∈ l,0<=x):∀ c ∈ Bd l,c.toNat<128:=by
 intro c hc;unfold Bd at hc;obtain ⟨x,hx,rfl⟩:=List.mem_map.1 hc;have:=Adg hx;have h0:=h x this.1;rw [UInt8.toNat_ofNat_of_lt' (by show x.toNat<256;omega)];omega
theorem Xx {l:List Int} (h:Ae l=true):∀ x ∈ l,Ai x=true:=by
 unfold Ae at h;rwa [jar] at h
theorem Te {l:List Int} (h:Ae l=true):∀ x ∈ l,0<=x:=λx hx=>((Ak x).1 (Xx h x hx)).1
theorem Gs {l:List Int} (h:∀ x ∈ l,x<1114112):∀ d ∈ Fx l,0<=d:=Mz l _ _ _ (Ku l h) jD
theorem Mc {l:List Int} (h:Ae l=true):(Gc (start (lt 128 l)) (Fx l)).out=l:=Yy l _ (Ku l (Ek h))
theorem Ox {l:List Int} (h:Ae l=true):(lt 128 l).length+(Fx l).length=l.length:=by
 have h1:=Rc (Fx l) (start (lt 128 l)) (Yf λx hx=>(Adg hx).2) (Gs (Ek h));rw [Mc h] at h1;exact h1.symm
theorem Axw {bs:List UInt8} (h:∀ c ∈ bs,c.toNat<128):Ut bs=false:=by
 unfold Ut;rw [List.any_eq_false];intro c hc;have:=h c hc;simp;omega
theorem Ame {l:List Int} (h:Ae l=true):∀ c ∈ Bm l,c.toNat<128:=by
 intro c hc;unfold Bm at hc;rcases jap.1 hc with hc | hc
 ·rcases jap.1 hc with hc | hc
  ·exact Apu (Te h) c hc
  ·unfold Jw at hc;split at hc
   · cases hc
   · rw [List.mem_singleton] at hc;subst hc;decide
 ·exact (Ur _ _ _ (Gs (Ek h)) c hc).2
theorem Aod {l:List Int} (h:Ae l=true):Bg (Bm l)=(Bd l).length/\(Bm l).drop (Du (Bm l))=Cv (Fx l) 72 (lt 128 l).length true:=by
 have hno:=λc hc=>(Ur 72 (lt 128 l).length true (Gs (Ek h)) c hc).1;have hpl:(Bd l).length=(lt 128 l).length:=by unfold Bd;rw [jai]
 by_cases h0:(lt 128 l).length=0
 ·have hp:Bd l=[]:=List.eq_nil_of_length_eq_zero jO;have he:Bm l=Cv (Fx l) 72 (lt 128 l).length true:=by unfold Bm Jw;rw [hp,if_pos h0];rfl
  have hd:Bg (Bm l)=0:=by rw [he];exact Hi _ _ _ hno
  refine ⟨by rw [hd,hp];rfl,?_⟩;unfold Du;rw [hd,if_pos rfl,he,List.drop_zero]
 ·have he:Bm l=Bd l ++ [45] ++ Cv (Fx l) 72 (lt 128 l).length true:=by unfold Bm Jw;rw [if_neg h0]
  have hd:Bg (Bm l)=(Bd l).length:=by
   unfold Bg;rw [he,Fv,Hi _ _ _ hno,Fv];rw [Bw,Bw,if_pos jD];omega
  refine ⟨hd,?_⟩;unfold Du;rw [hd,if_neg jO,he];rw [show (Bd l).length+1=(Bd l ++ [45]).length by simp,List.drop_left]
theorem Acp {l:List Int} (h:Ae l=true) (hn:l.length<=110):Hj (Bm l)=some l:=by
 obtain ⟨h1,h2⟩:=Aod h;have hl:=Ox h;have htk:(Bm l).take (Bd l).length=Bd l:=by unfold Bm;rw [jaq,List.take_left]
 have hfu:(Fx l).length<=(Bm l).length:=by
  have:(Cv (Fx l) 72 (lt 128 l).length true).length<=(Bm l).length:=by unfold Bm;rw [jab];omega
  have h3:=Qn (Fx l) 72 (lt 128 l).length true;unfold Cv at this;rw [jai] at this;omega
 unfold Hj;rw [Axw (Ame h),if_neg jD,h2,h1,htk,Ag8 (Te h)];have key:=Z9 (Fx l) (start (lt 128 l)) 72 true (Bm l).length (Gs (Ek h)) (show (0:Int)<=128 by decide) (Int.le_refl 0) (by show (lt 128 l).length+_<=112;omega) (by rw [Mc h];exact Xx h) hfu;rw [Mc h] at key;exact key
theorem R8:∀ (fuel:Nat) (bs:List UInt8) (b:Int) (f:Bool) (r:Rd) (out:List Int),Kt fuel bs b f r=some out->128<=r.n->0<=r.i->(∀ x ∈ r.out,Ai x=true) ->
  ∃ ds:List Int,(∀ d ∈ ds,0<=d)/\out=(Gc r ds).out/\bs.map Lu=(emit adapt ds b r.out.length f).map some/\(∀ x ∈ out,Ai x=true)/\lt 128 out=lt 128 r.out
 | fuel,[],b,f,r,out,h,_,_,hr=>by
  have:some r.out=some out:=by cases fuel<;>exact h
  have:=Option.some.inj this;subst this;exact ⟨[],(λd hd=>by cases hd),rfl,rfl,hr,rfl⟩
 | 0,_::_,_,_,_,_,h,_,_,_=>by cases h
 | k+1,x::l,b,f,r,out,h,hn,hi,hr=>by
  cases hN:Hs b (x::l) 36 1 0 0 with
  | none=>rw [Aaa hN] at h;cases h
  | some p =>
   obtain ⟨d,m⟩:=p;cases hok:Gw r d with
   | false=>rw [Ae5 hN hok] at h;cases h
   | true =>
    rw [R9 hN hok] at h;obtain ⟨hd0,hm1,hml,hdig⟩:=Apj hN;have hq:(Bt r d).n=r.n+(r.i+d) / (r.out.length+1):=rfl;have hqn:0<=(r.i+d) / (r.out.length+1):=Int.ediv_nonneg jO jO;have hm0:=Int.emod_nonneg (r.i+d) (b:=r.out.length+1) jO;have hnr:Ai (Bt r d).n=true:=by
     unfold Gw at hok;rw [jag] at hok;rw [hq];exact hok.2
    have hout:=N9 r d;have hmem:∀ y ∈ (Bt r d).out,y=(Bt r d).n\/y ∈ r.out:=by
     intro y hy;rw [hout] at hy;rcases jap.1 hy with hy | hy
     ·exact .inr (List.mem_of_mem_take hy)
     ·rcases jal.1 hy with hy | hy
      · exact .inl hy
      · exact .inr (List.mem_of_mem_drop hy)
    have hlt:lt 128 (Bt r d).out=lt 128 r.out:=by
     rw [hout];unfold lt;rw [List.filter_append,List.filter_cons_of_neg (by simp;omega),<- List.filter_append,List.take_append_drop]
    obtain ⟨ds,h1,h2,h3,h4,h5⟩:=R8 k _ _ _ (Bt r d) out h jO (by show 0<=(r.i+d) % (r.out.length+1)+1;omega) (λy hy=>by rcases hmem y hy with rfl | hy;exact hnr;exact hr y hy);refine ⟨d::ds,?_,h2,?_,h4,by rw [h5,hlt]⟩
    ·intro e he;rcases jal.1 he with rfl | he
     ·exact hd0
     ·exact h1 e he
    ·rw [Qo,List.map_append,<- hdig];rw [Abk] at h3;rw [show ((r.out.length+1:Nat):Int)=(r.out.length:Int)+1 by omega] at h3;rw [<- h3,<- List.map_append,List.take_append_drop]
theorem Rl {c:UInt8} {v:Int} (h:Lu c=some v):M9 c=Iy v:=by
 have hc:=Dc c;have hv:=Am8 h;have hd:=Qh (n:=v) jO;apply UInt8.toNat_inj.1;unfold Lu valOf Eg at h;unfold Oy at hd;unfold M9;split at h
 ·have:=Option.some.inj h;rw [if_neg jO];split at hd<;>omega
 ·split at h
  ·have:=Option.some.inj h;rw [if_pos jO,UInt8.toNat_ofNat_of_lt' (by show c.toNat+32<256;omega)];split at hd<;>omega
  ·split at h
   ·have:=Option.some.inj h;rw [if_neg jO];split at hd<;>omega
   ·cases h
theorem X9 {v:Int} (h:0<=v/\v<=35):M9 (Iy v)=Iy v:=Rl (Aby h)
theorem Ak8 {bs:List UInt8} {vs:List Int} (h:bs.map Lu=vs.map some):bs.map M9=vs.map Iy:=by
 induction bs generalizing vs with
 | nil =>
  cases vs with
  | nil=>rfl
  | cons v vs=>cases h
 | cons c bs ih =>
  cases vs with
  | nil=>cases h
  | cons v vs =>
   rw [List.map_cons,List.map_cons] at h;injection h with h1 h2
   rw [List.map_cons,List.map_cons,Rl h1,ih h2]
theorem Acz {bs:List UInt8} {l:List Int} (h:Hj bs=some l):Ae l=true/\(Bm l).map M9=bs.map M9/\l.length<=bs.length:=by
 unfold Hj at h;cases hw:Ut bs with
 | true=>rw [hw] at h;cases h
 | false =>
  rw [hw,if_neg jD] at h;have hb:∀ c ∈ bs,c.toNat<128:=by
   intro c hc;unfold Ut at hw;rw [List.any_eq_false] at hw;have:=hw c hc;simp at this;omega
  have hp:∀ x ∈ (bs.take (Bg bs)).map Eg,0<=x/\x<128:=by
   intro x hx;obtain ⟨c,hc,rfl⟩:=List.mem_map.1 hx;have:=hb c (List.mem_of_mem_take hc);unfold Eg;omega
  obtain ⟨ds,h1,h2,h3,h4,h5⟩:=R8 _ _ _ _ _ _ h (Int.le_refl 128) (Int.le_refl 0) (λx hx=>(Ak x).2 (by have:=hp x hx;omega));have hR:Ae l=true:=by unfold Ae;rw [jar];exact h4
  have hpl:lt 128 l=(bs.take (Bg bs)).map Eg:=by rw [h5];exact Ats λx hx=>(hp x hx).2
  have hds:Fx l=ds:=Akx (λx hx=>(hp x hx).2) h1 h2.symm hpl (Ku l (Ek hR));have hlen:(lt 128 l).length=(bs.take (Bg bs)).length:=by rw [hpl,jai]
  have hpb:Bd l=bs.take (Bg bs):=by
   unfold Bd;rw [hpl,List.map_map];refine (List.map_congr_left λc _=>?_).trans (List.map_id _);show UInt8.ofNat ((c.toNat:Int)).toNat=c;rw [Int.toNat_natCast];exact UInt8.ofNat_toNat
  have hso:(start ((bs.take (Bg bs)).map Eg)).out.length=(lt 128 l).length:=by rw [hpl];rfl
  rw [hso] at h3;have htl:(Cv (Fx l) 72 (lt 128 l).length true).map M9=(bs.drop (Du bs)).map M9:=by
   rw [Ak8 h3,hds];unfold Cv;rw [List.map_map];exact List.map_congr_left λv hv=>X9 (Kv ds _ _ _ h1 v hv)
  have hdl:=Ox hR;have hll:ds.length<=(bs.drop (Du bs)).length:=by
   have e1:=congrArg List.length h3;rw [jai,jai] at e1;have:=Qn ds 72 (lt 128 l).length true;omega
  refine ⟨hR,?_,?_⟩
  ·unfold Bm;rw [List.map_append,htl,List.map_append,hpb];by_cases h0:Bg bs=0
   ·have:(lt 128 l).length=0:=by rw [hlen,h0];rfl
    unfold Jw Du;rw [if_pos this,if_pos h0,h0];rfl
   ·have h7:¬ (lt 128 l).length=0:=by
     have:=Jv bs;rw [hlen,jak];omega
    unfold Jw Du;rw [if_neg h7,if_neg h0,<- List.map_append,<- List.map_append,<- Al5 h0]
  ·have h8:=Abt bs;have h9:=Jv bs;rw [jaj] at hll;rw [jak] at hlen;rw [hds] at hdl;unfold Du at hll h8;split at hll<;>omega
end Puny
end
