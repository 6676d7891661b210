import Derived.Test.YthnhgmdlbfbhjaaGreatUtfA
set_option maxRecDepth 100000
set_option maxHeartbeats 8000000
namespace Go.Proofs.YthnhgmdlbfbhjaaGreat
open Tryz
section
namespace Puny
def thr (k b:Int):Int:=max 1 (min 26 (k - b))
theorem Ht (k b:Int):1<=thr k b/\thr k b<=26:=by unfold thr;omega
theorem Am2 (k b:Int):thr k b<=thr (k+36) b:=by unfold thr;omega
def Zo:Nat->Int->Int->Int->List Int
 | 0,_,_,_=>[]
 | f+1,n,k,b=>if n<thr k b then [n] else (thr k b+(n - thr k b) % (36 - thr k b))::Zo f ((n - thr k b) / (36 - thr k b)) (k+36) b
theorem less (n t:Int) (ht:1<=t) (ht':t<=26) (h:t<=n):0<=(n - t) / (36 - t)/\((n - t) / (36 - t)).toNat<n.toNat:=by
 have h0:0<=(n - t) / (36 - t):=Int.ediv_nonneg jO jO;refine ⟨h0,?_⟩;have h1:(n - t) / (36 - t)<=n - t:=Int.ediv_le_self _ jO;omega
theorem Xq:∀ (f g:Nat) (n k b:Int),0<=n->n.toNat<f->n.toNat<g->Zo f n k b=Zo g n k b
 | 0,_,_,_,_,_,h,_=>by omega
 | _,0,_,_,_,_,_,h=>by omega
 | f+1,g+1,n,k,b,hn,hf,hg=>by
  unfold Zo;have ht:=Ht k b;split
  ·rfl
  ·rename_i h
   obtain ⟨h0,h1⟩:=less n (thr k b) ht.1 ht.2 jO;rw [Xq f g _ (k+36) b h0 jO jO]
def digits (n k b:Int):List Int:=Zo (n.toNat+1) n k b
theorem E6 {n k b:Int} (h:n<thr k b):digits n k b=[n]:=by unfold digits Zo;rw [if_pos h]
theorem F0 {n k b:Int} (h:thr k b<=n):digits n k b=(thr k b+(n - thr k b) % (36 - thr k b))::digits ((n - thr k b) / (36 - thr k b)) (k+36) b:=by
 have ht:=Ht k b;obtain ⟨h0,h1⟩:=less n (thr k b) ht.1 ht.2 h;unfold digits;rw [Zo,if_neg jO];rw [Xq n.toNat (((n - thr k b) / (36 - thr k b)).toNat+1) _ (k+36) b h0 h1 jO]
def De:Int:=2147483647
def num (b:Int):List Int->Int->Int->Int->Nat->Option (Int × Nat)
 | [],_,_,_,_=>none
 | d::l,k,w,s,u=>if De<w\/De<s+d*w then none else if d<thr k b then some (s+d*w,u+1) else num b l (k+36) (w*(36 - thr k b)) (s+d*w) (u+1)
theorem parts (n t:Int) (ht:1<=t) (ht':t<=26):n=(t+(n - t) % (36 - t))+(36 - t)*((n - t) / (36 - t))/\t<=t+(n - t) % (36 - t)/\t+(n - t) % (36 - t)<36:=by
 have h1:=Int.emod_add_mul_ediv (n - t) (36 - t);have h2:=Int.emod_nonneg (n - t) (show 36 - t ≠ 0 by omega);have h3:=Int.emod_lt_of_pos (n - t) (show 0<36 - t by omega);omega
theorem Yh (w n d t q s:Int) (h:n=d+(36 - t)*q):s+n*w=(s+d*w)+q*(w*(36 - t)):=by
 subst h;rw [Int.add_mul,<- Int.add_assoc];congr 1;rw [Int.mul_comm (36 - t) q,Int.mul_assoc,Int.mul_comm (36 - t) w]
theorem Aan (w t N:Int) (hN:N<=126322567) (ht:2<=t) (ht':t<=26) (h:t*w<=N):w*(36 - t)<=De:=by
 unfold De;have hc:t=2\/t=3\/t=4\/t=5\/t=6\/t=7\/t=8\/t=9\/t=10\/t=11\/t=12\/t=13\/t=14\/t=15\/t=16\/t=17\/t=18\/t=19\/t=20\/t=21\/t=22\/t=23\/t=24\/t=25\/t=26:=jO
 rcases hc with rfl | rfl | rfl | rfl | rfl | rfl | rfl | rfl | rfl | rfl | rfl | rfl | rfl | rfl | rfl | rfl | rfl | rfl | rfl | rfl | rfl | rfl | rfl | rfl | rfl<;>omega
theorem Af1:∀ (j:Nat),(35:Int) ^ j<=126322567->(35:Int) ^ (j+1)<=De
 | 0,_=>by decide
 | 1,_=>by decide
 | 2,_=>by decide
 | 3,_=>by decide
 | 4,_=>by decide
 | 5,_=>by decide
 | j+6,h=>by
  exfalso;have h1:(1:Int)<=35 ^ j:=Int.pow_pos jD;have h2:(35:Int) ^ (j+6)=35 ^ j*1838265625:=by rw [Int.pow_add];rfl
  rw [h2] at h;have:(1838265625:Int)<=35 ^ j*1838265625:=by
   have:=Int.mul_le_mul_of_nonneg_right h1 (show (0:Int)<=1838265625 by decide);omega
  omega
theorem Oc (b N:Int) (hN:N<=126322567):∀ (f:Nat) (n k w s:Int) (u:Nat) (rest:List Int),n.toNat<f->0<=n->1<=w->0<=s->s+n*w<=N->w<=De->(thr k b=1->∃ j:Nat,w=35 ^ j) ->
  num b (digits n k b ++ rest) k w s u=some (s+n*w,u+(digits n k b).length)
 | 0,_,_,_,_,_,_,hf,_,_,_,_,_,_=>by omega
 | f+1,n,k,w,s,u,rest,hf,hn,hw,hs,hsum,hwl,hpow=>by
  have ht:=Ht k b;have hlim:(N:Int)<=De:=by unfold De;omega
  by_cases h:n<thr k b
  ·rw [E6 h];simp only [jah,List.nil_append,num];rw [if_neg jO,if_pos h];rfl
  ·have h':thr k b<=n:=jO
   obtain ⟨q0,q1⟩:=less n (thr k b) ht.1 ht.2 h';obtain ⟨p1,p2,p3⟩:=parts n (thr k b) ht.1 ht.2;rw [F0 h'];generalize hd:thr k b+(n - thr k b) % (36 - thr k b)=d at p1 p2 p3 ⊢;generalize hq:(n - thr k b) / (36 - thr k b)=q at p1 q0 q1 ⊢;have e:=Yh w n d (thr k b) q s p1;have hw':1<=w*(36 - thr k b):=Int.mul_pos jO jO;have hdw:0<=d*w:=Int.mul_nonneg jO jO;have hqw:0<=q*(w*(36 - thr k b)):=Int.mul_nonneg q0 jO;have htw:thr k b*w<=N:=by
    have:=Int.mul_le_mul_of_nonneg_right h' (show 0<=w by omega);omega
   have hwn:w*(36 - thr k b)<=De:=by
    by_cases ht1:thr k b=1
    ·obtain ⟨j,rfl⟩:=hpow ht1;rw [ht1] at htw ⊢;have:=Af1 j jO;rw [Int.pow_succ] at this;exact this
    ·exact Aan w (thr k b) N hN jO ht.2 htw
   have ih:=Oc b N hN f q (k+36) (w*(36 - thr k b)) (s+d*w) (u+1) rest jO q0 hw' jO jO hwn (λh1=>by
    have:=Am2 k b;have ht1:thr k b=1:=jO
    obtain ⟨j,rfl⟩:=hpow ht1;exact ⟨j+1,by rw [ht1,Int.pow_succ];rfl⟩)
   simp only [jah,num];rw [if_neg jO,if_neg jO,ih,e];simp only [jac,Option.some.injEq,Prod.mk.injEq,true_and];omega
theorem Vn (b:Int):∀ (l:List Int) (k w s:Int) (u:Nat) (x:Int) (v:Nat),(∀ d ∈ l,0<=d/\d<36)->num b l k w s u=some (x,v) ->
  ∃ (n:Int) (m:Nat),0<=n/\x=s+n*w/\v=u+m/\m<=l.length/\1<=m/\l.take m=digits n k b
 | [],_,_,_,_,_,_,_,h=>by cases h
 | d::l,k,w,s,u,x,v,hl,h=>by
  have ht:=Ht k b;have hd:=hl d jS;unfold num at h;split at h
  ·cases h
  ·split at h
   ·rename_i hlt
    simp only [Option.some.injEq,Prod.mk.injEq] at h;obtain ⟨rfl,rfl⟩:=h;exact ⟨d,1,hd.1,rfl,rfl,by simp,jaa _,by rw [E6 hlt];rfl⟩
   ·rename_i hge
    obtain ⟨q,m,hq,hx,hv,hm,hm1,htk⟩:=Vn b l _ _ _ _ _ _ (λy hy=>hl y (by simp [hy])) h;have hpos:0<36 - thr k b:=jO
    have hqt:0<=(36 - thr k b)*q:=Int.mul_nonneg jO hq;refine ⟨d+(36 - thr k b)*q,m+1,by omega,?_,by omega,by simp only [jac];omega,by omega,?_⟩
    ·rw [hx];exact (Yh w (d+(36 - thr k b)*q) d (thr k b) q s rfl).symm
    ·have e1:d+(36 - thr k b)*q - thr k b=(d - thr k b)+(36 - thr k b)*q:=jO
     have e2:(d+(36 - thr k b)*q - thr k b) % (36 - thr k b)=d - thr k b:=by
      rw [e1,Int.add_mul_emod_self_left];exact Int.emod_eq_of_lt jO jO
     have e3:(d+(36 - thr k b)*q - thr k b) / (36 - thr k b)=q:=by
      rw [e1,Int.add_mul_ediv_left _ _ jO,Int.ediv_eq_zero_of_lt jO jO];omega
     rw [F0 jO,e2,e3,List.take_succ_cons,htk];congr 1;omega
end Puny
end
section
namespace Puny
theorem Q6 (n k b:Int):digits n k b ≠ []:=by
 by_cases h:n<thr k b
 · rw [E6 h];simp
 · rw [F0 jO];simp
def emit (ad:Int->Int->Bool->Int):List Int->Int->Int->Bool->List Int
 | [],_,_,_=>[]
 | d::ds,b,c,f=>digits d 36 b ++ emit ad ds (ad d (c+1) f) (c+1) false
def parse (ad:Int->Int->Bool->Int):Nat->List Int->Int->Int->Bool->Option (List Int)
 | _,[],_,_,_=>some []
 | 0,_::_,_,_,_=>none
 | k+1,x::l,b,c,f=>match num b (x::l) 36 1 0 0 with
  | none=>none
  | some (d,m)=>(parse ad k ((x::l).drop m) (ad d (c+1) f) (c+1) false).map (d::·)
theorem Ae6 (ad:Int->Int->Bool->Int) (N:Int) (hN:N<=126322567):∀ (ds:List Int) (k:Nat) (b c:Int) (f:Bool),ds.length<=k->(∀ d ∈ ds,0<=d/\d<=N)->parse ad k (emit ad ds b c f) b c f=some ds
 | [],k,_,_,_,_,_=>by cases k<;>rfl
 | d::ds,0,_,_,_,h,_=>by simp at h
 | d::ds,k+1,b,c,f,h,hd=>by
  have h0:=hd d jS;have ih:=Ae6 ad N hN ds k (ad d (c+1) f) (c+1) false (by simpa using h) (λx hx=>hd x (by simp [hx]));have hnum:=Oc b N hN (d.toNat+1) d 36 1 0 0 (emit ad ds (ad d (c+1) f) (c+1) false) jO h0.1 jO jO jO jD (λ_=>⟨0,rfl⟩);unfold emit;obtain ⟨y,ys,hy⟩:∃ y ys,digits d 36 b=y::ys:=by
   cases e:digits d 36 b with
   | nil=>exact absurd e (Q6 d 36 b)
   | cons y ys=>exact ⟨y,ys,rfl⟩
  have hdrop:(digits d 36 b ++ emit ad ds (ad d (c+1) f) (c+1) false).drop (0+(digits d 36 b).length)=emit ad ds (ad d (c+1) f) (c+1) false:=by simp
  rw [hy,jah] at hnum hdrop ⊢;unfold parse;rw [hnum];simp only;rw [hdrop,show (0:Int)+d*1=d by omega,ih];rfl
theorem Ad9 (ad:Int->Int->Bool->Int):∀ (k:Nat) (l:List Int) (b c:Int) (f:Bool) (ds:List Int),(∀ x ∈ l,0<=x/\x<36)->parse ad k l b c f=some ds->l=emit ad ds b c f/\∀ d ∈ ds,0<=d
 | _,[],_,_,_,ds,_,h=>by
  have:ds=[]:=by unfold parse at h;exact (Option.some.inj h).symm
  subst this;exact ⟨rfl,λd hd=>by cases hd⟩
 | 0,_::_,_,_,_,_,_,h=>by unfold parse at h;cases h
 | k+1,x::l,b,c,f,ds,hl,h=>by
  unfold parse at h;cases hn:num b (x::l) 36 1 0 0 with
  | none=>rw [hn] at h;cases h
  | some p =>
   obtain ⟨d,m⟩:=p;rw [hn] at h;simp only at h;obtain ⟨n,m',h0,hx,hv,-,-,ht⟩:=Vn b (x::l) 36 1 0 0 d m hl hn;have e1:d=n:=jO
   have e2:m=m':=jO
   subst e1 e2;cases hp:parse ad k ((x::l).drop m) (ad d (c+1) f) (c+1) false with
   | none=>rw [hp] at h;cases h
   | some es =>
    rw [hp] at h;have hds:ds=d::es:=(Option.some.inj h).symm;obtain ⟨g1,g2⟩:=Ad9 ad k _ _ _ _ es (λy hy=>hl y (List.mem_of_mem_drop hy)) hp;subst hds;refine ⟨?_,λy hy=>?_⟩
    ·unfold emit;rw [<- ht,<- g1,List.take_append_drop]
    ·rcases jal.1 hy with rfl | hy
     · exact h0
     · exact g2 y hy
end Puny
end
section
namespace Puny
structure Rd where
 out:List Int
 n:Int
 i:Int
def Bt (r:Rd) (d:Int):Rd :=
 ⟨r.out.insertIdx ((r.i+d) % (r.out.length+1)).toNat (r.n+(r.i+d) / (r.out.length+1)),r.n+(r.i+d) / (r.out.length+1),(r.i+d) % (r.out.length+1)+1⟩
def F6 (r:Rd) (ds:List Int):Rd:=ds.foldl Bt r
def row (m:Int):List Int->Int->List Int × Int
 | [],e=>([],e)
 | x::t,e=>if x<m then row m t (e+1) else if x=m then (e::(row m t 0).1,(row m t 0).2) else row m t e
def spot (r:Rd):Int:=r.n*(r.out.length+1)+r.i
def le (m:Int) (l:List Int):List Int:=l.filter λx=>decide (x<=m)
def lt (m:Int) (l:List Int):List Int:=l.filter λx=>decide (x<m)
theorem Px (m:Int) (p:List Int) (x:Int):le m (p ++ [x])=if x<=m then le m p ++ [x] else le m p:=by
 unfold le;rw [List.filter_append];by_cases h:x<=m<;>simp [h]
theorem Gd (m:Int) (x:Int) (t:List Int):lt m (x::t)=if x<m then x::lt m t else lt m t:=by
 unfold lt;by_cases h:x<m<;>simp [h]
theorem Ar8 (m:Int) (x:Int) (t:List Int):le m (x::t)=if x<=m then x::le m t else le m t:=by
 unfold le;by_cases h:x<=m<;>simp [h]
theorem Ah6 (a b:List Int) (x:Int):(a ++ b).insertIdx a.length x=a ++ x::b:=by
 induction a with
 | nil=>simp
 | cons y a ih=>simpa using ih
theorem Amn (r:Rd) (a b:List Int) (m d:Int) (ho:r.out=a ++ b) (h:spot r+d=m*(r.out.length+1)+a.length):Bt r d=⟨a ++ m::b,m,a.length+1⟩:=by
 have hlen:r.out.length=a.length+b.length:=by rw [ho,jab]
 have hc:(0:Int)<(r.out.length:Int)+1:=jO
 have e:r.i+d=(a.length:Int)+((r.out.length:Int)+1)*(m - r.n):=by
  unfold spot at h;rw [Int.mul_sub,Int.mul_comm _ m,Int.mul_comm _ r.n];omega
 have e1:(r.i+d) % ((r.out.length:Int)+1)=a.length:=by
  rw [e,Int.add_mul_emod_self_left];exact Int.emod_eq_of_lt jO jO
 have e2:(r.i+d) / ((r.out.length:Int)+1)=m - r.n:=by
  rw [e,Int.add_mul_ediv_left _ _ jO,Int.ediv_eq_zero_of_lt jO jO];omega
 unfold Bt;rw [e1,e2,Int.toNat_natCast,show r.n+(m - r.n)=m by omega,ho,Ah6]
theorem Aad (m:Int):∀ (t p:List Int) (e:Int) (r:Rd),r.out=le m p ++ lt m t->spot r+e=m*(r.out.length+1)+(le m p).length ->
  (F6 r (row m t e).1).out=le m (p ++ t)/\spot (F6 r (row m t e).1)+(row m t e).2=m*((le m (p ++ t)).length+1)+(le m (p ++ t)).length
 | [],p,e,r,ho,hs=>by
  have ho':r.out=le m p:=by rw [ho];simp [lt]
  rw [List.append_nil];show r.out=le m p/\spot r+e=_;rw [hs,ho'];exact ⟨rfl,rfl⟩
 | x::t,p,e,r,ho,hs=>by
  have hap:p ++ x::t=(p ++ [x]) ++ t:=by simp
  rw [hap];unfold row;by_cases h1:x<m
  ·rw [if_pos h1];have hle:le m (p ++ [x])=le m p ++ [x]:=by rw [Px,if_pos jO]
   refine Aad m t (p ++ [x]) (e+1) r ?_ ?_
   ·rw [ho,Gd,if_pos h1,hle];simp
   ·rw [hle,jab,<- Int.add_assoc,hs];simp;omega
  ·rw [if_neg h1];by_cases h2:x=m
   ·subst h2;rw [if_pos rfl];have hle:le x (p ++ [x])=le x p ++ [x]:=by rw [Px,if_pos jO]
    have ho2:r.out=le x p ++ lt x t:=by rw [ho,Gd,if_neg h1]
    have hst:=Amn r (le x p) (lt x t) x e ho2 hs;show (F6 (Bt r e) (row x t 0).1).out=_/\spot (F6 (Bt r e) (row x t 0).1)+(row x t 0).2=_;rw [hst];refine Aad x t (p ++ [x]) 0 _ ?_ ?_
    ·rw [hle];simp
    ·unfold spot;simp only [hle,jab,jac,List.length_nil];omega
   ·rw [if_neg h2];have hle:le m (p ++ [x])=le m p:=by rw [Px,if_neg jO]
    refine Aad m t (p ++ [x]) e r ?_ ?_
    ·rw [ho,Gd,if_neg h1,hle]
    ·rw [hle,hs]
def rows (l:List Int):List Int->Int->Int->List Int
 | [],_,_=>[]
 | m::ms,n,e=>(row m l (e+(m - n)*((lt n l).length+1))).1 ++ rows l ms (m+1) ((row m l (e+(m - n)*((lt n l).length+1))).2+1)
def Ty (l:List Int):List Int->Int->Prop
 | [],n=>∀ x ∈ l,x<n
 | m::ms,n=>n<=m/\(∀ x ∈ l,x<n\/m<=x)/\Ty l ms (m+1)
theorem lt_next (l:List Int) (m:Int):lt (m+1) l=le m l:=by
 unfold lt le;congr 1
 funext x
 rw [Bool.eq_iff_iff,decide_eq_true_eq,decide_eq_true_eq];omega
theorem Z1 {l:List Int} {n m:Int} (hnm:n<=m) (h:∀ x ∈ l,x<n\/m<=x):lt m l=lt n l:=by
 unfold lt;apply List.filter_congr;intro x hx;rw [Bool.eq_iff_iff,decide_eq_true_eq,decide_eq_true_eq];have:=h x hx;omega
theorem Zy {l:List Int} {n:Int} (h:∀ x ∈ l,x<n):lt n l=l:=by
 unfold lt;rw [List.filter_eq_self];intro x hx;simpa using h x hx
theorem Qe (l:List Int):∀ (ms:List Int) (n e:Int) (r:Rd),Ty l ms n->r.out=lt n l->spot r+e=n*(r.out.length+1)->(F6 r (rows l ms n e)).out=l
 | [],n,e,r,hr,ho,_=>by
  show r.out=l;rw [ho,Zy hr]
 | m::ms,n,e,r,hr,ho,hs=>by
  obtain ⟨h1,h2,h3⟩:=hr;have hlt:=Z1 h1 h2;unfold rows;rw [F6,List.foldl_append];have key:=Aad m l [] (e+(m - n)*((lt n l).length+1)) r (by rw [ho,hlt];simp [le]) (by
   rw [<- Int.add_assoc,hs,ho,Int.sub_mul];simp [le];omega)
  rw [List.nil_append] at key;refine Qe l ms (m+1) _ _ h3 (by rw [lt_next];exact key.1) ?_;have hk:=key.2;have hl:=congrArg List.length key.1;show spot (F6 r _)+(_+1)=(m+1)*((F6 r _).out.length+1);rw [hl,<- Int.add_assoc,hk,Int.add_mul];omega
theorem Nc:∀ (l:List Int) (k:Nat) (x:Int),k<=l.length->l.insertIdx k x=l.take k ++ x::l.drop k
 | _,0,_,_=>by simp
 | [],k+1,_,h=>by simp at h
 | y::l,k+1,x,h=>by
  have:=Nc l k x (by simpa using h);simpa using this
def R7 (r:Rd):Prop:=∃ A B:List Int,r.out=A ++ B/\r.i=A.length/\(∀ x ∈ A,x<=r.n)/\∀ x ∈ B,x<r.n
theorem Jh {r:Rd} {d:Int} (h:R7 r) (hd:0<=d):∃ A B:List Int,(Bt r d).out=A ++ (Bt r d).n::B/\r.out=A ++ B/\(Bt r d).i=A.length+1/\(∀ x ∈ A,x<=(Bt r d).n)/\(∀ x ∈ B,x<(Bt r d).n) /\
  (Bt r d).n*(r.out.length+1)+A.length=spot r+d:=by
 obtain ⟨A,B,ho,hi,hA,hB⟩:=h;have hlen:r.out.length=A.length+B.length:=by rw [ho,jab]
 have hc:(0:Int)<(r.out.length:Int)+1:=jO
 have hm0:=Int.emod_nonneg (r.i+d) (show (r.out.length:Int)+1 ≠ 0 by omega);have hm1:=Int.emod_lt_of_pos (r.i+d) hc;have hdm:=Int.emod_add_mul_ediv (r.i+d) ((r.out.length:Int)+1);have hq0:0<=(r.i+d) / ((r.out.length:Int)+1):=Int.ediv_nonneg jO jO;generalize hk:((r.i+d) % ((r.out.length:Int)+1))=k at hm0 hm1 hdm;generalize hq:((r.i+d) / ((r.out.length:Int)+1))=q at hq0 hdm;have hall:∀ x ∈ r.out,x<=r.n:=by
  intro x hx;rw [ho,jap] at hx;rcases hx with hx | hx
  ·exact hA x hx
  ·have:=hB x hx;omega
 have hst:Bt r d=⟨r.out.take k.toNat ++ (r.n+q)::r.out.drop k.toNat,r.n+q,k+1⟩:=by
  unfold Bt;rw [hk,hq,Nc _ _ _ jO]
 rw [hst];refine ⟨r.out.take k.toNat,r.out.drop k.toNat,rfl,(List.take_append_drop _ _).symm,?_,λx hx=>?_,λx hx=>?_,?_⟩
 ·simp only [jak];omega
 ·have:=hall x (List.mem_of_mem_take hx);simp only;omega
 ·simp only;by_cases hq1:1<=q
  ·have:=hall x (List.mem_of_mem_drop hx);omega
  ·have hqz:q=0:=jO
   subst hqz;rw [Int.mul_zero] at hdm;have hx':x ∈ B:=by
    rw [ho,List.drop_append] at hx;rw [List.drop_of_length_le jO,List.nil_append] at hx;exact List.mem_of_mem_drop hx
   have:=hB x hx';omega
 ·simp only [jak,spot];rw [Int.add_mul,show ((min k.toNat r.out.length:Nat):Int)=k by omega];have:((r.out.length:Int)+1)*q=q*((r.out.length:Int)+1):=Int.mul_comm _ _;omega
theorem X9 {r:Rd} {d:Int} (h:R7 r) (hd:0<=d):R7 (Bt r d):=by
 obtain ⟨A,B,h1,-,h3,h4,h5,-⟩:=Jh h hd;refine ⟨A ++ [(Bt r d).n],B,by rw [h1];simp,by rw [h3];simp,λx hx=>?_,h5⟩;rw [jap,List.mem_singleton] at hx;rcases hx with hx | rfl
 · exact h4 x hx
 · exact Int.le_refl _
theorem Vd:∀ {ds:List Int} {r:Rd},R7 r->(∀ d ∈ ds,0<=d)->R7 (F6 r ds)
 | [],_,h,_=>h
 | d::ds,r,h,hd=>Vd (ds:=ds) (X9 h (hd d jS)) λx hx=>hd x (by simp [hx])
theorem Qb:∀ (ds:List Int) (r:Rd),R7 r->(∀ d ∈ ds,0<=d)->(F6 r ds).out.length=r.out.length+ds.length
 | [],_,_,_=>rfl
 | d::ds,r,h,hd=>by
  have h0:=hd d jS;obtain ⟨A,B,h1,h2,-⟩:=Jh h h0;have:=Qb ds (Bt r d) (X9 h h0) λx hx=>hd x (by simp [hx]);show (F6 (Bt r d) ds).out.length=_;rw [this,h1,h2];simp only [jab,jac];omega
theorem Alw {A B A' B':List Int} {n n':Int} (h:A ++ n::B=A' ++ n'::B') (hA:∀ x ∈ A,x<=n) (hB:∀ x ∈ B,x<n) (hA':∀ x ∈ A',x<=n') (hB':∀ x ∈ B',x<n'):A=A'/\n=n'/\B=B':=by
 have hn:n=n':=by
  have h1:n ∈ A' ++ n'::B':=by rw [<- h];simp
  have h2:n' ∈ A ++ n::B:=by rw [h];simp
  rw [jap,jal] at h1 h2;have g1:n<=n':=by
   rcases h1 with h1 | h1 | h1
   · exact hA' n h1
   · omega
   · have:=hB' n h1;omega
  have g2:n'<=n:=by
   rcases h2 with h2 | h2 | h2
   · exact hA n' h2
   · omega
   · have:=hB n' h2;omega
  omega
 subst hn;rcases List.append_eq_append_iff.1 h with ⟨C,rfl,hC⟩ | ⟨C,rfl,hC⟩
 ·cases C with
  | nil=>simp at hC;simp [hC]
  | cons y C =>
   simp only [jah,List.cons.injEq] at hC;exfalso;have:=hB n (by rw [hC.2];simp);omega
 ·cases C with
  | nil=>simp at hC;simp [hC]
  | cons y C =>
   simp only [jah,List.cons.injEq] at hC;exfalso;have:=hB' n (by rw [hC.2];simp);omega
theorem Acq {r:Rd} (hr:R7 r):∀ (k:Nat) (ds es:List Int),ds.length=k->es.length=k->(∀ d ∈ ds,0<=d)->(∀ d ∈ es,0<=d)->(F6 r ds).out=(F6 r es).out->ds=es
 | 0,ds,es,h1,h2,_,_,_=>by rw [List.eq_nil_of_length_eq_zero h1,List.eq_nil_of_length_eq_zero h2]
 | k+1,ds,es,h1,h2,hd,he,h=>by
  rcases List.eq_nil_or_concat ds with rfl | ⟨ds,d,rfl⟩
  ·simp at h1
  rcases List.eq_nil_or_concat es with rfl | ⟨es,e,rfl⟩
  ·simp at h2
  simp only [List.concat_eq_append,jab,jac,List.length_nil,jap,List.mem_singleton] at h1 h2 hd he h ⊢;have kd:=Vd (r:=r) (ds:=ds) hr λx hx=>hd x (.inl hx);have ke:=Vd (r:=r) (ds:=es) hr λx hx=>he x (.inl hx);have ed:F6 r (ds ++ [d])=Bt (F6 r ds) d:=by unfold F6;rw [List.foldl_append];rfl
  have ee:F6 r (es ++ [e])=Bt (F6 r es) e:=by unfold F6;rw [List.foldl_append];rfl
  rw [ed,ee] at h;obtain ⟨A,B,a1,a2,-,a4,a5,a6⟩:=Jh kd (hd d (.inr rfl));obtain ⟨A',B',b1,b2,-,b4,b5,b6⟩:=Jh ke (he e (.inr rfl));rw [a1,b1] at h;obtain ⟨rfl,hn,rfl⟩:=Alw h a4 a5 b4 b5;have hout:(F6 r ds).out=(F6 r es).out:=by rw [a2,b2]
  obtain rfl:=Acq hr k ds es jO jO (λx hx=>hd x (.inl hx)) (λx hx=>he x (.inl hx)) hout;have hde:d=e:=by
   rw [<- hn] at b6;omega
  rw [hde]
theorem Lc (m:Int):∀ (t:List Int) (e:Int),0<=e->(∀ d ∈ (row m t e).1,0<=d)/\0<=(row m t e).2
 | [],_,h=>⟨(λd hd=>by cases hd),h⟩
 | x::t,e,h=>by
  unfold row;split
  ·exact Lc m t (e+1) jO
  ·split
   ·obtain ⟨h1,h2⟩:=Lc m t 0 jO;refine ⟨λd hd=>?_,h2⟩;rcases jal.1 hd with rfl | hd
    · exact h
    · exact h1 d hd
   ·exact Lc m t e h
theorem Ml (l:List Int):∀ (ms:List Int) (n e:Int),Ty l ms n->0<=e->∀ d ∈ rows l ms n e,0<=d
 | [],_,_,_,_=>λd hd=>by cases hd
 | m::ms,n,e,hr,he=>by
  obtain ⟨h1,-,h3⟩:=hr;have h0:0<=e+(m - n)*((lt n l).length+1):=by
   have:=Int.mul_nonneg (show 0<=m - n by omega) (show (0:Int)<=((lt n l).length:Int)+1 by omega);omega
  obtain ⟨g1,g2⟩:=Lc m l _ h0;intro d hd;unfold rows at hd;rw [jap] at hd;rcases hd with hd | hd
  ·exact g1 d hd
  ·exact Ml l ms (m+1) _ h3 jO d hd
def start (p:List Int):Rd:=⟨p,128,0⟩
theorem Wh {p:List Int} (h:∀ x ∈ p,x<128):R7 (start p):=⟨[],p,rfl,rfl,(λx hx=>by cases hx),h⟩
theorem Ws (l ms:List Int) (h:Ty l ms 128):(F6 (start (lt 128 l)) (rows l ms 128 0)).out=l :=
 Qe l ms 128 0 _ h rfl (by simp [spot,start])
theorem Afd {p ds l ms:List Int} (hp:∀ x ∈ p,x<128) (hd:∀ d ∈ ds,0<=d) (hl:(F6 (start p) ds).out=l) (hpl:lt 128 l=p) (h:Ty l ms 128):rows l ms 128 0=ds:=by
 have hk:=Wh hp;have hw:=Ws l ms h;rw [hpl] at hw;have hn:=Ml l ms 128 0 h jO;have l1:=Qb (rows l ms 128 0) (start p) hk hn;have l2:=Qb ds (start p) hk hd;rw [hw] at l1;rw [hl] at l2;exact Acq hk ds.length _ _ jO rfl hn hd (by rw [hw,hl])
end Puny
end
section
namespace Puny
def least (n:Int):List Int->Int->Int
 | [],m=>m
 | x::t,m=>least n t (if n<=x/\x<m then x else m)
theorem least_le (n:Int):∀ (l:List Int) (m:Int),least n l m<=m
 | [],m=>Int.le_refl _
 | x::t,m=>by
  unfold least;have:=least_le n t (if n<=x/\x<m then x else m);split at this
  · rename_i h;rw [if_pos h];omega
  · rename_i h;rw [if_neg h];exact this
theorem Rk (n:Int):∀ (l:List Int) (m:Int),∀ x ∈ l,n<=x->least n l m<=x
 | [],_,x,hx,_=>by cases hx
 | y::t,m,x,hx,hn=>by
  unfold least;rcases jal.1 hx with rfl | hx
  ·have:=least_le n t (if n<=x/\x<m then x else m);by_cases h:n<=x/\x<m
   · rw [if_pos h] at this ⊢;exact this
   · rw [if_neg h] at this ⊢;omega
  ·exact Rk n t _ x hx hn
theorem Vh (n:Int):∀ (l:List Int) (m:Int),least n l m=m\/(least n l m ∈ l/\n<=least n l m)
 | [],m=>.inl rfl
 | y::t,m=>by
  unfold least;by_cases h:n<=y/\y<m
  ·rw [if_pos h];rcases Vh n t y with e | ⟨e1,e2⟩
   · exact .inr ⟨by rw [e];simp,by rw [e];exact h.1⟩
   · exact .inr ⟨by simp [e1],e2⟩
  ·rw [if_neg h];rcases Vh n t m with e | ⟨e1,e2⟩
   · exact .inl e
   · exact .inr ⟨by simp [e1],e2⟩
theorem Yd {n m:Int} (h:n<=m):∀ (l:List Int),(lt n l).length<=(lt m l).length
 | []=>jaa _
 | x::t=>by
  have:=Yd h t;rw [Gd,Gd];by_cases h1:x<n
  ·rw [if_pos h1,if_pos jO];simp only [jac];omega
  ·rw [if_neg h1];split
   · simp only [jac];omega
   · exact this
theorem Jd {n m:Int} (h:n<=m):∀ (l:List Int),m ∈ l->(lt n l).length<(lt (m+1) l).length
 | [],hm=>by cases hm
 | x::t,hm=>by
  rw [Gd,Gd];rcases jal.1 hm with rfl | hm
  ·rw [if_neg jO,if_pos jO,jac];have:=Yd (show n<=m+1 by omega) t;omega
  ·have:=Jd h t hm;by_cases h1:x<n
   ·rw [if_pos h1,if_pos jO];simp only [jac];omega
   ·rw [if_neg h1];split
    · simp only [jac];omega
    · exact this
theorem Oa (n:Int) (l:List Int):(lt n l).length<=l.length:=by unfold lt;exact List.length_filter_le _ _
theorem Zz {n:Int}:∀ {l:List Int},(lt n l).length=l.length->∀ x ∈ l,x<n
 | [],_,x,hx=>by cases hx
 | y::t,h,x,hx=>by
  rw [Gd] at h;have h0:=Oa n t;by_cases h1:y<n
  ·rw [if_pos h1] at h;simp only [jac] at h;rcases jal.1 hx with rfl | hx
   · exact h1
   · exact Zz jO x hx
  ·rw [if_neg h1,jac] at h;omega
theorem Agw {n:Int}:∀ {l:List Int},(lt n l).length ≠ l.length->∃ x ∈ l,n<=x
 | [],h=>absurd rfl h
 | y::t,h=>by
  rw [Gd] at h;by_cases h1:y<n
  ·rw [if_pos h1] at h;simp only [jac] at h;obtain ⟨x,hx,hn⟩:=Agw (l:=t) (n:=n) jO;exact ⟨x,by simp [hx],hn⟩
  ·exact ⟨y,by simp,by omega⟩
def msF:Nat->List Int->Int->List Int
 | 0,_,_=>[]
 | f+1,l,n=>if (lt n l).length=l.length then [] else least n l 1114112::msF f l (least n l 1114112+1)
theorem Vi {l:List Int} {n:Int} (hl:∀ x ∈ l,x<1114112) (h:(lt n l).length ≠ l.length):least n l 1114112 ∈ l/\n<=least n l 1114112/\∀ x ∈ l,x<n\/least n l 1114112<=x:=by
 obtain ⟨x,hx,hn⟩:=Agw h;have h1:=Rk n l 1114112 x hx hn;rcases Vh n l 1114112 with e | ⟨e1,e2⟩
 ·have:=hl x hx;omega
 ·refine ⟨e1,e2,λy hy=>?_⟩;by_cases hy1:y<n
  · exact .inl hy1
  · exact .inr (Rk n l 1114112 y hy jO)
theorem Yg:∀ (f:Nat) (l:List Int) (n:Int),(∀ x ∈ l,x<1114112)->l.length - (lt n l).length<=f->Ty l (msF f l n) n
 | 0,l,n,hl,hf=>by
  have:=Oa n l;exact Zz jO
 | f+1,l,n,hl,hf=>by
  unfold msF;by_cases h:(lt n l).length=l.length
  ·rw [if_pos h];exact Zz h
  ·rw [if_neg h];obtain ⟨h1,h2,h3⟩:=Vi hl h;have:=Jd h2 l h1;exact ⟨h2,h3,Yg f l _ hl jO⟩
def Ey (l:List Int):List Int:=rows l (msF l.length l 128) 128 0
theorem Kh (l:List Int) (hl:∀ x ∈ l,x<1114112):Ty l (msF l.length l 128) 128:=Yg _ _ _ hl jO
theorem Pl (ad:Int->Int->Bool->Int) (d:Int) (ds:List Int) (b c:Int) (f:Bool):emit ad (d::ds) b c f=digits d 36 b ++ emit ad ds (ad d (c+1) f) (c+1) false:=rfl
def El (l ms:List Int) (m:Int) (t:List Int) (e:Int):List Int:=(row m t e).1 ++ rows l ms (m+1) ((row m t e).2+1)
theorem Vz (l ms:List Int) (m n e:Int):rows l (m::ms) n e=El l ms m l (e+(m - n)*((lt n l).length+1)):=rfl
theorem Ym {l ms:List Int} {m x:Int} {t:List Int} {e:Int} (h:x<m):El l ms m (x::t) e=El l ms m t (e+1):=by unfold El;rw [row,if_pos h]
theorem Yo {l ms:List Int} {m:Int} {t:List Int} {e:Int}:El l ms m (m::t) e=e::El l ms m t 0:=by
 unfold El;rw [row,if_neg jO,if_pos rfl];rfl
theorem Yn {l ms:List Int} {m x:Int} {t:List Int} {e:Int} (h:m<x):El l ms m (x::t) e=El l ms m t e:=by unfold El;rw [row,if_neg jO,if_neg jO]
theorem Acu (l ms:List Int) (m e:Int):El l ms m [] e=rows l ms (m+1) (e+1):=rfl
end Puny
end
section
open Go.RowKit
namespace Puny
def Lx (n:Int):Int:=if n<26 then 97+n else 22+n
def valOf (n:Int):Option Int:=if 97<=n/\n<=122 then some (n - 97) else if 65<=n/\n<=90 then some (n - 65) else if 48<=n/\n<=57 then some (n - 48+26) else none
def Gm:Nat->Int->Int->Int
 | 0,d,k=>k+36*d / (d+38)
 | f+1,d,k=>if 455<d then Gm f (d / 35) (k+36) else k+36*d / (d+38)
theorem R8:∀ (f g:Nat) (d k:Int),0<=d->d.toNat<=f->d.toNat<=g->Gm f d k=Gm g d k
 | 0,0,_,_,_,_,_=>rfl
 | 0,g+1,d,k,h0,hf,_=>by unfold Gm;rw [if_neg jO]
 | f+1,0,d,k,h0,_,hg=>by unfold Gm;rw [if_neg jO]
 | f+1,g+1,d,k,h0,hf,hg=>by
  unfold Gm;split
  · exact R8 f g _ _ jO jO jO
  · rfl
def Lo (d k:Int):Int:=Gm d.toNat d k
theorem Xk {d k:Int} (h:455<d):Lo d k=Lo (d / 35) (k+36):=by
 unfold Lo;obtain ⟨f,hf⟩:∃ f,d.toNat=f+1:=⟨d.toNat - 1,by omega⟩
 rw [hf,Gm,if_pos h];exact R8 _ _ _ _ jO jO jO
theorem Xj {d k:Int} (h:¬ 455<d):Lo d k=k+36*d / (d+38):=by
 unfold Lo;cases d.toNat with
 | zero=>rfl
 | succ f=>rw [Gm,if_neg h]
def adapt (delta count:Int) (first:Bool):Int:=Lo ((if first then delta / 700 else delta / 2)+(if first then delta / 700 else delta / 2) / count) 0
end Puny
theorem Uo (n:Int) (w:World) (h:0<=n/\n<=35):Calls prog 118 #[.int .i64 n] w λe w'=>e=.returned (.tuple #[.int .u8 (Puny.Lx n),.bool true])/\w=w':=by
 have cs:n=0\/n=1\/n=2\/n=3\/n=4\/n=5\/n=6\/n=7\/n=8\/n=9\/n=10\/n=11\/n=12\/n=13\/n=14\/n=15\/n=16\/n=17\/n=18\/n=19\/n=20\/n=21\/n=22\/n=23\/n=24\/n=25\/n=26\/n=27\/n=28\/n=29\/n=30\/n=31\/n=32\/n=33\/n=34\/n=35:=jO
 rcases cs with rfl | rfl | rfl | rfl | rfl | rfl | rfl | rfl | rfl | rfl | rfl | rfl | rfl | rfl | rfl | rfl | rfl | rfl | rfl | rfl | rfl | rfl | rfl | rfl | rfl | rfl | rfl | rfl | rfl | rfl | rfl | rfl | rfl | rfl | rfl | rfl
 all_goals
  clear h;go_enter func118,ntmps118;go_wp2;go_ret2;exact ⟨rfl,rfl⟩
theorem Afz (n:Int) (w:World) (h:0<=n/\n<=255):Calls prog 119 #[.int .u8 n] w λe w'=>e=.returned (.tuple #[.int .i64 ((Puny.valOf n).getD 0),.bool (Puny.valOf n).isSome])/\w=w':=by
 obtain ⟨h0,h1⟩:=h;go_enter func119,ntmps119;go_wp2
 all_goals
  go_ret2;refine ⟨?_,rfl⟩;unfold Puny.valOf
  first
   | (rw [if_pos jO];rfl)
   | (rw [if_neg jO,if_pos jO];rfl)
   | (rw [if_neg jO,if_neg jO,if_pos jO];rfl)
   | (rw [if_neg jO,if_neg jO,if_neg jO];rfl)
theorem Ac8 (k b:Int) (w:World) (h:-1000000000000<=k/\k<=1000000000000/\-1000000000000<=b/\b<=1000000000000):Calls prog 117 #[.int .i64 k,.int .i64 b] w λe w'=>e=.returned (.int .i64 (Puny.thr k b))/\w=w':=by
 obtain ⟨h0,h1,h2,h3⟩:=h;go_enter func117,ntmps117;go_wp2
 all_goals
  go_ret;refine ⟨?_,rfl⟩;unfold Puny.thr
  first
   | (rw [show max 1 (min 26 (k - b))=k - b by omega];rfl)
   | (rw [show max 1 (min 26 (k - b))=26 by omega];rfl)
   | (rw [show max 1 (min 26 (k - b))=1 by omega];rfl)
theorem Nx (delta count:Int) (first:Bool) (w:World) (hd:0<=delta/\delta<=2147483647) (hc:1<=count/\count<=9223372036854775807):Calls prog 81 #[.int .i64 delta,.int .i64 count,.bool first] w λe w'=>e=.returned (.int .i64 (Puny.adapt delta count first))/\w=w':=by
 obtain ⟨d0,d1⟩:=hd;obtain ⟨c0,c1⟩:=hc;unfold Puny.adapt;obtain ⟨d,hdd⟩:∃ d,d=(if first then delta / 700 else delta / 2):=⟨_,rfl⟩
 rw [<- hdd];have hb:0<=d/\d<=2147483647:=by rw [hdd];split<;>omega
 have hq0:0<=d / count:=Int.ediv_nonneg hb.1 jO;have hq1:d / count<=d:=Int.ediv_le_self _ hb.1;obtain ⟨q,hq⟩:∃ q,d / count=q:=⟨_,rfl⟩
 rw [hq];rw [hq] at hq0 hq1;obtain ⟨b0,b1⟩:=hb;have HDD:=jH hdd;cases first
 all_goals
  simp only [Bool.false_eq_true,if_false,if_true] at hdd;have hdd':=hdd.symm;clear hdd HDD;go_enter func81,ntmps81;go_wp2;go_loopg [7,8] ((d+q).toNat+1) (λgk s7 s8 wr=>∃ x y:Int,s7=.int .i64 x/\s8=.int .i64 y/\0<=x/\0<=y/\x+y<=4294967294/\x.toNat<gk/\Hid (Puny.Lo (d+q) 0=Puny.Lo x y/\w=wr))
  case atStart=>exact ⟨d+q,0,rfl,rfl,by omega,by omega,by omega,by omega,⟨rfl,rfl⟩⟩
  case round =>
   obtain ⟨x,y,rfl,rfl,hx,hy,hxy,hg,I⟩:=hrel;by_cases hlt:455<x
   ·have J:Hid (Puny.Lo (d+q) 0=Puny.Lo (x / 35) (y+36)/\w=wr):=⟨by rw [I.out.1,Puny.Xk hlt],I.out.2⟩
    clear I;go_wp2;go_roundg (x.toNat)
    case measure=>omega
    case rel=>exact ⟨x / 35,y+36,rfl,rfl,by omega,by omega,by omega,by omega,J⟩
   ·have R:=jH (show Puny.Lo (d+q) 0=y+36*x / (x+38) by rw [I.out.1,Puny.Xj hlt]);have hlt':x<=455:=jO
    have hq2:0<=36*x / (x+38)/\36*x / (x+38)<=36*x:=⟨Int.ediv_nonneg jO jO,Int.ediv_le_self _ jO⟩
    obtain ⟨z,hz⟩:∃ z,36*x / (x+38)=z:=⟨_,rfl⟩
    rw [hz] at hq2 R;obtain ⟨z0,z1⟩:=hq2;clear hlt;go_wp2;go_ret;exact ⟨by rw [R.out];rfl,I.out.2⟩
namespace Puny
def Ia (n:Int):UInt8:=UInt8.ofNat (Lx n).toNat
theorem Ix {n:Int} (h:0<=n/\n<=35):((Ia n).toNat:Int)=Lx n:=by
 have h1:0<=Lx n/\Lx n<256:=by unfold Lx;split<;>omega
 unfold Ia;rw [UInt8.toNat_ofNat',Nat.mod_eq_of_lt (by show (Lx n).toNat<256;omega)];omega
def Bg (n k b:Int):List UInt8:=(digits n k b).map Ia
theorem Pc {n k b:Int} (h:n<thr k b):Bg n k b=[Ia n]:=by unfold Bg;rw [E6 h];rfl
theorem Pd {n k b:Int} (h:thr k b<=n):Bg n k b=Ia (thr k b+(n - thr k b) % (36 - thr k b))::Bg ((n - thr k b) / (36 - thr k b)) (k+36) b:=by unfold Bg;rw [F0 h];rfl
end Puny
theorem Q0 (W:World) (u:UInt8):(convert 77 9 (.slice (some ⟨W.heap.size,0,none⟩) 1 1)).run prog (W.alloc (.cells #[.int .u8 (u.toNat:Int)] 5))=.ok (.string ⟨#[u]⟩) (W.alloc (.cells #[.int .u8 (u.toNat:Int)] 5)) :=
 Fj (Jr W [Es u] [u] rfl 1 rfl)
theorem Aaz {S:ByteArray} {l:List UInt8} (h:S.data.toList=l):S=⟨l.toArray⟩:=by
 cases S with
 | mk d=>subst h;simp
theorem Nh (S:ByteArray) (u:UInt8):(S ++ (⟨#[u]⟩:ByteArray)).size=S.size+1:=by rw [ByteArray.size_append];rfl
theorem Ku (S:ByteArray) (u:UInt8):(S ++ (⟨#[u]⟩:ByteArray)).data.toList=S.data.toList ++ [u]:=by
 rw [ByteArray.data_append,Array.toList_append]
theorem Aba (n b:Int) (w:World) (hn:0<=n/\n<=2147483647) (hb:0<=b/\b<=100000000000) :
  Calls prog 80 #[.int .i64 n,.int .i64 b] w λe w'=>e=.returned (.string ⟨(Puny.Bg n 36 b).toArray⟩)/\Below w.heap.size w w':=by
 obtain ⟨n0,n1⟩:=hn;obtain ⟨b0,b1⟩:=hb;go_enter func80,ntmps80;go_wp2;go_loopg [0,5,6,7,8,9,10,11] (n.toNat+1) (λgk s0 s5 s6 _ _ _ _ _ wr=>∃ (x k:Int) (S:ByteArray),s0=.int .i64 x/\s5=.string S/\s6=.int .i64 k/\0<=x/\36<=k/\k+36*x<=36+36*n/\(S.size:Int)+x<=n/\x.toNat<gk/\Hid (Puny.Bg n 36 b=S.data.toList ++ Puny.Bg x k b/\Below w.heap.size w wr))
 case atStart=>exact ⟨n,36,⟨#[]⟩,rfl,rfl,rfl,n0,by omega,by omega,by show ((0:Nat):Int)+n<=n;omega,by omega,⟨rfl,jan _ _⟩⟩
 case round =>
  obtain ⟨x,k,S,rfl,rfl,rfl,hx,hk,hkx,hS,hg,I⟩:=hrel;have KT:=jH (Ac8 k b wr jO);have ht:=Puny.Ht k b;have hL:=λh=>Puny.Pc (n:=x) (k:=k) (b:=b) h;have hM:=λh=>Puny.Pd (n:=x) (k:=k) (b:=b) h;generalize Puny.thr k b=t at KT ht hL hM;obtain ⟨t0,t1⟩:=ht;by_cases hlt:x<t
  ·have KD:=jH (λW=>Uo x W jO);rw [<- Puny.Ix (show 0<=x/\x<=35 by omega)] at KD;have T:=jH (show Puny.Bg n 36 b=S.data.toList ++ [Puny.Ia x] by rw [I.out.1,hL hlt]);obtain ⟨u,hu⟩:∃ u,u=Puny.Ia x:=⟨_,rfl⟩
   rw [<- hu] at KD T;clear hL hM hu;go_wp2_with fail;refine KT.out.mono ?_;rintro e w1 ⟨rfl,rfl⟩;go_wp2_with fail;refine (KD.out _).mono ?_;rintro e w2 ⟨rfl,rfl⟩;have hconv:=Q0 wr u;go_wp2;go_ret;refine ⟨?_,I.out.2.alloc I.out.2.size _⟩;rw [T.out];show Ending.returned (.string (S ++ (⟨#[u]⟩:ByteArray)))=_;rw [Aaz (Ku S u)]
  ·have hge:t<=x:=jO
   obtain ⟨q0,q1⟩:=Puny.less x t t0 t1 hge;obtain ⟨p1,p2,p3⟩:=Puny.parts x t t0 t1;have KD:=jH (λW=>Uo (t+(x - t) % (36 - t)) W jO);rw [<- Puny.Ix (show 0<=t+(x - t) % (36 - t)/\t+(x - t) % (36 - t)<=35 by omega)] at KD;obtain ⟨u,hu⟩:∃ u,u=Puny.Ia (t+(x - t) % (36 - t)):=⟨_,rfl⟩
   have T:=jH (show Puny.Bg n 36 b=(S.data.toList ++ [u]) ++ Puny.Bg ((x - t) / (36 - t)) (k+36) b by rw [I.out.1,hM hge,hu,jaq];rfl);rw [<- hu] at KD;obtain ⟨r,hr⟩:∃ r,(x - t) % (36 - t)=r:=⟨_,rfl⟩
   obtain ⟨q,hq⟩:∃ q,(x - t) / (36 - t)=q:=⟨_,rfl⟩
   rw [hr] at KD p2 p3;rw [hq] at T q0 q1;have r0:0<=r:=jO
   have r1:t+r<=35:=jO
   have q2:q<x:=jO
   clear hL hM hu p1 p2 p3 q1;have hnl:¬ x<t:=hlt;go_wp2_with fail;refine KT.out.mono ?_;rintro e w1 ⟨rfl,rfl⟩;go_wp2_with fail;refine (KD.out _).mono ?_;rintro e w2 ⟨rfl,rfl⟩;have hconv:=Q0 wr u;have J:Hid (Puny.Bg n 36 b=(S ++ (⟨#[u]⟩:ByteArray)).data.toList ++ Puny.Bg q (k+36) b/\Below w.heap.size w (wr.alloc (.cells #[.int .u8 (u.toNat:Int)] 5))) :=
    ⟨by rw [Ku];exact T.out,I.out.2.alloc I.out.2.size _⟩
   clear I KT KD;go_wp2;go_roundg (x.toNat)
   case measure=>omega
   case rel=>exact ⟨q,k+36,S ++ ⟨#[u]⟩,by rw [hq],rfl,rfl,q0,by omega,by omega,by rw [Nh];omega,by omega,J⟩
end
section
open Go.RowKit Utf
namespace Puny
theorem Xf:∀ (f:Nat) (d k:Int),0<=d->k<=Gm f d k/\Gm f d k<=k+d+36
 | 0,d,k,h=>by
  have h1:0<=36*d / (d+38):=Int.ediv_nonneg jO jO;have h2:36*d / (d+38)<=36:=by
   have:=Int.ediv_le_ediv (c:=d+38) jO (show 36*d<=36*(d+38) by omega);rwa [Int.mul_ediv_cancel _ jO] at this
  unfold Gm;omega
 | f+1,d,k,h=>by
  unfold Gm;split
  ·have:=Xf f (d / 35) (k+36) jO;omega
  ·have h1:0<=36*d / (d+38):=Int.ediv_nonneg jO jO;have h2:36*d / (d+38)<=36:=by
    have:=Int.ediv_le_ediv (c:=d+38) jO (show 36*d<=36*(d+38) by omega);rwa [Int.mul_ediv_cancel _ jO] at this
   omega
theorem Ln {delta count:Int} (first:Bool) (hd:0<=delta/\delta<=2147483647) (hc:1<=count):0<=adapt delta count first/\adapt delta count first<=5000000000:=by
 unfold adapt;obtain ⟨d,hdd⟩:∃ d,d=(if first then delta / 700 else delta / 2):=⟨_,rfl⟩
 rw [<- hdd];have hb:0<=d/\d<=2147483647:=by rw [hdd];split<;>omega
 have hq0:0<=d / count:=Int.ediv_nonneg hb.1 jO;have hq1:d / count<=d:=Int.ediv_le_self _ hb.1;have:=Xf (d+d / count).toNat (d+d / count) 0 jO;unfold Lo;omega
theorem Abc:∀ (f:Nat) (n k b:Int),(Zo f n k b).length<=f
 | 0,_,_,_=>jaa _
 | f+1,n,k,b=>by
  unfold Zo;split
  ·simp
  ·simp only [jac];have:=Abc f ((n - thr k b) / (36 - thr k b)) (k+36) b;omega
theorem Abb (n k b:Int):(Bg n k b).length<=n.toNat+1:=by
 unfold Bg digits;rw [jai];exact Abc _ _ _ _
def Cg (ds:List Int) (b c:Int) (f:Bool):List UInt8:=(emit adapt ds b c f).map Ia
theorem Rv (d:Int) (ds:List Int) (b c:Int) (f:Bool):Cg (d::ds) b c f=Bg d 36 b ++ Cg ds (adapt d (c+1) f) (c+1) false:=by
 unfold Cg Bg;rw [Pl,List.map_append]
def Bd (l:List Int):List UInt8:=(lt 128 l).map λx=>UInt8.ofNat x.toNat
def Hh (l:List Int):List UInt8:=if (lt 128 l).length=0 then [] else [45]
def Bb (l:List Int):List UInt8:=Bd l ++ Hh l ++ Cg (Ey l) 72 (lt 128 l).length true
theorem Ab3 {f:Nat} {l:List Int} {n:Int} (h:(lt n l).length=l.length):msF f l n=[]:=by
 cases f with
 | zero=>rfl
 | succ f=>unfold msF;rw [if_pos h]
theorem Ab4 {f:Nat} {l:List Int} {n:Int} (h:(lt n l).length ≠ l.length):msF (f+1) l n=least n l 1114112::msF f l (least n l 1114112+1):=by rw [msF,if_neg h]
theorem Vg (n x:Int) (t:List Int) (z:Int):least n (x::t) z=least n t (if n<=x/\x<z then x else z):=rfl
theorem Alx (m:Int) (l:List Int):(le m l).length<=l.length:=by unfold le;exact List.length_filter_le _ _
theorem P0 (m:Int) (p:List Int) (x:Int):lt m (p ++ [x])=if x<m then lt m p ++ [x] else lt m p:=by
 unfold lt;rw [List.filter_append];by_cases h:x<m<;>simp [h]
end Puny
theorem Uj (W:World) (x:Int) (h:0<=x/\x<256):(convert 77 9 (.slice (some ⟨W.heap.size,0,none⟩) 1 1)).run prog (W.alloc (.cells #[.int .u8 x] 5))=.ok (.string ⟨#[UInt8.ofNat x.toNat]⟩) (W.alloc (.cells #[.int .u8 x] 5)):=by
 have e:x=((UInt8.ofNat x.toNat).toNat:Int):=by
  rw [UInt8.toNat_ofNat',Nat.mod_eq_of_lt (by show x.toNat<256;omega)];omega
 have:=Q0 W (UInt8.ofNat x.toNat);rwa [<- e] at this
def Tz (bs:List UInt8) (ok:Bool) (w:World) (e:Ending) (w':World):Prop:=e=.returned (.tuple #[.string ⟨bs.toArray⟩,.bool ok])/\Below w.heap.size w w'
theorem I6 {l:List Int} {k:Nat} (h:k<l.length) (hr:Ad l=true):Ak l[k]! = true:=by
 unfold Ad at hr;rw [getElem!_pos l k h];exact jar.1 hr _ (List.getElem_mem h)
theorem Em {l:List Int} (h:Ad l=true):∀ x ∈ l,x<1114112:=λx hx=>by
 unfold Ad at h;have:=(An x).1 (jar.1 h x hx);omega
theorem Js (S T:ByteArray):(S ++ T).data.toList=S.data.toList ++ T.data.toList:=by rw [ByteArray.data_append,Array.toList_append]
theorem Md (v:Value) (l:List Int) (w:World) (hl:Runes v l w) (hn:l.length<=420) (hr:Ad l=true) :
  Calls prog 52 #[v] w (Tz (Puny.Bb l) true w):=by
 obtain ⟨A,c,rfl,-,hcell⟩:=hl.form;have HC:=jH hcell;have HR:=jH hr;have LT:=jH (Em hr);clear hl hcell hr;go_enter func52,ntmps52;go_wp2;go_loopg [4,5,6] (l.length+1) (λgk s4 s5 i wr=>∃ (k q:Nat) (S:ByteArray),k<=l.length/\i=.int .i64 k/\s4=.string S/\s5=.int .i64 q/\q<=k/\S.size<=k/\l.length - k<gk/\Hid (S.data.toList=Puny.Bd (l.take k)/\q=(Puny.lt 128 (l.take k)).length/\Below w.heap.size w wr))
 case atStart=>exact ⟨0,0,⟨#[]⟩,Nat.zero_le _,rfl,rfl,rfl,jaa _,jaa _,by omega,⟨rfl,rfl,jan _ _⟩⟩
 case round =>
  obtain ⟨k,q,S,hk,rfl,rfl,rfl,hqk,hSk,hg,I⟩:=hrel;by_cases hlt:k<l.length
  ·obtain ⟨ad,rfl,hb,hx⟩:=HC.out k hlt;have hx':=(I.out.2.2.cell (by rw [Ah];exact hb)).trans hx;obtain ⟨x,hxe⟩:∃ x,x=l[k]!:=⟨_,rfl⟩
   have hrx:=I6 hlt HR.out;rw [<- hxe] at hx' hrx;have hx0:=(An x).1 hrx;have ht:l.take (k+1)=l.take k ++ [x]:=by rw [Utf.Cy l k hlt,<- hxe]
   have KR:=jH (Fh x wr);rw [hrx] at KR;have HT:=jH ht;have hkz:(k:Int)<(l.length:Int):=jO
   clear hx hb hxe hrx ht;by_cases hp:x<128
   ·have hconv:=Uj wr x jO;have J:Hid ((S ++ (⟨#[UInt8.ofNat x.toNat]⟩:ByteArray)).data.toList=Puny.Bd (l.take (k+1))/\q+1=(Puny.lt 128 (l.take (k+1))).length/\Below w.heap.size w (wr.alloc (.cells #[.int .u8 x] 5))):=by
     refine ⟨?_,?_,I.out.2.2.alloc I.out.2.2.size _⟩
     ·rw [Ku,I.out.1,HT.out];unfold Puny.Bd;rw [Puny.P0,if_pos hp,List.map_append];rfl
     ·rw [HT.out,Puny.P0,if_pos hp,jab,<- I.out.2.1];rfl
    clear I;go_wp2_with fail;refine KR.out.mono ?_;rintro e w1 ⟨rfl,rfl⟩;go_wp2;go_roundg (l.length - k)
    case measure=>omega
    case rel=>exact ⟨k+1,q+1,_,by omega,by go_num,rfl,by go_num,by omega,by rw [Nh];omega,by omega,J⟩
   ·have J:Hid (S.data.toList=Puny.Bd (l.take (k+1))/\q=(Puny.lt 128 (l.take (k+1))).length/\Below w.heap.size w wr):=by
     refine ⟨?_,?_,I.out.2.2⟩
     ·rw [I.out.1,HT.out];unfold Puny.Bd;rw [Puny.P0,if_neg hp]
     ·rw [HT.out,Puny.P0,if_neg hp];exact I.out.2.1
    clear I;go_wp2_with fail;refine KR.out.mono ?_;rintro e w1 ⟨rfl,rfl⟩;go_wp2;go_roundg (l.length - k)
    case measure=>omega
    case rel=>exact ⟨k+1,q,S,by omega,by go_num,rfl,rfl,by omega,by omega,by omega,J⟩
  ·obtain rfl:k=l.length:=jO
   have h1:=I.out.1;have h2:=I.out.2.1;rw [List.take_length] at h1 h2;have BW:=jH I.out.2.2;have T0:Hid (∃ D:ByteArray,D.size<=l.length+1/\D.data.toList=Puny.Bd l ++ Puny.Hh l/\(0<q->D=S ++ (⟨#[45]⟩:ByteArray))/\(q=0->D=S)):=by
    by_cases hq:q=0
    ·exact ⟨S,by omega,by rw [h1];unfold Puny.Hh;rw [if_pos jO,List.append_nil],λh=>by omega,λ_=>rfl⟩
    ·exact ⟨S ++ ⟨#[45]⟩,by rw [Nh];omega,by rw [Ku,h1];unfold Puny.Hh;rw [if_neg jO],λ_=>rfl,λh=>absurd h hq⟩
   have HQ:=jH h2;clear I h1 h2;obtain ⟨D,hD1,hD2,hD3,hD4⟩:=T0.out;have hql:q<=l.length:=hqk;have HD2:=jH hD2;have HD3:=jH hD3;have HD4:=jH hD4;clear hD2 hD3 hD4 T0 hk hg;rcases Nat.eq_zero_or_pos q with hq | hq
   all_goals
    have HQ0:=jH hq
    first
     | have hqz:0<q:=jO
     | have hqz:¬ 0<q:=jO
    clear hq;go_wp2;go_loopg [4,7,8,9,10,11,12,13] (l.length+1) (λgk s4 s7 s8 s9 s10 _ _ _ wr=>∃ (n e b:Int) (h f:Nat) (S:ByteArray),s4=.string S/\s7=.int .i64 n/\s8=.int .i64 e/\s9=.int .i64 b/\s10=.int .i64 h/\128<=n/\n<=1114112/\0<=e/\e<=421/\0<=b/\b<=5000000000/\q<=h/\h<=l.length/\S.size<=600+500000000*h/\l.length - h<gk/\l.length - h<=f /\
     Hid (h=(Puny.lt n l).length/\Puny.Bb l=S.data.toList ++ Puny.Cg (Puny.rows l (Puny.msF f l n) n e) b h ((h:Int) == (q:Int))/\Below w.heap.size w wr))
    case atStart =>
     refine ⟨128,0,72,q,l.length,D,by first | rw [HD3.out HQ0.out] | rw [HD4.out HQ0.out],rfl,rfl,rfl,rfl,by omega,by omega,by omega,by omega,by omega,by omega,by omega,by omega,by omega,by omega,by omega,⟨HQ.out,?_,BW.out⟩⟩;rw [HD2.out,HQ.out,beq_self_eq_true];rfl
    case round =>
     obtain ⟨n,e,b,h,f,S,rfl,rfl,rfl,rfl,rfl,hn1,hn2,he1,he2,hb1,hb2,hqh,hhl,hSz,hg,hf,J⟩:=hrel;by_cases hlt:h<l.length
     ·have hne:(Puny.lt n l).length ≠ l.length:=by have:=J.out.1;omega
      obtain ⟨f,rfl⟩:∃ f',f=f'+1:=⟨f - 1,by omega⟩
      obtain ⟨m1,m2,m3⟩:=Puny.Vi LT.out hne;have hmx:=LT.out _ m1;have hlow:=Puny.Jd m2 l m1;have hls:=Puny.Z1 m2 m3;have heq:=J.out.2.1;rw [Puny.Ab4 hne,Puny.Vz] at heq;obtain ⟨m,hme⟩:∃ m,Puny.least n l 1114112=m:=⟨_,rfl⟩
      rw [hme] at m2 hmx hlow hls heq;obtain ⟨P,hP⟩:∃ P,(m - n)*((h:Int)+1)=P:=⟨_,rfl⟩
      rw [<- J.out.1,hP] at heq;have hP0:0<=P:=by rw [<- hP];exact Int.mul_nonneg jO jO
      have hP1:P<=469041152:=by
       rw [<- hP];have a1:(m - n)*((h:Int)+1)<=(m - n)*421:=Int.mul_le_mul_of_nonneg_left jO jO;omega
      have HME:=jH hme;have HLOW:=jH (show h<(Puny.lt (m+1) l).length by have:=J.out.1;omega);have HLS:=jH (show h=(Puny.lt m l).length by rw [hls];exact J.out.1);have HEQ:=jH heq;have BJ:=jH J.out.2.2;have hlz:(h:Int)<(l.length:Int):=jO
      clear hne m1 m3 hlow hls heq hme J;go_wp2;go_loopg [11,12] (l.length+1) (λgk s11 s12 wr=>∃ (k:Nat) (z:Int),s11=.int .i64 z/\s12=.int .i64 k/\k<=l.length/\0<=z/\z<=1114112/\l.length - k<gk/\Hid (m=Puny.least n (l.drop k) z/\Below w.heap.size w wr))
      case atStart=>exact ⟨0,1114112,rfl,rfl,by omega,by omega,by omega,by omega,⟨HME.out.symm,BJ.out⟩⟩
      case round =>
       obtain ⟨k,z,rfl,rfl,hk,hz0,hz1,hgk,I⟩:=hrel;by_cases hkl:k<l.length
       ·obtain ⟨ad,rfl,hb,hx⟩:=HC.out k hkl;have hx':=(I.out.2.cell (by rw [Ah];exact hb)).trans hx;obtain ⟨x,hxe⟩:∃ x,x=l[k]!:=⟨_,rfl⟩
        have hrx:=I6 hkl HR.out;rw [<- hxe] at hx' hrx;have hx0:=(An x).1 hrx;have hd:l.drop k=x::l.drop (k+1):=by rw [hxe,getElem!_pos l k hkl];exact List.drop_eq_getElem_cons hkl
        have hL:m=Puny.least n (l.drop (k+1)) (if n<=x/\x<z then x else z):=by rw [I.out.1,hd,Puny.Vg]
        have hkz:(k:Int)<(l.length:Int):=jO
        have BI:=jH I.out.2;have xb0:0<=x:=jO
        have xb1:x<=1114111:=jO
        clear hx hb hxe hrx hd I hx0;by_cases hc:n<=x/\x<z
        ·rw [if_pos hc] at hL;obtain ⟨q1,q2⟩:=hc;have I2:Hid (m=Puny.least n (l.drop (k+1)) x/\Below w.heap.size w wr):=⟨hL,BI.out⟩
         clear hL;go_wp2;go_roundg (l.length - k)
         case measure=>omega
         case rel=>exact ⟨k+1,x,rfl,by go_num,by omega,by omega,by omega,by omega,I2⟩
        ·rw [if_neg hc] at hL;have I2:Hid (m=Puny.least n (l.drop (k+1)) z/\Below w.heap.size w wr):=⟨hL,BI.out⟩
         clear hL;by_cases q1:n<=x
         ·have q2:¬ x<z:=λh=>hc ⟨q1,h⟩;clear hc;go_wp2;go_roundg (l.length - k)
          case measure=>omega
          case rel=>exact ⟨k+1,z,rfl,by go_num,by omega,by omega,by omega,by omega,I2⟩
         ·clear hc;go_wp2;go_roundg (l.length - k)
          case measure=>omega
          case rel=>exact ⟨k+1,z,rfl,by go_num,by omega,by omega,by omega,by omega,I2⟩
       ·obtain rfl:k=l.length:=jO
        have hzm:m=z:=by have:=I.out.1;rwa [List.drop_length] at this
        have BI:=jH I.out.2;subst hzm;clear I;go_wp2;go_loopg [4,8,9,10,13] (l.length+1) (λgk s4 s8 s9 s10 s13 wr=>∃ (k:Nat) (e' b':Int) (h':Nat) (S':ByteArray),s4=.string S'/\s8=.int .i64 e'/\s9=.int .i64 b'/\s10=.int .i64 h'/\s13=.int .i64 k/\k<=l.length/\0<=e'/\(e'<=469041573+k/\(h<h'->e'<=k))/\0<=b'/\b'<=5000000000/\h<=h'/\h'<=l.length/\S'.size<=600+500000000*h'/\l.length - k<gk /\
         Hid (h'=(Puny.le m (l.take k)).length+(Puny.lt m (l.drop k)).length/\Puny.Bb l=S'.data.toList ++ Puny.Cg (Puny.El l (Puny.msF f l (m+1)) m (l.drop k) e') b' h' ((h':Int) == (q:Int))/\Below w.heap.size w wr))
        case atStart=>exact ⟨0,e+P,b,h,S,rfl,rfl,rfl,rfl,rfl,Nat.zero_le _,by omega,⟨by omega,λh=>by omega⟩,hb1,hb2,jaa _,by omega,hSz,by omega,⟨by have h9:=HLS.out;show h=0+(Puny.lt m l).length;omega,HEQ.out,BI.out⟩⟩
        case round =>
         obtain ⟨k,e',b',h',S',rfl,rfl,rfl,rfl,rfl,hk',he0,⟨he3,he4⟩,hb3,hb4,hh1,hh2,hS2,hg4,I⟩:=hrel;by_cases hkl:k<l.length
         ·obtain ⟨ad,rfl,hb,hx⟩:=HC.out k hkl;have hx':=(I.out.2.2.cell (by rw [Ah];exact hb)).trans hx;obtain ⟨x,hxe⟩:∃ x,x=l[k]!:=⟨_,rfl⟩
          have hrx:=I6 hkl HR.out;rw [<- hxe] at hx' hrx;have hx0:=(An x).1 hrx;have xb0:0<=x:=jO
          have xb1:x<=1114111:=jO
          have hd:l.drop k=x::l.drop (k+1):=by rw [hxe,getElem!_pos l k hkl];exact List.drop_eq_getElem_cons hkl
          have ht:l.take (k+1)=l.take k ++ [x]:=by rw [Utf.Cy l k hkl,<- hxe]
          have hh:=I.out.1;have heq:=I.out.2.1;rw [hd,Puny.Gd] at hh;rw [hd] at heq;have hle:=Puny.Px m (l.take k) x;rw [<- ht] at hle;have hkz:(k:Int)<(l.length:Int):=jO
          have BI2:=jH I.out.2.2;clear hx hb hxe hrx hd ht I hx0;rcases (show x<m\/x=m\/m<x by omega) with hc | hc | hc
          ·rw [if_pos hc] at hh;rw [if_pos jO] at hle;rw [Puny.Ym hc] at heq;have I2:Hid (h'=(Puny.le m (l.take (k+1))).length+(Puny.lt m (l.drop (k+1))).length/\Puny.Bb l=S'.data.toList ++ Puny.Cg (Puny.El l (Puny.msF f l (m+1)) m (l.drop (k+1)) (e'+1)) b' h' ((h':Int) == (q:Int))/\Below w.heap.size w wr) :=
            ⟨by rw [hle,jab];simp only [jac,List.length_nil] at hh ⊢;omega,heq,BI2.out⟩
           have hxne:(x == m)=false:=by rw [beq_eq_false_iff_ne];omega
           clear hh hle heq;go_wp2;go_roundg (l.length - k)
           case measure=>omega
           case rel=>exact ⟨k+1,e'+1,b',h',S',rfl,rfl,rfl,rfl,by go_num,by omega,by omega,⟨by omega,λhq=>by have:=he4 hq;omega⟩,hb3,hb4,hh1,hh2,hS2,by omega,I2⟩
          ·subst hc;rw [if_neg jO] at hh;rw [if_pos jO] at hle;rw [Puny.Yo,Puny.Rv] at heq;have h1l:=Puny.Alx x (l.take (k+1));have h2l:=Puny.Oa x (l.drop (k+1));rw [jak] at h1l;rw [jaj] at h2l;have hh5:h'+1=(Puny.le x (l.take (k+1))).length+(Puny.lt x (l.drop (k+1))).length:=by rw [hle,jab];simp only [jac,List.length_nil];omega
           have hh6:h'+1<=l.length:=jO
           have KD:=jH (λW=>Aba e' b' W jO jO);have KA:=jH (λW=>Nx e' ((h':Int)+1) ((h':Int) == (q:Int)) W jO jO);obtain ⟨n1,n2⟩:=Puny.Ln (delta:=e') (count:=(h':Int)+1) ((h':Int) == (q:Int)) jO jO;have hdl:=Puny.Abb e' 36 b';generalize Puny.Bg e' 36 b'=dg at KD heq hdl;generalize Puny.adapt e' ((h':Int)+1) ((h':Int) == (q:Int))=nb at KA heq n1 n2;have hfl:(((h'+1:Nat):Int) == (q:Int))=false:=by rw [beq_eq_false_iff_ne];omega
           have I3:=jH (λW (hB:Below w.heap.size w W)=>(show h'+1=(Puny.le x (l.take (k+1))).length+(Puny.lt x (l.drop (k+1))).length/\Puny.Bb l=(S' ++ (⟨dg.toArray⟩:ByteArray)).data.toList ++ Puny.Cg (Puny.El l (Puny.msF f l (x+1)) x (l.drop (k+1)) 0) nb ((h'+1:Nat):Int) (((h'+1:Nat):Int) == (q:Int))/\Below w.heap.size w W from
            ⟨hh5,by rw [Js,heq,hfl,jaq];rfl,hB⟩))
           have hsz:(S' ++ (⟨dg.toArray⟩:ByteArray)).size<=600+500000000*(h'+1):=by
            rw [ByteArray.size_append,show (⟨dg.toArray⟩:ByteArray).size=dg.length by simp [ByteArray.size]];omega
           have HSZ:=jH hsz;have hdz:(⟨dg.toArray⟩:ByteArray).size<=500000000:=by rw [show (⟨dg.toArray⟩:ByteArray).size=dg.length by simp [ByteArray.size]];omega
           clear hh hle heq h1l h2l hh5 hfl hsz hdl;go_wp2_with fail;refine (KD.out _).mono ?_;rintro e9 w3 ⟨rfl,hb9⟩;have B3:=jH (BI2.out.trans (hb9.mono BI2.out.size));clear hb9 KD;go_wp2_with fail;refine (KA.out _).mono ?_;rintro e8 w4 ⟨rfl,rfl⟩;go_wp2;go_roundg (l.length - k)
           case measure=>omega
           case rel=>exact ⟨k+1,0,nb,h'+1,_,rfl,rfl,rfl,by go_num,by go_num,by omega,by omega,⟨by omega,λ_=>by omega⟩,n1,n2,by omega,hh6,HSZ.out,by omega,I3.out _ B3.out⟩
          ·rw [if_neg jO] at hh;rw [if_neg jO] at hle;rw [Puny.Yn hc] at heq;have I2:Hid (h'=(Puny.le m (l.take (k+1))).length+(Puny.lt m (l.drop (k+1))).length/\Puny.Bb l=S'.data.toList ++ Puny.Cg (Puny.El l (Puny.msF f l (m+1)) m (l.drop (k+1)) e') b' h' ((h':Int) == (q:Int))/\Below w.heap.size w wr) :=
            ⟨by rw [hle];exact hh,heq,BI2.out⟩
           have hxne:(x == m)=false:=by rw [beq_eq_false_iff_ne];omega
           have hxl:¬ x<m:=jO
           clear hh hle heq;go_wp2;go_roundg (l.length - k)
           case measure=>omega
           case rel=>exact ⟨k+1,e',b',h',S',rfl,rfl,rfl,rfl,by go_num,by omega,by omega,⟨by omega,λhq=>by have:=he4 hq;omega⟩,hb3,hb4,hh1,hh2,hS2,by omega,I2⟩
         ·obtain rfl:k=l.length:=jO
          have hh:=I.out.1;have heq:=I.out.2.1;rw [List.take_length,List.drop_length] at hh;rw [List.drop_length,Puny.Acu] at heq;have hh3:h'=(Puny.lt (m+1) l).length:=by rw [hh,Puny.lt_next];rfl
          have hlow2:h<h':=by rw [hh3];exact HLOW.out
          have he5:=he4 hlow2;have J2:Hid (h'=(Puny.lt (m+1) l).length/\Puny.Bb l=S'.data.toList ++ Puny.Cg (Puny.rows l (Puny.msF f l (m+1)) (m+1) (e'+1)) b' h' ((h':Int) == (q:Int))/\Below w.heap.size w wr):=⟨hh3,heq,I.out.2.2⟩
          clear I hh heq hh3;go_wp2;go_roundg (l.length - h)
          case measure=>omega
          case rel=>exact ⟨m+1,e'+1,b',h',f,S',rfl,rfl,rfl,rfl,rfl,by omega,by omega,by omega,by omega,hb3,hb4,by omega,hh2,hS2,by omega,by omega,J2⟩
     ·obtain rfl:h=l.length:=jO
      have R:=jH (show Puny.Bb l=S.data.toList by rw [J.out.2.1,Puny.Ab3 J.out.1.symm];show S.data.toList ++ []=_;rw [List.append_nil]);go_wp2;go_ret2;refine ⟨?_,J.out.2.2⟩;rw [R.out,<- Aaz (S:=S) rfl];rfl
theorem Apy (v:Value) (l:List Int) (w:World) (hl:Runes v l w) (hn:l.length<=420) (hr:Ad l=false) :
  Calls prog 52 #[v] w (Tz [] false w):=by
 obtain ⟨A,c,rfl,-,hcell⟩:=hl.form;have HC:=jH hcell;have HR:=jH hr;clear hl hcell hr;go_enter func52,ntmps52;go_wp2;go_loopg [4,5,6] (l.length+1) (λgk s4 s5 i wr=>∃ (k q:Nat) (S:ByteArray),k<=l.length/\i=.int .i64 k/\s4=.string S/\s5=.int .i64 q/\q<=k/\S.size<=k/\l.length - k<gk/\Hid (Ad (l.take k)=true/\Below w.heap.size w wr))
 case atStart=>exact ⟨0,0,⟨#[]⟩,Nat.zero_le _,rfl,rfl,rfl,jaa _,jaa _,by omega,⟨rfl,jan _ _⟩⟩
 case round =>
  obtain ⟨k,q,S,hk,rfl,rfl,rfl,hqk,hSk,hg,I⟩:=hrel;by_cases hlt:k<l.length
  ·obtain ⟨ad,rfl,hb,hx⟩:=HC.out k hlt;have hx':=(I.out.2.cell (by rw [Ah];exact hb)).trans hx;obtain ⟨x,hxe⟩:∃ x,x=l[k]!:=⟨_,rfl⟩
   rw [<- hxe] at hx';have ht:l.take (k+1)=l.take k ++ [x]:=by rw [Utf.Cy l k hlt,<- hxe]
   have KR:=jH (Fh x wr);have hkz:(k:Int)<(l.length:Int):=jO
   clear hx hb hxe;cases hrx:Ak x with
   | false =>
    rw [hrx] at KR;clear hrx ht;go_wp2_with fail;refine KR.out.mono ?_;rintro e w1 ⟨rfl,rfl⟩;go_wp2;go_ret2;exact ⟨rfl,I.out.2⟩
   | true =>
    rw [hrx] at KR;have hx0:=(An x).1 hrx;have J:=jH (λW (hB:Below w.heap.size w W)=>(show Ad (l.take (k+1))=true/\Below w.heap.size w W from ⟨by rw [ht,Ie,I.out.1,hrx];rfl,hB⟩));have BI:=jH I.out.2;clear hrx ht I;by_cases hp:x<128
    ·have hconv:=Uj wr x jO;go_wp2_with fail;refine KR.out.mono ?_;rintro e w1 ⟨rfl,rfl⟩;go_wp2;go_roundg (l.length - k)
     case measure=>omega
     case rel=>exact ⟨k+1,q+1,_,by omega,by go_num,rfl,by go_num,by omega,by rw [Nh];omega,by omega,J.out _ (BI.out.alloc BI.out.size _)⟩
    ·go_wp2_with fail;refine KR.out.mono ?_;rintro e w1 ⟨rfl,rfl⟩;go_wp2;go_roundg (l.length - k)
     case measure=>omega
     case rel=>exact ⟨k+1,q,S,by omega,by go_num,rfl,rfl,by omega,by omega,by omega,J.out _ BI.out⟩
  ·exfalso;have h:=I.out.1;rw [List.take_of_length_le jO,HR.out] at h;cases h
end
section
open Go.RowKit Utf
namespace Puny
def Cb (c:UInt8):Int:=(c.toNat:Int)
def Fg (b:Int):List UInt8->Int->Int->Int->Nat->Option (Int × Nat)
 | [],_,_,_,_=>none
 | c::l,k,w,s,u=>match valOf (Cb c) with
  | none=>none
  | some d=>if De<w\/De<s+d*w then none else if d<thr k b then some (s+d*w,u+1) else Fg b l (k+36) (w*(36 - thr k b)) (s+d*w) (u+1)
theorem Qm {n d:Int} (h:valOf n=some d):0<=d/\d<=35:=by
 unfold valOf at h;split at h
 ·have:=Option.some.inj h;omega
 ·split at h
  ·have:=Option.some.inj h;omega
  ·split at h
   · have:=Option.some.inj h;omega
   · cases h
def Mj (o:Option (Int × Nat)):Value:=match o with | none=>.tuple #[.int .i64 0,.int .i64 0] | some (x,u)=>.tuple #[.int .i64 x,.int .i64 u]
end Puny
theorem Sm (s:ByteArray) (b:Int) (w:World) (hs:s.size<=100000) (hb:0<=b/\b<=100000000000) :
  Calls prog 82 #[.string s,.int .i64 b] w λe w'=>e=.returned (Puny.Mj (Puny.Fg b s.data.toList 36 1 0 0))/\w=w':=by
 obtain ⟨b0,b1⟩:=hb;go_enter func82,ntmps82;go_wp2;go_loopg [6,7,8,9,10,11] (s.size+1) (λgk s6 s7 s8 _ _ _ wr=>∃ (k:Nat) (sum x:Int),s6=.int .i64 sum/\s7=.int .i64 x/\s8=.int .i64 k/\k<=s.size/\0<=sum/\sum<=2147483647/\1<=x/\x<=75161927645/\s.size - k<gk/\Hid (Puny.Fg b s.data.toList 36 1 0 0=Puny.Fg b (s.data.toList.drop k) (36*((k:Int)+1)) x sum k/\w=wr))
 case atStart=>exact ⟨0,0,1,rfl,rfl,rfl,Nat.zero_le _,by omega,by omega,by omega,by omega,by omega,⟨rfl,rfl⟩⟩
 case round =>
  obtain ⟨k,sum,x,rfl,rfl,rfl,hk,hs0,hs1,hx0,hx1,hg,I⟩:=hrel;by_cases hlt:k<s.size
  ·have hkz:(k:Int)<(s.size:Int):=jO
   have hd:=Fc s k hlt;have hub:s[k].toNat<256:=s[k].toNat_lt;have KV:=jH (Afz (s[k].toNat:Int) wr jO);have hN:=I.out.1;rw [hd,Puny.Fg,show Puny.Cb s[k]=(s[k].toNat:Int) from rfl] at hN;have HW:=jH I.out.2;clear I hd hub;cases hv:Puny.valOf (s[k].toNat:Int) with
   | none =>
    rw [hv] at KV hN;simp only at hN;have R:=jH hN;clear hv hN;go_wp2_with fail;refine KV.out.mono ?_;rintro e w1 ⟨rfl,rfl⟩;simp only [Option.getD_none,Option.isSome_none];go_wp2;go_ret2;exact ⟨by rw [R.out];rfl,HW.out⟩
   | some d =>
    obtain ⟨d0,d1⟩:=Puny.Qm hv;rw [hv] at KV hN;simp only at hN;clear hv;by_cases hxl:2147483647<x
    ·rw [if_pos (.inl hxl)] at hN;have R:=jH hN;clear hN;go_wp2_with fail;refine KV.out.mono ?_;rintro e w1 ⟨rfl,rfl⟩;simp only [Option.getD_some,Option.isSome_some];go_wp2;go_ret2;exact ⟨by rw [R.out];rfl,HW.out⟩
    ·have hxl':x<=2147483647:=jO
     have hP0:0<=d*x:=Int.mul_nonneg d0 jO;have hP1:d*x<=75161927645:=by
      have a1:d*x<=35*x:=Int.mul_le_mul_of_nonneg_right d1 jO;omega
     obtain ⟨P,hP⟩:∃ P,d*x=P:=⟨_,rfl⟩
     rw [hP] at hP0 hP1 hN;by_cases hsl:2147483647<sum+P
     ·rw [if_pos (.inr hsl)] at hN;have R:=jH hN;clear hN;go_wp2_with fail;refine KV.out.mono ?_;rintro e w1 ⟨rfl,rfl⟩;simp only [Option.getD_some,Option.isSome_some];go_wp2;go_ret2;exact ⟨by rw [R.out];rfl,HW.out⟩
     ·rw [if_neg (show ¬ (Puny.De<x\/Puny.De<sum+P) by unfold Puny.De;omega)] at hN;have KT:=jH (λW=>Ac8 (36*((k:Int)+1)) b W jO);have htb:=Puny.Ht (36*((k:Int)+1)) b;generalize Puny.thr (36*((k:Int)+1)) b=t at KT htb hN;obtain ⟨t0,t1⟩:=htb;have hsl':sum+P<=2147483647:=jO
      by_cases hdt:d<t
      ·rw [if_pos hdt] at hN;have R:=jH hN;clear hN hxl hsl;go_wp2_with fail;refine KV.out.mono ?_;rintro e w1 ⟨rfl,rfl⟩;simp only [Option.getD_some,Option.isSome_some];go_wp2_with fail;refine (KT.out _).mono ?_;rintro e w2 ⟨rfl,rfl⟩;go_wp2;go_ret2;exact ⟨by rw [R.out];rfl,HW.out⟩
      ·rw [if_neg hdt] at hN;have hQ0:1<=x*(36 - t):=Int.mul_pos jO jO;have hQ1:x*(36 - t)<=75161927645:=by
        have a1:x*(36 - t)<=x*35:=Int.mul_le_mul_of_nonneg_left jO jO;omega
       obtain ⟨Q,hQ⟩:∃ Q,x*(36 - t)=Q:=⟨_,rfl⟩
       rw [hQ] at hQ0 hQ1 hN;have R:Hid (Puny.Fg b s.data.toList 36 1 0 0=Puny.Fg b (s.data.toList.drop (k+1)) (36*(((k+1:Nat):Int)+1)) Q (sum+P) (k+1)/\w=wr):=⟨by rw [hN,show 36*((k:Int)+1)+36=36*(((k+1:Nat):Int)+1) by omega],HW.out⟩
       clear hN hxl hsl;go_wp2_with fail;refine KV.out.mono ?_;rintro e w1 ⟨rfl,rfl⟩;simp only [Option.getD_some,Option.isSome_some];go_wp2_with fail;refine (KT.out _).mono ?_;rintro e w2 ⟨rfl,rfl⟩;go_wp2;go_roundg (s.size - k)
       case measure=>omega
       case rel=>exact ⟨k+1,sum+P,Q,rfl,rfl,by go_num,by omega,by omega,by omega,by omega,by omega,by omega,R⟩
  ·obtain rfl:k=s.size:=jO
   have R:=jH (show Puny.Fg b s.data.toList 36 1 0 0=none by rw [I.out.1,List.drop_of_length_le jS];rfl);go_wp2;go_ret2;exact ⟨by rw [R.out];rfl,I.out.2⟩
end
section
open Go.RowKit Utf
namespace Puny
def Dk (r:Rd) (d:Int):Bool:=decide (r.i+d<=De) && Ak (r.n+(r.i+d) / (r.out.length+1))
def Gj:Nat->List UInt8->Int->Bool->Rd->Option (List Int)
 | _,[],_,_,r=>some r.out
 | 0,_::_,_,_,_=>none
 | k+1,x::l,b,f,r=>match Fg b (x::l) 36 1 0 0 with
  | none=>none
  | some (d,m)=>if Dk r d then Gj k ((x::l).drop m) (adapt d (r.out.length+1) f) false (Bt r d) else none
def Bq:List UInt8->Nat->Nat->Nat
 | [],_,a=>a
 | c::t,k,a=>Bq t (k+1) (if c.toNat=45 then k else a)
def Bk (bs:List UInt8):Nat:=Bq bs 0 0
def Gl (bs:List UInt8):Bool:=bs.any λc=>decide (127<c.toNat)
def Dn (bs:List UInt8):Nat:=if Bk bs=0 then 0 else Bk bs+1
def Dt (bs:List UInt8):Option (List Int) :=
 if Gl bs then none else Gj bs.length (bs.drop (Dn bs)) 72 true (start ((bs.take (Bk bs)).map Cb))
theorem Lt:∀ (t:List UInt8) (k a:Nat),a<=k->Bq t k a<=k+t.length/\(Bq t k a=a\/Bq t k a<k+t.length)
 | [],k,a,h=>⟨by simpa [Bq] using h,.inl rfl⟩
 | c::t,k,a,h=>by
  unfold Bq;split
  ·have:=Lt t (k+1) k jO;simp only [jac];omega
  ·have:=Lt t (k+1) a jO;simp only [jac];omega
theorem Ik (bs:List UInt8):Bk bs=0\/Bk bs<bs.length:=by
 have:=(Lt bs 0 0 (jaa _)).2;unfold Bk;omega
theorem Y2 (bs:List UInt8):Dn bs<=bs.length:=by
 have:=Ik bs;unfold Dn;split<;>omega
theorem Nj (b:Int):∀ (l:List UInt8) (k w s:Int) (u:Nat) (x:Int) (v:Nat),Fg b l k w s u=some (x,v)->1<=w->0<=s->0<=x/\x<=De/\u+1<=v/\v<=u+l.length
 | [],_,_,_,_,_,_,h,_,_=>by cases h
 | c::l,k,w,s,u,x,v,h,hw,hs=>by
  unfold Fg at h;cases hv:valOf (Cb c) with
  | none=>rw [hv] at h;cases h
  | some d =>
   rw [hv] at h;simp only at h;have hd:=Qm hv;have ht:=Ht k b;have h0:0<=d*w:=Int.mul_nonneg hd.1 jO;split at h
   ·cases h
   ·rename_i hlim
    split at h
    ·have:=Option.some.inj h;injection this with e1 e2
     subst e1 e2;simp only [jac];refine ⟨by omega,by omega,by omega,by omega⟩
    ·have h1:1<=w*(36 - thr k b):=by
      have:1*1<=w*(36 - thr k b):=Int.mul_le_mul hw jO jO jO;omega
     have:=Nj b l _ _ _ _ _ _ h h1 jO;simp only [jac];omega
theorem M5 {k:Nat} {x:UInt8} {l:List UInt8} {b:Int} {f:Bool} {r:Rd} (h:Fg b (x::l) 36 1 0 0=none):Gj k (x::l) b f r=none:=by
 cases k with
 | zero=>rfl
 | succ k=>unfold Gj;rw [h]
theorem Pb {k:Nat} {x:UInt8} {l:List UInt8} {b:Int} {f:Bool} {r:Rd} {d:Int} {m:Nat} (h:Fg b (x::l) 36 1 0 0=some (d,m)) (ho:Dk r d=false):Gj k (x::l) b f r=none:=by
 cases k with
 | zero=>rfl
 | succ k=>unfold Gj;rw [h];simp [ho]
theorem Ju {k:Nat} {x:UInt8} {l:List UInt8} {b:Int} {f:Bool} {r:Rd} {d:Int} {m:Nat} (h:Fg b (x::l) 36 1 0 0=some (d,m)) (ho:Dk r d=true) :
  Gj (k+1) (x::l) b f r=Gj k ((x::l).drop m) (adapt d (r.out.length+1) f) false (Bt r d):=by
 rw [Gj,h];simp [ho]
theorem J3 (r:Rd) (d:Int):(Bt r d).out=r.out.take ((r.i+d) % (r.out.length+1)).toNat ++ ((Bt r d).n::r.out.drop ((r.i+d) % (r.out.length+1)).toNat):=by
 have h1:=Int.emod_nonneg (r.i+d) (b:=r.out.length+1) jO;have h2:=Int.emod_lt_of_pos (r.i+d) (b:=r.out.length+1) jO;unfold Bt;exact Nc _ _ _ jO
theorem Ys (r:Rd) (d:Int):(Bt r d).out.length=r.out.length+1:=by
 have h1:=Int.emod_nonneg (r.i+d) (b:=r.out.length+1) jO;have h2:=Int.emod_lt_of_pos (r.i+d) (b:=r.out.length+1) jO;rw [J3 r d,jab,jac,jak,jaj];omega
end Puny
def Oj (o:Option (List Int)) (w:World) (e:Ending) (w':World):Prop :=
 ∃ A c,e=.returned (.tuple #[.slice A (o.getD []).length c,.bool o.isSome])/\Runes (.slice A (o.getD []).length c) (o.getD []) w'/\Below w.heap.size w w'
theorem J4 (w:World):Runes (.slice none 0 0) [] w:=⟨none,0,rfl,jaa _,λ_=>rfl,λh=>absurd h jS⟩
theorem F8 {o:Option (List Int)} {w w':World} (h:o=none) (hb:Below w.heap.size w w'):Oj o w (.returned (.tuple #[.slice none 0 0,.bool false])) w':=by
 subst h;exact ⟨none,0,rfl,J4 _,hb⟩
theorem Ai.Amb {base:Nat} {v:Value} {l:List Int} {w:World} (h:Ai base v l w):(v=.slice none 0 0/\l=[])\/∃ g c,v=.slice (some ⟨g,0,none⟩) l.length c/\l.length<=c/\base<=g/\g<w.heap.size:=by
 rcases h.2 with ⟨h0,h1⟩ | ⟨g,cap,cur,h0,h1,-,h3,-⟩
 · exact .inl ⟨h0,List.eq_nil_of_length_eq_zero h1⟩
 · exact .inr ⟨g,cap,h0,h3,h1,(World.ownsRow.lt h g (by rw [h0];rfl)).2⟩
theorem Ai.front {base g n c:Nat} {l:List Int} {w:World} (h:Ai base (.slice (some ⟨g,0,none⟩) n c) l w) {m:Nat} (hm:m<=l.length) (hc:l.length<=c) (hg:g<w.heap.size):Runes (.slice (some ⟨g,0,none⟩) m c) (l.take m) w:=by
 refine ⟨some ⟨g,0,none⟩,c,by rw [jai,jak,Nat.min_eq_left hm],by rw [jai,jak];omega,λe=>(by cases e),λ_=>⟨_,rfl,hg,λj x hx=>?_⟩⟩;have e:(⟨g,0,none⟩:Addr).add j=⟨g,j,none⟩:=by unfold Addr.add;split<;>simp_all
 have hj:j<(l.take m).length:=by have:=(List.getElem?_eq_some_iff.1 hx).1;simpa using this
 rw [jak] at hj;rw [e,h.cell j jO,<- hx,List.getElem?_map,List.getElem?_take_of_lt jO,List.getElem?_eq_getElem jO,getElem!_pos l j jO];rfl
theorem Ai.back {base g n c:Nat} {l:List Int} {w:World} (h:Ai base (.slice (some ⟨g,0,none⟩) n c) l w) {m:Nat} (hm:m<=l.length) (hc:l.length<=c) (hg:g<w.heap.size):Runes (.slice (some ⟨g,m,none⟩) (l.length - m) (c - m)) (l.drop m) w:=by
 refine ⟨some ⟨g,m,none⟩,c - m,by rw [jai,jaj],by rw [jai,jaj];omega,λe=>(by cases e),λ_=>⟨_,rfl,hg,λj x hx=>?_⟩⟩;have e:(⟨g,m,none⟩:Addr).add j=⟨g,m+j,none⟩:=by unfold Addr.add;split<;>simp_all
 have hj:j<(l.drop m).length:=by have:=(List.getElem?_eq_some_iff.1 hx).1;simpa using this
 rw [jaj] at hj;rw [e,h.cell (m+j) jO,<- hx,List.getElem?_map,List.getElem?_drop,List.getElem?_eq_getElem jO,getElem!_pos l (m+j) jO];rfl
theorem extract_drop (s:ByteArray) (k:Nat):(s.extract k s.size).data.toList=s.data.toList.drop k:=by
 rw [ByteArray.data_extract,Array.toList_extract,List.extract_eq_take_drop,List.take_of_length_le jS]
theorem Akj {t:List UInt8} {c:UInt8} (h:¬ 127<c.toNat):Puny.Gl (c::t)=Puny.Gl t:=by
 unfold Puny.Gl;rw [List.any_cons,decide_eq_false h,Bool.false_or]
end
section
open Go.RowKit Utf
theorem Jv {bs:List UInt8} {n a u L m:Nat} {ro:List Int} {rn ri q d b b':Int} {f:Bool} {base:Nat} {v:Value} {w':World}
  (I:∃ fuel,n<=a+fuel/\Puny.Dt bs=Puny.Gj fuel (bs.drop a) b f ⟨ro,rn,ri⟩)
  (hgood:∀ (r:Puny.Rd) (f:Bool) (fuel:Nat),Puny.Dk r d=true->Puny.Gj (fuel+1) (bs.drop a) b f r=Puny.Gj fuel ((bs.drop a).drop u) (Puny.adapt d ((r.out.length:Int)+1) f) false (Puny.Bt r d))
  (hL:L=ro.length) (hq:(ri+d) / ((L:Int)+1)=q) (hm:(ri+d) % ((L:Int)+1)=(m:Int)) (hb:b'=Puny.adapt d ((L:Int)+1) f) (hov:ri+d<=2147483647) (hR:Ak (rn+q)=true) (hlt:a<n) (hu:0+1<=u)
  (ho:Ai base v (ro.take m ++ [rn+q] ++ ro.drop m) w') :
  Ai base v (ro.take m ++ [rn+q] ++ ro.drop m) w'/\(ro.take m ++ [rn+q] ++ ro.drop m).length=L+1/\∃ fuel,n<=a+u+fuel/\Puny.Dt bs=Puny.Gj fuel (bs.drop (a+u)) b' false ⟨ro.take m ++ [rn+q] ++ ro.drop m,rn+q,m+1⟩:=by
 obtain ⟨fuel,h1,h2⟩:=I;obtain ⟨k,rfl⟩:∃ k,fuel=k+1:=⟨fuel - 1,by omega⟩
 have hm1:=Int.emod_lt_of_pos (ri+d) (show (0:Int)<(L:Int)+1 by omega);refine ⟨ho,by simp only [jab,jak,jaj,List.length_singleton];omega,k,by omega,?_⟩;rw [h2,hgood _ _ _ (by
  unfold Puny.Dk Puny.De;show (decide (ri+d<=2147483647) && Ak (rn+(ri+d) / ((ro.length:Int)+1)))=true;rw [<- hL,hq,hR,decide_eq_true hov];rfl),List.drop_drop]
 have e1:Puny.Bt ⟨ro,rn,ri⟩ d=⟨ro.take m ++ [rn+q] ++ ro.drop m,rn+q,m+1⟩:=by
  have h3:=Puny.J3 ⟨ro,rn,ri⟩ d;have h4:(Puny.Bt ⟨ro,rn,ri⟩ d).n=rn+q:=by show rn+(ri+d) / ((ro.length:Int)+1)=rn+q;rw [<- hL,hq]
  have h5:(Puny.Bt ⟨ro,rn,ri⟩ d).i=(m:Int)+1:=by show (ri+d) % ((ro.length:Int)+1)+1=m+1;rw [<- hL,hm]
  have h6:(Puny.Bt ⟨ro,rn,ri⟩ d).out=ro.take m ++ [rn+q] ++ ro.drop m:=by
   rw [h3,h4];show ro.take ((ri+d) % ((ro.length:Int)+1)).toNat ++ ((rn+q)::ro.drop ((ri+d) % ((ro.length:Int)+1)).toNat)=_;rw [<- hL,hm];simp
  cases hr:Puny.Bt ⟨ro,rn,ri⟩ d with
  | mk o n i=>rw [hr] at h4 h5 h6;simp only at h4 h5 h6;rw [h4,h5,h6]
 rw [e1,hb,hL]
theorem Aa7 (s:ByteArray) (w:World) (hs:s.size<=1000) :
  Calls prog 54 #[.string s] w (Oj (Puny.Dt s.data.toList) w):=by
 go_enter func54,ntmps54;go_wp2;go_loopg [5,6] (s.size+1) (λgk s5 s6 wr=>∃ k a:Nat,s5=.int .i64 a/\s6=.int .i64 k/\k<=s.size/\a<=k/\s.size - k<gk/\Hid (Puny.Bq (s.data.toList.drop k) k a=Puny.Bk s.data.toList/\Puny.Gl (s.data.toList.drop k)=Puny.Gl s.data.toList/\w=wr))
 case atStart=>exact ⟨0,0,rfl,rfl,Nat.zero_le _,jaa _,by omega,⟨rfl,rfl,rfl⟩⟩
 case round =>
  obtain ⟨k,a,rfl,rfl,hk,hak,hg,I⟩:=hrel;by_cases hlt:k<s.size
  ·have hkz:(k:Int)<(s.size:Int):=jO
   have hd:=Fc s k hlt;have hub:s[k].toNat<256:=s[k].toNat_lt;obtain ⟨i1,i2,hW⟩:=I.out;rw [hd] at i1 i2;rw [Puny.Bq] at i1;clear hd I;by_cases h1:127<s[k].toNat
   ·have hz1:(127:Int)<(s[k].toNat:Int):=jO
    have hno:Puny.Dt s.data.toList=none:=by
     unfold Puny.Dt;rw [<- i2];unfold Puny.Gl;rw [List.any_cons,decide_eq_true h1,Bool.true_or,if_pos rfl]
    have HN:=jH hno;have HW:=jH hW;clear i1 i2 hno hW;go_wp2;go_ret2;exact F8 HN.out (by rw [HW.out];exact jan _ _)
   ·have hz1:(s[k].toNat:Int)<=127:=jO
    rw [Akj h1] at i2;by_cases h2:s[k].toNat=45
    ·rw [if_pos h2] at i1;have hz2:(s[k].toNat:Int)=45:=jO
     have J:Hid (Puny.Bq (s.data.toList.drop (k+1)) (k+1) k=Puny.Bk s.data.toList/\Puny.Gl (s.data.toList.drop (k+1))=Puny.Gl s.data.toList/\w=wr):=⟨i1,i2,hW⟩
     clear i1 i2 h1 h2 hW;go_wp2;go_roundg (s.size - k)
     case measure=>omega
     case rel=>exact ⟨k+1,k,rfl,by go_num,by omega,by omega,by omega,J⟩
    ·rw [if_neg h2] at i1;have hz2:((s[k].toNat:Int) == 45)=false:=by simp;omega
     have J:Hid (Puny.Bq (s.data.toList.drop (k+1)) (k+1) a=Puny.Bk s.data.toList/\Puny.Gl (s.data.toList.drop (k+1))=Puny.Gl s.data.toList/\w=wr):=⟨i1,i2,hW⟩
     clear i1 i2 h1 h2 hW;go_wp2;go_roundg (s.size - k)
     case measure=>omega
     case rel=>exact ⟨k+1,a,rfl,by go_num,by omega,by omega,by omega,J⟩
  ·obtain rfl:k=s.size:=jO
   obtain ⟨i1,i2,rfl⟩:=I.out;rw [List.drop_of_length_le jS] at i1 i2;have hDl:=Puny.Ik s.data.toList;have hDz:a=Puny.Bk s.data.toList:=i1;have hdec:Puny.Dt s.data.toList=Puny.Gj s.size (s.data.toList.drop (Puny.Dn s.data.toList)) 72 true (Puny.start ((s.data.toList.take a).map Puny.Cb)):=by
    unfold Puny.Dt;rw [<- i2,if_neg jD,<- hDz];congr 1
   have htl:Puny.Dn s.data.toList=if a=0 then 0 else a+1:=by unfold Puny.Dn;rw [<- hDz]
   have hal:a=0\/(0<a/\a<s.size):=by
    rw [<- hDz] at hDl;have:a=0\/a<s.size:=by simpa using hDl
    omega
   rw [htl] at hdec;have HD:=jH hdec;clear i1 i2 I hDl hDz hdec htl;go_wp2;go_loopg [4,7] (a+1) (λgk v s7 wr=>∃ k:Nat,s7=.int .i64 k/\k<=a/\a - k<gk/\Hid (Ai w.heap.size v ((s.data.toList.take k).map Puny.Cb) wr/\Below w.heap.size w wr))
   case atStart=>exact ⟨0,rfl,Nat.zero_le _,by omega,⟨Ai.nil _ _,jan _ _⟩⟩
   case round =>
    obtain ⟨k,rfl,hk2,hg2,I⟩:=hrel;by_cases hlt2:k<a
    ·have hkz:(k:Int)<(a:Int):=jO
     have hks:k<s.size:=jO
     have hksz:(k:Int)<(s.size:Int):=jO
     have hub:s[k].toNat<256:=s[k].toNat_lt;have hnx:(s.data.toList.take (k+1)).map Puny.Cb=(s.data.toList.take k).map Puny.Cb ++ [(s[k].toNat:Int)]:=by
      rw [List.take_succ_eq_append_getElem (by simpa using hks),List.map_append];rfl
     have hle:((s.data.toList.take k).map Puny.Cb).length<=1000000:=by rw [jai,jak];omega
     have HN:=jH hnx;clear hnx;go_wp2_with (at_builtin;refine Ap wr 56 21 (.int .i32 0) 4 underlying56 Am rfl jO w.heap.size u4 _ _ I.out.1 I.out.2.size hle 1 jO _ rfl rfl rfl _ _ rfl rfl rfl ?_;intro v3 w3 ho3 hb3;have HO:=jH ho3;have HB3:=jH hb3;clear ho3 hb3);have I2:Hid (Ai w.heap.size v3 ((s.data.toList.take (k+1)).map Puny.Cb) w3/\Below w.heap.size w w3):=by
      refine ⟨?_,I.out.2.trans HB3.out⟩;rw [HN.out];exact Ai.more HO.out rfl rfl
     go_roundg (a - k)
     case measure=>omega
     case rel=>exact ⟨k+1,by go_num,by omega,by omega,I2⟩
    ·obtain rfl:k=a:=jO
     rcases hal with h0 | ⟨h0,h00⟩
     ·subst h0;rw [if_pos (rfl:(0:Nat)=0)] at HD;go_wp2;go_loopg [4,5,8,9,10,11,12,13,14,15] (s.size+1) (λgk v s5 s8 s9 s10 s11 _ _ _ _ wr=>∃ (a:Nat) (r:Puny.Rd) (b:Int) (f:Bool),s5=.int .i64 a/\s8=.int .i64 r.n/\s9=.int .i64 r.i/\s10=.int .i64 b/\s11=.bool f/\a<=s.size/\s.size - a<gk/\0<=r.n/\r.n<=1114111/\0<=r.i/\r.i<=r.out.length/\r.out.length<=a/\0<=b/\b<=5000000000 /\
       Hid (Ai w.heap.size v r.out wr/\Below w.heap.size w wr/\∃ fuel,s.size<=a+fuel/\Puny.Dt s.data.toList=Puny.Gj fuel (s.data.toList.drop a) b f r))
      case atStart=>exact ⟨0,Puny.start ((s.data.toList.take 0).map Puny.Cb),72,true,rfl,rfl,rfl,rfl,rfl,by omega,by omega,(show (0:Int)<=128 by decide),(show (128:Int)<=1114111 by decide),Int.le_refl _,Int.natCast_nonneg _,jaa _,by decide,by decide,⟨I.out.1,I.out.2,s.size,by omega,HD.out⟩⟩
      case round =>
       clear I HD;obtain ⟨a,⟨ro,rn,ri⟩,b,f,rfl,rfl,rfl,rfl,rfl,ha,hg3,hn0,hn1,hi0,hi1,hla,hb0,hb1,I⟩:=hrel;simp only at hn0 hn1 hi0 hi1 hla I;by_cases hlt3:a<s.size
       ·have haz:(a:Int)<(s.size:Int):=jO
        have KN:=Sm (s.extract a s.size) b wr (by simp;omega) jO;rw [extract_drop] at KN;have hd:=Fc s a hlt3;cases hN:Puny.Fg b (s.data.toList.drop a) 36 1 0 0 with
        | none =>
         rw [hN] at KN;have hno:Puny.Dt s.data.toList=none:=by
          obtain ⟨fuel,-,h⟩:=I.out.2.2;rw [h,hd];rw [hd] at hN;exact Puny.M5 hN
         have HK:=jH KN;have HNO:=jH hno;clear KN hno hN hd;go_wp2_with fail;refine HK.out.mono ?_;rintro e w1 ⟨rfl,rfl⟩;simp only [Puny.Mj];go_wp2;go_ret2;exact F8 HNO.out I.out.2.1
        | some p =>
         obtain ⟨d,u⟩:=p;rw [hN] at KN;obtain ⟨hd0,hd1,hu0,hu1⟩:=Puny.Nj b _ _ _ _ _ _ _ hN jD jD;have hu2:u<=s.size - a:=by simpa using hu1
         unfold Puny.De at hd1;have huz:((u:Int) == 0)=false:=by simp;omega
         have HK:=jH KN;have hbad:=λ(r:Puny.Rd) (f:Bool) (fuel:Nat) (h:Puny.Dk r d=false)=>Puny.Pb (k:=fuel) (f:=f) (hd ▸ hN) h;have hgood:=λ(r:Puny.Rd) (f:Bool) (fuel:Nat) (h:Puny.Dk r d=true)=>Puny.Ju (k:=fuel) (f:=f) (hd ▸ hN) h;simp only [<- hd] at hbad hgood;have HBAD:=jH hbad;have HGOOD:=jH hgood;clear KN hN hd hu1 hbad hgood;go_wp2_with fail;refine HK.out.mono ?_;rintro e w1 ⟨rfl,rfl⟩;simp only [Puny.Mj];clear HK;by_cases hov:ri+d<=2147483647
         ·have hsum:0<=ri+d:=jO
          obtain ⟨A4,c4,hv4,hA4⟩:=I.out.1.shape;subst hv4;obtain ⟨L,hL⟩:∃ L,L=ro.length:=⟨_,rfl⟩
          have hq0:=Int.ediv_nonneg hsum (show (0:Int)<=(L:Int)+1 by omega);have hq1:=Int.ediv_le_self ((L:Int)+1) hsum;have hm0:=Int.emod_nonneg (ri+d) (show (L:Int)+1 ≠ 0 by omega);have hm1:=Int.emod_lt_of_pos (ri+d) (show (0:Int)<(L:Int)+1 by omega);obtain ⟨q,hq⟩:∃ q,(ri+d) / ((L:Int)+1)=q:=⟨_,rfl⟩
          obtain ⟨m,hm⟩:∃ m:Nat,(ri+d) % ((L:Int)+1)=(m:Int):=⟨((ri+d) % ((L:Int)+1)).toNat,by omega⟩
          rw [hq] at hq0 hq1;rw [hm] at hm0 hm1;have hML:m<=L:=jO
          have hLz:(L:Int)<=1000:=jO
          have hqz:q<=2147483647:=jO
          have hiL:ri<=(L:Int):=jO
          have KA:=jH (Nx d ((L:Int)+1) f wr jO jO);have hab:=Puny.Ln (delta:=d) (count:=(L:Int)+1) f jO jO;obtain ⟨b',hb'⟩:∃ b',b'=Puny.adapt d ((L:Int)+1) f:=⟨_,rfl⟩
          rw [<- hb'] at KA hab;rw [<- hL];have HB':=jH hb';have HLL:=jH hL;clear hb' hL;go_wp2_with fail;with_reducible refine KA.out.mono ?_
          rintro e w1 ⟨rfl,rfl⟩;clear KA;by_cases hN:rn+q<=1114111
          ·have KR:=jH (Fh (rn+q) wr);have hpos:(0:Int)<=rn+q:=jO
           go_wp2_with fail;with_reducible refine KR.out.mono ?_
           rintro e w1 ⟨rfl,rfl⟩;clear KR;cases hR:Ak (rn+q) with
           | false =>
            have hno:Puny.Dt s.data.toList=none:=by
             obtain ⟨fuel,-,h⟩:=I.out.2.2;rw [h];refine HBAD.out _ _ _ ?_;unfold Puny.Dk;show (decide (ri+d<=Puny.De) && Ak (rn+(ri+d) / ((ro.length:Int)+1)))=false;rw [<- HLL.out,hq,hR,Bool.and_false]
            have HNO:=jH hno;clear hno HBAD HGOOD;go_wp2;go_ret2;exact F8 HNO.out I.out.2.1
           | true =>
            rcases I.out.1.Amb with ⟨hv,hr0⟩ | ⟨g,c,hv,hcL,hg0,hg1⟩
            ·injection hv with hv1 hv2 hv3
             subst hv1 hv3;have hL0:L=0:=by have:=HLL.out;omega
             subst hL0;have hm00:m=0:=jO
             subst hm00;have R1:Hid (Runes (.slice none 0 0) (ro.take 0) wr):=jH (J4 wr);have R2:Hid (Runes (.slice none 0 0) (ro.drop 0) wr):=jH (by rw [hr0];exact J4 wr);have hLa:0<=a:=jO
             clear hr0 hv2;go_wp2_with (first
              | (at_builtin;refine Bu (wr.alloc (.cells #[] 21)) 56 21 (.int .i32 0) 4 underlying56 Am rfl jO wr.heap.size _ _ _ (Gu wr _ (jaa _)) jS jO _ _ (R1.out.Af (Ac _ _)) (Cf _) (by rw [jai,jak];omega) rfl _ _ rfl rfl rfl ?_;intro v3 w3 ho3 hb3;have O3:Hid (Ai wr.heap.size v3 (ro.take 0) w3):=jH (Ai.more (l:=[]) (ns:=ro.take 0) ho3 rfl (by rw [jai]));have B3:=jH ((Ac wr _).trans hb3);clear ho3 hb3)
              | (at_builtin;refine Ap w3 56 21 (.int .i32 0) 4 underlying56 Am rfl jO wr.heap.size v3 _ _ O3.out B3.out.size (by rw [jak];omega) 1 jO _ rfl rfl rfl _ _ rfl rfl rfl ?_;intro v4 w4 ho4 hb4;have O4:Hid (Ai wr.heap.size v4 (ro.take 0 ++ [rn+q]) w4):=jH (Ai.more ho4 rfl rfl);have B4:=jH (B3.out.trans hb4);clear ho4 hb4)
              | (at_builtin;refine Bu w4 56 21 (.int .i32 0) 4 underlying56 Am rfl jO wr.heap.size _ _ _ O4.out B4.out.size (by simp only [jab,jak,List.length_singleton];omega) _ _ (R2.out.Af B4.out) (Cf _) (by rw [jai,jaj];omega) rfl _ _ rfl rfl rfl ?_;intro v5 w5 ho5 hb5;have O5:Hid (Ai wr.heap.size v5 (ro.take 0 ++ [rn+q] ++ ro.drop 0) w5):=jH (Ai.more (ns:=ro.drop 0) ho5 rfl (by rw [jai]));have B5:=jH (B4.out.trans hb5);clear ho5 hb5))
             have J:=Jv I.out.2.2 HGOOD.out HLL.out hq hm HB'.out hov hR hlt3 hu0 O5.out;have I2:=jH (And.intro (J.1.lower I.out.2.1.size) (And.intro (I.out.2.1.trans (B5.out.mono I.out.2.1.size)) J.2.2));have hl2:=J.2.1;clear I O3 O4 O5 J R1 R2 HGOOD HBAD HB';go_roundg (s.size - a)
             case measure=>omega
             case rel=>exact ⟨a+u,⟨ro.take 0 ++ [rn+q] ++ ro.drop 0,rn+q,((0:Nat):Int)+1⟩,b',false,by go_num,rfl,rfl,rfl,rfl,by omega,by omega,(show (0:Int)<=rn+q by omega),(show rn+q<=1114111 by omega),(show (0:Int)<=((0:Nat):Int)+1 by omega),(show ((0:Nat):Int)+1<=(((ro.take 0 ++ [rn+q] ++ ro.drop 0).length:Nat):Int) by rw [hl2];omega),(show (ro.take 0 ++ [rn+q] ++ ro.drop 0).length<=a+u by rw [hl2];omega),by omega,by omega,I2⟩
            ·injection hv with hv1 hv2 hv3
             subst hv1 hv3;have hcz:(L:Int)<=(c4:Int):=by rw [<- HLL.out] at hcL;omega
             have hmz:(m:Int)<=(L:Int):=jO
             have hmcz:(m:Int)<=(c4:Int):=jO
             have hmr:m<=ro.length:=by rw [<- HLL.out];exact hML
             have hLa:L<=a:=by rw [HLL.out];exact hla
             have R1:=jH (I.out.1.front hmr hcL hg1);by_cases hmc:m=c4
             ·subst hmc;obtain rfl:L=m:=jO
              have hdr:ro.drop L=[]:=List.drop_of_length_le (by rw [HLL.out];exact jaa _);have R2:Hid (Runes (.slice (some ⟨g,0,none⟩) 0 0) (ro.drop L) wr):=jH (by rw [hdr];exact ⟨some ⟨g,0,none⟩,0,rfl,jaa _,λe=>(by cases e),λh=>absurd h jS⟩);clear hdr;go_wp2_with (first
               | (at_builtin;refine Bu (wr.alloc (.cells #[] 21)) 56 21 (.int .i32 0) 4 underlying56 Am rfl jO wr.heap.size _ _ _ (Gu wr _ (jaa _)) jS jO _ _ (R1.out.Af (Ac _ _)) (Cf _) (by rw [jai,jak];omega) rfl _ _ rfl rfl rfl ?_;intro v3 w3 ho3 hb3;have O3:Hid (Ai wr.heap.size v3 (ro.take L) w3):=jH (Ai.more (l:=[]) (ns:=ro.take L) ho3 rfl (by rw [jai]));have B3:=jH ((Ac wr _).trans hb3);clear ho3 hb3)
               | (at_builtin;refine Ap w3 56 21 (.int .i32 0) 4 underlying56 Am rfl jO wr.heap.size v3 _ _ O3.out B3.out.size (by rw [jak];omega) 1 jO _ rfl rfl rfl _ _ rfl rfl rfl ?_;intro v4 w4 ho4 hb4;have O4:Hid (Ai wr.heap.size v4 (ro.take L ++ [rn+q]) w4):=jH (Ai.more ho4 rfl rfl);have B4:=jH (B3.out.trans hb4);clear ho4 hb4)
               | (at_builtin;refine Bu w4 56 21 (.int .i32 0) 4 underlying56 Am rfl jO wr.heap.size _ _ _ O4.out B4.out.size (by simp only [jab,jak,List.length_singleton];omega) _ _ (R2.out.Af B4.out) (Cf _) (by rw [jai,jaj];omega) rfl _ _ rfl rfl rfl ?_;intro v5 w5 ho5 hb5;have O5:Hid (Ai wr.heap.size v5 (ro.take L ++ [rn+q] ++ ro.drop L) w5):=jH (Ai.more (ns:=ro.drop L) ho5 rfl (by rw [jai]));have B5:=jH (B4.out.trans hb5);clear ho5 hb5))
              have J:=Jv I.out.2.2 HGOOD.out HLL.out hq hm HB'.out hov hR hlt3 hu0 O5.out;have I2:=jH (And.intro (J.1.lower I.out.2.1.size) (And.intro (I.out.2.1.trans (B5.out.mono I.out.2.1.size)) J.2.2));have hl2:=J.2.1;clear I O3 O4 O5 J R1 R2 HGOOD HBAD HB';go_roundg (s.size - a)
              case measure=>omega
              case rel=>exact ⟨a+u,⟨ro.take L ++ [rn+q] ++ ro.drop L,rn+q,L+1⟩,b',false,by go_num,rfl,rfl,rfl,rfl,by omega,by omega,(show (0:Int)<=rn+q by omega),(show rn+q<=1114111 by omega),(show (0:Int)<=(L:Int)+1 by omega),(show (L:Int)+1<=(((ro.take L ++ [rn+q] ++ ro.drop L).length:Nat):Int) by rw [hl2];omega),(show (ro.take L ++ [rn+q] ++ ro.drop L).length<=a+u by rw [hl2];omega),by omega,by omega,I2⟩
             ·have hmcz2:((c4:Int) == (m:Int))=false:=by simp;omega
              have R2:=I.out.1.back hmr hcL hg1;rw [<- HLL.out] at R2;have R2:=jH R2;go_wp2_with (first
               | (at_builtin;refine Bu (wr.alloc (.cells #[] 21)) 56 21 (.int .i32 0) 4 underlying56 Am rfl jO wr.heap.size _ _ _ (Gu wr _ (jaa _)) jS jO _ _ (R1.out.Af (Ac _ _)) (Cf _) (by rw [jai,jak];omega) rfl _ _ rfl rfl rfl ?_;intro v3 w3 ho3 hb3;have O3:Hid (Ai wr.heap.size v3 (ro.take m) w3):=jH (Ai.more (l:=[]) (ns:=ro.take m) ho3 rfl (by rw [jai]));have B3:=jH ((Ac wr _).trans hb3);clear ho3 hb3)
               | (at_builtin;refine Ap w3 56 21 (.int .i32 0) 4 underlying56 Am rfl jO wr.heap.size v3 _ _ O3.out B3.out.size (by rw [jak];omega) 1 jO _ rfl rfl rfl _ _ rfl rfl rfl ?_;intro v4 w4 ho4 hb4;have O4:Hid (Ai wr.heap.size v4 (ro.take m ++ [rn+q]) w4):=jH (Ai.more ho4 rfl rfl);have B4:=jH (B3.out.trans hb4);clear ho4 hb4)
               | (at_builtin;refine Bu w4 56 21 (.int .i32 0) 4 underlying56 Am rfl jO wr.heap.size _ _ _ O4.out B4.out.size (by simp only [jab,jak,List.length_singleton];omega) _ _ (R2.out.Af B4.out) (Cf _) (by rw [jai,jaj];omega) rfl _ _ rfl rfl rfl ?_;intro v5 w5 ho5 hb5;have O5:Hid (Ai wr.heap.size v5 (ro.take m ++ [rn+q] ++ ro.drop m) w5):=jH (Ai.more (ns:=ro.drop m) ho5 rfl (by rw [jai]));have B5:=jH (B4.out.trans hb5);clear ho5 hb5))
              have J:=Jv I.out.2.2 HGOOD.out HLL.out hq hm HB'.out hov hR hlt3 hu0 O5.out;have I2:=jH (And.intro (J.1.lower I.out.2.1.size) (And.intro (I.out.2.1.trans (B5.out.mono I.out.2.1.size)) J.2.2));have hl2:=J.2.1;clear I O3 O4 O5 J R1 R2 HGOOD HBAD HB';go_roundg (s.size - a)
              case measure=>omega
              case rel=>exact ⟨a+u,⟨ro.take m ++ [rn+q] ++ ro.drop m,rn+q,m+1⟩,b',false,by go_num,rfl,rfl,rfl,rfl,by omega,by omega,(show (0:Int)<=rn+q by omega),(show rn+q<=1114111 by omega),(show (0:Int)<=(m:Int)+1 by omega),(show (m:Int)+1<=(((ro.take m ++ [rn+q] ++ ro.drop m).length:Nat):Int) by rw [hl2];omega),(show (ro.take m ++ [rn+q] ++ ro.drop m).length<=a+u by rw [hl2];omega),by omega,by omega,I2⟩
          ·have hNz:(1114111:Int)<rn+q:=jO
           have hno:Puny.Dt s.data.toList=none:=by
            obtain ⟨fuel,-,h⟩:=I.out.2.2;rw [h];refine HBAD.out _ _ _ ?_;unfold Puny.Dk;show (decide (ri+d<=Puny.De) && Ak (rn+(ri+d) / ((ro.length:Int)+1)))=false;rw [<- HLL.out,hq,(show Ak (rn+q)=false by cases h:Ak (rn+q) with | false=>rfl | true=>rw [An] at h;omega),Bool.and_false]
           have HNO:=jH hno;clear hno HBAD HGOOD;go_wp2;go_ret2;exact F8 HNO.out I.out.2.1
         ·have hovz:(2147483647:Int)<ri+d:=jO
          have hno:Puny.Dt s.data.toList=none:=by
           obtain ⟨fuel,-,h⟩:=I.out.2.2;rw [h];exact HBAD.out _ _ _ (by unfold Puny.Dk Puny.De;rw [decide_eq_false jO];rfl)
          have HNO:=jH hno;clear hno hov HBAD HGOOD;go_wp2;go_ret2;exact F8 HNO.out I.out.2.1
       ·obtain rfl:a=s.size:=jO
        obtain ⟨ho,hb,fuel,-,h⟩:=I.out;rw [List.drop_of_length_le jS,Puny.Gj] at h;obtain ⟨A4,c4,rfl,-⟩:=ho.shape;have HO:=jH ho.Fb;have HB:=jH hb;have HH:=jH h;clear ho hb h I;go_wp2;go_ret2;rw [HH.out];exact ⟨_,_,rfl,HO.out,HB.out⟩
     ·have hkz:(0:Int)<(k:Int):=jO
      rw [if_neg (show ¬ k=0 by omega)] at HD;go_wp2;go_loopg [4,5,8,9,10,11,12,13,14,15] (s.size+1) (λgk v s5 s8 s9 s10 s11 _ _ _ _ wr=>∃ (a:Nat) (r:Puny.Rd) (b:Int) (f:Bool),s5=.int .i64 a/\s8=.int .i64 r.n/\s9=.int .i64 r.i/\s10=.int .i64 b/\s11=.bool f/\a<=s.size/\s.size - a<gk/\0<=r.n/\r.n<=1114111/\0<=r.i/\r.i<=r.out.length/\r.out.length<=a/\0<=b/\b<=5000000000 /\
       Hid (Ai w.heap.size v r.out wr/\Below w.heap.size w wr/\∃ fuel,s.size<=a+fuel/\Puny.Dt s.data.toList=Puny.Gj fuel (s.data.toList.drop a) b f r))
      case atStart =>
       have hl:(Puny.start ((s.data.toList.take k).map Puny.Cb)).out.length<=k+1:=by simp only [Puny.start,jai,jak];omega
       exact ⟨k+1,Puny.start ((s.data.toList.take k).map Puny.Cb),72,true,by go_num,rfl,rfl,rfl,rfl,by omega,by omega,(show (0:Int)<=128 by decide),(show (128:Int)<=1114111 by decide),Int.le_refl _,Int.natCast_nonneg _,hl,by decide,by decide,⟨I.out.1,I.out.2,s.size,by omega,HD.out⟩⟩
      case round =>
       clear I HD;obtain ⟨a,⟨ro,rn,ri⟩,b,f,rfl,rfl,rfl,rfl,rfl,ha,hg3,hn0,hn1,hi0,hi1,hla,hb0,hb1,I⟩:=hrel;simp only at hn0 hn1 hi0 hi1 hla I;by_cases hlt3:a<s.size
       ·have haz:(a:Int)<(s.size:Int):=jO
        have KN:=Sm (s.extract a s.size) b wr (by simp;omega) jO;rw [extract_drop] at KN;have hd:=Fc s a hlt3;cases hN:Puny.Fg b (s.data.toList.drop a) 36 1 0 0 with
        | none =>
         rw [hN] at KN;have hno:Puny.Dt s.data.toList=none:=by
          obtain ⟨fuel,-,h⟩:=I.out.2.2;rw [h,hd];rw [hd] at hN;exact Puny.M5 hN
         have HK:=jH KN;have HNO:=jH hno;clear KN hno hN hd;go_wp2_with fail;refine HK.out.mono ?_;rintro e w1 ⟨rfl,rfl⟩;simp only [Puny.Mj];go_wp2;go_ret2;exact F8 HNO.out I.out.2.1
        | some p =>
         obtain ⟨d,u⟩:=p;rw [hN] at KN;obtain ⟨hd0,hd1,hu0,hu1⟩:=Puny.Nj b _ _ _ _ _ _ _ hN jD jD;have hu2:u<=s.size - a:=by simpa using hu1
         unfold Puny.De at hd1;have huz:((u:Int) == 0)=false:=by simp;omega
         have HK:=jH KN;have hbad:=λ(r:Puny.Rd) (f:Bool) (fuel:Nat) (h:Puny.Dk r d=false)=>Puny.Pb (k:=fuel) (f:=f) (hd ▸ hN) h;have hgood:=λ(r:Puny.Rd) (f:Bool) (fuel:Nat) (h:Puny.Dk r d=true)=>Puny.Ju (k:=fuel) (f:=f) (hd ▸ hN) h;simp only [<- hd] at hbad hgood;have HBAD:=jH hbad;have HGOOD:=jH hgood;clear KN hN hd hu1 hbad hgood;go_wp2_with fail;refine HK.out.mono ?_;rintro e w1 ⟨rfl,rfl⟩;simp only [Puny.Mj];clear HK;by_cases hov:ri+d<=2147483647
         ·have hsum:0<=ri+d:=jO
          obtain ⟨A4,c4,hv4,hA4⟩:=I.out.1.shape;subst hv4;obtain ⟨L,hL⟩:∃ L,L=ro.length:=⟨_,rfl⟩
          have hq0:=Int.ediv_nonneg hsum (show (0:Int)<=(L:Int)+1 by omega);have hq1:=Int.ediv_le_self ((L:Int)+1) hsum;have hm0:=Int.emod_nonneg (ri+d) (show (L:Int)+1 ≠ 0 by omega);have hm1:=Int.emod_lt_of_pos (ri+d) (show (0:Int)<(L:Int)+1 by omega);obtain ⟨q,hq⟩:∃ q,(ri+d) / ((L:Int)+1)=q:=⟨_,rfl⟩
          obtain ⟨m,hm⟩:∃ m:Nat,(ri+d) % ((L:Int)+1)=(m:Int):=⟨((ri+d) % ((L:Int)+1)).toNat,by omega⟩
          rw [hq] at hq0 hq1;rw [hm] at hm0 hm1;have hML:m<=L:=jO
          have hLz:(L:Int)<=1000:=jO
          have hqz:q<=2147483647:=jO
          have hiL:ri<=(L:Int):=jO
          have KA:=jH (Nx d ((L:Int)+1) f wr jO jO);have hab:=Puny.Ln (delta:=d) (count:=(L:Int)+1) f jO jO;obtain ⟨b',hb'⟩:∃ b',b'=Puny.adapt d ((L:Int)+1) f:=⟨_,rfl⟩
          rw [<- hb'] at KA hab;rw [<- hL];have HB':=jH hb';have HLL:=jH hL;clear hb' hL;go_wp2_with fail;with_reducible refine KA.out.mono ?_
          rintro e w1 ⟨rfl,rfl⟩;clear KA;by_cases hN:rn+q<=1114111
          ·have KR:=jH (Fh (rn+q) wr);have hpos:(0:Int)<=rn+q:=jO
           go_wp2_with fail;with_reducible refine KR.out.mono ?_
           rintro e w1 ⟨rfl,rfl⟩;clear KR;cases hR:Ak (rn+q) with
           | false =>
            have hno:Puny.Dt s.data.toList=none:=by
             obtain ⟨fuel,-,h⟩:=I.out.2.2;rw [h];refine HBAD.out _ _ _ ?_;unfold Puny.Dk;show (decide (ri+d<=Puny.De) && Ak (rn+(ri+d) / ((ro.length:Int)+1)))=false;rw [<- HLL.out,hq,hR,Bool.and_false]
            have HNO:=jH hno;clear hno HBAD HGOOD;go_wp2;go_ret2;exact F8 HNO.out I.out.2.1
           | true =>
            rcases I.out.1.Amb with ⟨hv,hr0⟩ | ⟨g,c,hv,hcL,hg0,hg1⟩
            ·injection hv with hv1 hv2 hv3
             subst hv1 hv3;have hL0:L=0:=by have:=HLL.out;omega
             subst hL0;have hm00:m=0:=jO
             subst hm00;have R1:Hid (Runes (.slice none 0 0) (ro.take 0) wr):=jH (J4 wr);have R2:Hid (Runes (.slice none 0 0) (ro.drop 0) wr):=jH (by rw [hr0];exact J4 wr);have hLa:0<=a:=jO
             clear hr0 hv2;go_wp2_with (first
              | (at_builtin;refine Bu (wr.alloc (.cells #[] 21)) 56 21 (.int .i32 0) 4 underlying56 Am rfl jO wr.heap.size _ _ _ (Gu wr _ (jaa _)) jS jO _ _ (R1.out.Af (Ac _ _)) (Cf _) (by rw [jai,jak];omega) rfl _ _ rfl rfl rfl ?_;intro v3 w3 ho3 hb3;have O3:Hid (Ai wr.heap.size v3 (ro.take 0) w3):=jH (Ai.more (l:=[]) (ns:=ro.take 0) ho3 rfl (by rw [jai]));have B3:=jH ((Ac wr _).trans hb3);clear ho3 hb3)
              | (at_builtin;refine Ap w3 56 21 (.int .i32 0) 4 underlying56 Am rfl jO wr.heap.size v3 _ _ O3.out B3.out.size (by rw [jak];omega) 1 jO _ rfl rfl rfl _ _ rfl rfl rfl ?_;intro v4 w4 ho4 hb4;have O4:Hid (Ai wr.heap.size v4 (ro.take 0 ++ [rn+q]) w4):=jH (Ai.more ho4 rfl rfl);have B4:=jH (B3.out.trans hb4);clear ho4 hb4)
              | (at_builtin;refine Bu w4 56 21 (.int .i32 0) 4 underlying56 Am rfl jO wr.heap.size _ _ _ O4.out B4.out.size (by simp only [jab,jak,List.length_singleton];omega) _ _ (R2.out.Af B4.out) (Cf _) (by rw [jai,jaj];omega) rfl _ _ rfl rfl rfl ?_;intro v5 w5 ho5 hb5;have O5:Hid (Ai wr.heap.size v5 (ro.take 0 ++ [rn+q] ++ ro.drop 0) w5):=jH (Ai.more (ns:=ro.drop 0) ho5 rfl (by rw [jai]));have B5:=jH (B4.out.trans hb5);clear ho5 hb5))
             have J:=Jv I.out.2.2 HGOOD.out HLL.out hq hm HB'.out hov hR hlt3 hu0 O5.out;have I2:=jH (And.intro (J.1.lower I.out.2.1.size) (And.intro (I.out.2.1.trans (B5.out.mono I.out.2.1.size)) J.2.2));have hl2:=J.2.1;clear I O3 O4 O5 J R1 R2 HGOOD HBAD HB';go_roundg (s.size - a)
             case measure=>omega
             case rel=>exact ⟨a+u,⟨ro.take 0 ++ [rn+q] ++ ro.drop 0,rn+q,((0:Nat):Int)+1⟩,b',false,by go_num,rfl,rfl,rfl,rfl,by omega,by omega,(show (0:Int)<=rn+q by omega),(show rn+q<=1114111 by omega),(show (0:Int)<=((0:Nat):Int)+1 by omega),(show ((0:Nat):Int)+1<=(((ro.take 0 ++ [rn+q] ++ ro.drop 0).length:Nat):Int) by rw [hl2];omega),(show (ro.take 0 ++ [rn+q] ++ ro.drop 0).length<=a+u by rw [hl2];omega),by omega,by omega,I2⟩
            ·injection hv with hv1 hv2 hv3
             subst hv1 hv3;have hcz:(L:Int)<=(c4:Int):=by rw [<- HLL.out] at hcL;omega
             have hmz:(m:Int)<=(L:Int):=jO
             have hmcz:(m:Int)<=(c4:Int):=jO
             have hmr:m<=ro.length:=by rw [<- HLL.out];exact hML
             have hLa:L<=a:=by rw [HLL.out];exact hla
             have R1:=jH (I.out.1.front hmr hcL hg1);by_cases hmc:m=c4
             ·subst hmc;obtain rfl:L=m:=jO
              have hdr:ro.drop L=[]:=List.drop_of_length_le (by rw [HLL.out];exact jaa _);have R2:Hid (Runes (.slice (some ⟨g,0,none⟩) 0 0) (ro.drop L) wr):=jH (by rw [hdr];exact ⟨some ⟨g,0,none⟩,0,rfl,jaa _,λe=>(by cases e),λh=>absurd h jS⟩);clear hdr;go_wp2_with (first
               | (at_builtin;refine Bu (wr.alloc (.cells #[] 21)) 56 21 (.int .i32 0) 4 underlying56 Am rfl jO wr.heap.size _ _ _ (Gu wr _ (jaa _)) jS jO _ _ (R1.out.Af (Ac _ _)) (Cf _) (by rw [jai,jak];omega) rfl _ _ rfl rfl rfl ?_;intro v3 w3 ho3 hb3;have O3:Hid (Ai wr.heap.size v3 (ro.take L) w3):=jH (Ai.more (l:=[]) (ns:=ro.take L) ho3 rfl (by rw [jai]));have B3:=jH ((Ac wr _).trans hb3);clear ho3 hb3)
               | (at_builtin;refine Ap w3 56 21 (.int .i32 0) 4 underlying56 Am rfl jO wr.heap.size v3 _ _ O3.out B3.out.size (by rw [jak];omega) 1 jO _ rfl rfl rfl _ _ rfl rfl rfl ?_;intro v4 w4 ho4 hb4;have O4:Hid (Ai wr.heap.size v4 (ro.take L ++ [rn+q]) w4):=jH (Ai.more ho4 rfl rfl);have B4:=jH (B3.out.trans hb4);clear ho4 hb4)
               | (at_builtin;refine Bu w4 56 21 (.int .i32 0) 4 underlying56 Am rfl jO wr.heap.size _ _ _ O4.out B4.out.size (by simp only [jab,jak,List.length_singleton];omega) _ _ (R2.out.Af B4.out) (Cf _) (by rw [jai,jaj];omega) rfl _ _ rfl rfl rfl ?_;intro v5 w5 ho5 hb5;have O5:Hid (Ai wr.heap.size v5 (ro.take L ++ [rn+q] ++ ro.drop L) w5):=jH (Ai.more (ns:=ro.drop L) ho5 rfl (by rw [jai]));have B5:=jH (B4.out.trans hb5);clear ho5 hb5))
              have J:=Jv I.out.2.2 HGOOD.out HLL.out hq hm HB'.out hov hR hlt3 hu0 O5.out;have I2:=jH (And.intro (J.1.lower I.out.2.1.size) (And.intro (I.out.2.1.trans (B5.out.mono I.out.2.1.size)) J.2.2));have hl2:=J.2.1;clear I O3 O4 O5 J R1 R2 HGOOD HBAD HB';go_roundg (s.size - a)
              case measure=>omega
              case rel=>exact ⟨a+u,⟨ro.take L ++ [rn+q] ++ ro.drop L,rn+q,L+1⟩,b',false,by go_num,rfl,rfl,rfl,rfl,by omega,by omega,(show (0:Int)<=rn+q by omega),(show rn+q<=1114111 by omega),(show (0:Int)<=(L:Int)+1 by omega),(show (L:Int)+1<=(((ro.take L ++ [rn+q] ++ ro.drop L).length:Nat):Int) by rw [hl2];omega),(show (ro.take L ++ [rn+q] ++ ro.drop L).length<=a+u by rw [hl2];omega),by omega,by omega,I2⟩
             ·have hmcz2:((c4:Int) == (m:Int))=false:=by simp;omega
              have R2:=I.out.1.back hmr hcL hg1;rw [<- HLL.out] at R2;have R2:=jH R2;go_wp2_with (first
               | (at_builtin;refine Bu (wr.alloc (.cells #[] 21)) 56 21 (.int .i32 0) 4 underlying56 Am rfl jO wr.heap.size _ _ _ (Gu wr _ (jaa _)) jS jO _ _ (R1.out.Af (Ac _ _)) (Cf _) (by rw [jai,jak];omega) rfl _ _ rfl rfl rfl ?_;intro v3 w3 ho3 hb3;have O3:Hid (Ai wr.heap.size v3 (ro.take m) w3):=jH (Ai.more (l:=[]) (ns:=ro.take m) ho3 rfl (by rw [jai]));have B3:=jH ((Ac wr _).trans hb3);clear ho3 hb3)
               | (at_builtin;refine Ap w3 56 21 (.int .i32 0) 4 underlying56 Am rfl jO wr.heap.size v3 _ _ O3.out B3.out.size (by rw [jak];omega) 1 jO _ rfl rfl rfl _ _ rfl rfl rfl ?_;intro v4 w4 ho4 hb4;have O4:Hid (Ai wr.heap.size v4 (ro.take m ++ [rn+q]) w4):=jH (Ai.more ho4 rfl rfl);have B4:=jH (B3.out.trans hb4);clear ho4 hb4)
               | (at_builtin;refine Bu w4 56 21 (.int .i32 0) 4 underlying56 Am rfl jO wr.heap.size _ _ _ O4.out B4.out.size (by simp only [jab,jak,List.length_singleton];omega) _ _ (R2.out.Af B4.out) (Cf _) (by rw [jai,jaj];omega) rfl _ _ rfl rfl rfl ?_;intro v5 w5 ho5 hb5;have O5:Hid (Ai wr.heap.size v5 (ro.take m ++ [rn+q] ++ ro.drop m) w5):=jH (Ai.more (ns:=ro.drop m) ho5 rfl (by rw [jai]));have B5:=jH (B4.out.trans hb5);clear ho5 hb5))
              have J:=Jv I.out.2.2 HGOOD.out HLL.out hq hm HB'.out hov hR hlt3 hu0 O5.out;have I2:=jH (And.intro (J.1.lower I.out.2.1.size) (And.intro (I.out.2.1.trans (B5.out.mono I.out.2.1.size)) J.2.2));have hl2:=J.2.1;clear I O3 O4 O5 J R1 R2 HGOOD HBAD HB';go_roundg (s.size - a)
              case measure=>omega
              case rel=>exact ⟨a+u,⟨ro.take m ++ [rn+q] ++ ro.drop m,rn+q,m+1⟩,b',false,by go_num,rfl,rfl,rfl,rfl,by omega,by omega,(show (0:Int)<=rn+q by omega),(show rn+q<=1114111 by omega),(show (0:Int)<=(m:Int)+1 by omega),(show (m:Int)+1<=(((ro.take m ++ [rn+q] ++ ro.drop m).length:Nat):Int) by rw [hl2];omega),(show (ro.take m ++ [rn+q] ++ ro.drop m).length<=a+u by rw [hl2];omega),by omega,by omega,I2⟩
          ·have hNz:(1114111:Int)<rn+q:=jO
           have hno:Puny.Dt s.data.toList=none:=by
            obtain ⟨fuel,-,h⟩:=I.out.2.2;rw [h];refine HBAD.out _ _ _ ?_;unfold Puny.Dk;show (decide (ri+d<=Puny.De) && Ak (rn+(ri+d) / ((ro.length:Int)+1)))=false;rw [<- HLL.out,hq,(show Ak (rn+q)=false by cases h:Ak (rn+q) with | false=>rfl | true=>rw [An] at h;omega),Bool.and_false]
           have HNO:=jH hno;clear hno HBAD HGOOD;go_wp2;go_ret2;exact F8 HNO.out I.out.2.1
         ·have hovz:(2147483647:Int)<ri+d:=jO
          have hno:Puny.Dt s.data.toList=none:=by
           obtain ⟨fuel,-,h⟩:=I.out.2.2;rw [h];exact HBAD.out _ _ _ (by unfold Puny.Dk Puny.De;rw [decide_eq_false jO];rfl)
          have HNO:=jH hno;clear hno hov HBAD HGOOD;go_wp2;go_ret2;exact F8 HNO.out I.out.2.1
       ·obtain rfl:a=s.size:=jO
        obtain ⟨ho,hb,fuel,-,h⟩:=I.out;rw [List.drop_of_length_le jS,Puny.Gj] at h;obtain ⟨A4,c4,rfl,-⟩:=ho.shape;have HO:=jH ho.Fb;have HB:=jH hb;have HH:=jH h;clear ho hb h I;go_wp2;go_ret2;rw [HH.out];exact ⟨_,_,rfl,HO.out,HB.out⟩
end
section
open Go.RowKit Utf
namespace Puny
def Lj (c:UInt8):Option Int:=valOf (Cb c)
theorem Ad4 {n:Int} (h:0<=n/\n<=35):Cb (Ia n)=Lx n:=Ix h
theorem Rz {n:Int} (h:0<=n/\n<=35):Lj (Ia n)=some n:=by
 unfold Lj;rw [Ad4 h];unfold Lx;by_cases h1:n<26
 ·rw [if_pos h1];unfold valOf;rw [if_pos jO];congr 1;omega
 ·rw [if_neg h1];unfold valOf;rw [if_neg jO,if_neg jO,if_pos jO];congr 1;omega
theorem Q5:∀ (f:Nat) (n k b:Int),0<=n->n.toNat<f->∀ x ∈ digits n k b,0<=x/\x<=35
 | 0,_,_,_,_,h=>by omega
 | f+1,n,k,b,hn,hf=>by
  have ht:=Ht k b;by_cases h:n<thr k b
  ·rw [E6 h];intro x hx;rw [List.mem_singleton] at hx;omega
  ·have hl:=less n (thr k b) ht.1 ht.2 jO;have hp:=parts n (thr k b) ht.1 ht.2;rw [F0 jO];intro x hx;rcases jal.1 hx with rfl | hx
   · omega
   · exact Q5 f _ _ _ hl.1 jO x hx
theorem Kk:∀ (ds:List Int) (b c:Int) (f:Bool),(∀ d ∈ ds,0<=d)->∀ x ∈ emit adapt ds b c f,0<=x/\x<=35
 | [],_,_,_,_=>λx hx=>by cases hx
 | d::ds,b,c,f,h=>by
  intro x hx;rw [Pl] at hx;rcases jap.1 hx with hx | hx
  · exact Q5 (d.toNat+1) d 36 b (h d jS) jO x hx
  · exact Kk ds _ _ _ (λy hy=>h y (by simp [hy])) x hx
theorem Mb:∀ (ds:List Int) (b c:Int) (f:Bool),ds.length<=(emit adapt ds b c f).length
 | [],_,_,_=>jaa _
 | d::ds,b,c,f=>by
  rw [Pl,jab,jac];have:=Mb ds (adapt d (c+1) f) (c+1) false;have:=List.length_pos_iff.2 (Q6 d 36 b);omega
theorem Ab8 (b:Int):∀ (vs:List Int) (k w s:Int) (u:Nat),(∀ x ∈ vs,0<=x/\x<=35)->Fg b (vs.map Ia) k w s u=num b vs k w s u
 | [],_,_,_,_,_=>rfl
 | x::vs,k,w,s,u,h=>by
  have hx:=Rz (h x jS);unfold Lj at hx;have ih:=λk w s u=>Ab8 b vs k w s u (λy hy=>h y (by simp [hy]));rw [List.map_cons,Fg,num,hx];simp only [ih]
theorem Sl (b:Int):∀ (bs:List UInt8) (k w s:Int) (u:Nat) (x:Int) (v:Nat),Fg b bs k w s u=some (x,v) ->
  ∃ vs:List Int,(bs.take (v - u)).map Lj=vs.map some/\num b vs k w s u=some (x,v)/\u+vs.length=v
 | [],_,_,_,_,_,_,h=>by cases h
 | c::l,k,w,s,u,x,v,h=>by
  unfold Fg at h;cases hv:valOf (Cb c) with
  | none=>rw [hv] at h;cases h
  | some d =>
   rw [hv] at h;simp only at h;split at h
   ·cases h
   ·rename_i hlim
    split at h
    ·rename_i ht
     have e:=Option.some.inj h;injection e with e1 e2
     subst e1 e2;refine ⟨[d],?_,?_,by simp⟩
     ·rw [show u+1 - u=1 by omega];simp [Lj,hv]
     ·rw [num,if_neg hlim,if_pos ht]
    ·rename_i ht
     obtain ⟨vs,h1,h2,h3⟩:=Sl b l _ _ _ _ _ _ h;refine ⟨d::vs,?_,?_,by simp only [jac];omega⟩
     ·rw [show v - u=(v - (u+1))+1 by omega,List.take_succ_cons,List.map_cons,List.map_cons,h1];simp [Lj,hv]
     ·rw [num,if_neg hlim,if_neg ht,h2]
theorem Ag6 {c:UInt8} {d:Int} (h:Lj c=some d):0<=d/\d<36:=by have:=Qm h;omega
theorem Aoy {bs:List UInt8} {vs:List Int} (h:bs.map Lj=vs.map some):∀ d ∈ vs,0<=d/\d<36:=by
 intro d hd;have:some d ∈ bs.map Lj:=by rw [h];exact List.mem_map.2 ⟨d,hd,rfl⟩
 obtain ⟨c,-,hc⟩:=List.mem_map.1 this;exact Ag6 hc
theorem Air {b:Int} {bs:List UInt8} {d:Int} {m:Nat} (h:Fg b bs 36 1 0 0=some (d,m)):0<=d/\1<=m/\m<=bs.length/\(bs.take m).map Lj=(digits d 36 b).map some:=by
 have hb:=Nj b _ _ _ _ _ _ _ h jD jD;obtain ⟨vs,h1,h2,h3⟩:=Sl b _ _ _ _ _ _ _ h;rw [Nat.sub_zero] at h1;obtain ⟨n,j,hn,hx,hv,hj,-,ht⟩:=Vn b vs 36 1 0 0 d m (Aoy h1) h2;obtain rfl:d=n:=jO
 rw [List.take_of_length_le jO] at ht;rw [ht] at h1;exact ⟨hn,by omega,by omega,h1⟩
theorem mem_insert {l:List Int} {k:Nat} {x y:Int} (hk:k<=l.length) (h:y ∈ l):y ∈ l.insertIdx k x:=by
 rw [Nc l k x hk];rw [<- List.take_append_drop k l] at h;rcases jap.1 h with h | h
 · exact jap.2 (.inl h)
 · exact jap.2 (.inr (List.mem_cons_of_mem _ h))
theorem Ajk {r:Rd} {d:Int}:(Bt r d).n ∈ (Bt r d).out:=by rw [J3];simp
theorem Afn {r:Rd} {d y:Int} (h:y ∈ r.out):y ∈ (Bt r d).out:=by
 have h1:=Int.emod_nonneg (r.i+d) (b:=r.out.length+1) jO;have h2:=Int.emod_lt_of_pos (r.i+d) (b:=r.out.length+1) jO;exact mem_insert jO h
theorem Yl:∀ {ds:List Int} {r:Rd} {y:Int},y ∈ r.out->y ∈ (F6 r ds).out
 | [],_,_,h=>h
 | _::ds,_,_,h=>Yl (ds:=ds) (Afn h)
theorem Ai3 (r:Rd) (d:Int) (ds:List Int):F6 r (d::ds)=F6 (Bt r d) ds:=rfl
theorem Xp:∀ (ds:List Int) (r:Rd) (b:Int) (f:Bool) (fuel:Nat),(∀ d ∈ ds,0<=d)->0<=r.n->0<=r.i->r.out.length+ds.length<=112->(∀ x ∈ (F6 r ds).out,Ak x=true)->ds.length<=fuel ->
  Gj fuel (Cg ds b r.out.length f) b f r=some (F6 r ds).out
 | [],r,b,f,fuel,_,_,_,_,_,_=>by unfold Cg emit;cases fuel<;>rfl
 | d::ds,r,b,f,fuel,hd,hn,hi,hlen,hR,hf=>by
  obtain ⟨k,rfl⟩:∃ k,fuel=k+1:=⟨fuel - 1,by simp only [jac] at hf;omega⟩
  have hd0:=hd d jS;have hn1:=hR _ (Yl (ds:=ds) (Ajk (r:=r) (d:=d)));have hr1:=(An _).1 hn1;have hL:r.out.length<=111:=by simp only [jac] at hlen;omega
  have hq:(Bt r d).n=r.n+(r.i+d) / (r.out.length+1):=rfl;have hdm:=Int.mul_ediv_add_emod (r.i+d) (r.out.length+1);have hm1:=Int.emod_lt_of_pos (r.i+d) (b:=r.out.length+1) jO;have hm0:=Int.emod_nonneg (r.i+d) (b:=r.out.length+1) jO;have hqb:(r.i+d) / (r.out.length+1)<=1114111:=jO
  have hqn:0<=(r.i+d) / (r.out.length+1):=Int.ediv_nonneg jO jO;have hmul:((r.out.length:Int)+1)*((r.i+d) / (r.out.length+1))<=112*1114111:=Int.mul_le_mul jO hqb hqn jD;have hsum:r.i+d<=126322567:=jO
  have hok:Dk r d=true:=by
   unfold Dk De;rw [<- hq,hn1,decide_eq_true jO];rfl
  have htl:Cg (d::ds) b r.out.length f=Bg d 36 b ++ Cg ds (adapt d ((r.out.length:Int)+1) f) ((r.out.length:Int)+1) false:=Rv _ _ _ _ _;have hval:∀ x ∈ digits d 36 b ++ emit adapt ds (adapt d ((r.out.length:Int)+1) f) ((r.out.length:Int)+1) false,0<=x/\x<=35:=by
   intro x hx;rcases jap.1 hx with hx | hx
   ·exact Q5 (d.toNat+1) d 36 b hd0 jO x hx
   ·exact Kk ds _ _ _ (λy hy=>hd y (by simp [hy])) x hx
  have hnum:Fg b (Cg (d::ds) b r.out.length f) 36 1 0 0=some (d,(Bg d 36 b).length):=by
   have h1:=Oc b 126322567 jD (d.toNat+1) d 36 1 0 0 (emit adapt ds (adapt d ((r.out.length:Int)+1) f) ((r.out.length:Int)+1) false) jO hd0 jD jD jO jD (λ_=>⟨0,rfl⟩);rw [<- Ab8 b _ _ _ _ _ hval] at h1;rw [show Cg (d::ds) b r.out.length f=(digits d 36 b ++ emit adapt ds (adapt d ((r.out.length:Int)+1) f) ((r.out.length:Int)+1) false).map Ia from rfl,h1];simp [Bg]
  have hne:∃ x l,Cg (d::ds) b r.out.length f=x::l:=by
   cases hc:Cg (d::ds) b r.out.length f with
   | nil =>
    have h1:=congrArg List.length hc;rw [htl,jab] at h1;have h2:(Bg d 36 b).length=(digits d 36 b).length:=by simp [Bg]
    have h3:=List.length_pos_iff.2 (Q6 d 36 b);simp only [List.length_nil] at h1;omega
   | cons x l=>exact ⟨x,l,rfl⟩
  obtain ⟨x,l,hxl⟩:=hne;have hdrop:(Cg (d::ds) b r.out.length f).drop (Bg d 36 b).length=Cg ds (adapt d ((r.out.length:Int)+1) f) ((r.out.length:Int)+1) false:=by rw [htl,List.drop_left]
  rw [hxl] at hnum hdrop ⊢;rw [Ju hnum hok,hdrop,Ai3];have hl2:=Ys r d;have ih:=Xp ds (Bt r d) (adapt d ((r.out.length:Int)+1) f) false k (λy hy=>hd y (by simp [hy])) jO (by show 0<=(r.i+d) % (r.out.length+1)+1;omega) (by rw [hl2];simp only [jac] at hlen;omega) hR (by simp only [jac] at hf;omega);rw [hl2] at ih;exact ih
end Puny
end
section
open Go.RowKit Utf
namespace Puny
def Mo (b:UInt8):UInt8:=if 65<=b.toNat/\b.toNat<=90 then UInt8.ofNat (b.toNat+32) else b
theorem Hi:∀ (t:List UInt8) (k a:Nat),(∀ c ∈ t,c.toNat ≠ 45)->Bq t k a=a
 | [],_,_,_=>rfl
 | c::t,k,a,h=>by
  unfold Bq;rw [if_neg (h c jS),Hi t _ _ λx hx=>h x (by simp [hx])]
theorem Fp:∀ (x y:List UInt8) (k a:Nat),Bq (x ++ y) k a=Bq y (k+x.length) (Bq x k a)
 | [],y,k,a=>rfl
 | c::x,y,k,a=>by
  rw [jah,Bq,Bq,Fp x y,jac];congr 1;omega
theorem Ls:∀ (t:List UInt8) (k a:Nat),Bq t k a=a\/∃ j,Bq t k a=k+j/\∃ h:j<t.length,(t[j]).toNat=45
 | [],_,_=>.inl rfl
 | c::t,k,a=>by
  unfold Bq;by_cases hc:c.toNat=45
  ·rw [if_pos hc];rcases Ls t (k+1) k with h | ⟨j,h1,h2,h3⟩
   · exact .inr ⟨0,by rw [h];rfl,by simp,hc⟩
   · exact .inr ⟨j+1,by rw [h1];omega,by simp only [jac];omega,by simpa using h3⟩
  ·rw [if_neg hc];rcases Ls t (k+1) a with h | ⟨j,h1,h2,h3⟩
   · exact .inl h
   · exact .inr ⟨j+1,by rw [h1];omega,by simp only [jac];omega,by simpa using h3⟩
theorem Age {bs:List UInt8} (h:Bk bs ≠ 0):bs=bs.take (Bk bs) ++ [45] ++ bs.drop (Bk bs+1):=by
 rcases Ls bs 0 0 with h0 | ⟨j,h1,h2,h3⟩
 ·exact absurd h0 h
 ·have e:Bk bs=j:=by unfold Bk;rw [h1];omega
  have e45:bs[j]=45:=by
   apply UInt8.toNat_inj.1;rw [h3];rfl
  rw [e];rw [jaq,List.singleton_append,<- e45,<- List.drop_eq_getElem_cons h2,List.take_append_drop]
theorem Ad3 {n:Int} (h:0<=n/\n<=35):(Ia n).toNat ≠ 45/\(Ia n).toNat<128:=by
 have:=Ix h;unfold Lx at this;split at this<;>omega
theorem Tc {ds:List Int} (b c:Int) (f:Bool) (h:∀ d ∈ ds,0<=d):∀ x ∈ Cg ds b c f,x.toNat ≠ 45/\x.toNat<128:=by
 intro x hx;obtain ⟨v,hv,rfl⟩:=List.mem_map.1 hx;exact Ad3 (Kk ds b c f h v hv)
theorem Z0 {m:Int} {l:List Int} {x:Int} (h:x ∈ lt m l):x ∈ l/\x<m:=by
 unfold lt at h;have:=List.mem_filter.1 h;exact ⟨this.1,by simpa using this.2⟩
theorem Acn {l:List Int} (h:∀ x ∈ l,0<=x):(Bd l).map Cb=lt 128 l:=by
 unfold Bd;rw [List.map_map];refine (List.map_congr_left λx hx=>?_).trans (List.map_id _);have:=Z0 hx;have h0:=h x this.1;show ((UInt8.ofNat x.toNat).toNat:Int)=x;rw [UInt8.toNat_ofNat_of_lt' (by show x.toNat<256;omega)];omega
theorem Ai0 {l:List Int} (h:∀ x ∈ l,0<=x):∀ c ∈ Bd l,c.toNat<128:=by
 intro c hc;unfold Bd at hc;obtain ⟨x,hx,rfl⟩:=List.mem_map.1 hc;have:=Z0 hx;have h0:=h x this.1;rw [UInt8.toNat_ofNat_of_lt' (by show x.toNat<256;omega)];omega
theorem V7 {l:List Int} (h:Ad l=true):∀ x ∈ l,Ak x=true:=by
 unfold Ad at h;rwa [jar] at h
theorem Rq {l:List Int} (h:Ad l=true):∀ x ∈ l,0<=x:=λx hx=>((An x).1 (V7 h x hx)).1
theorem Gn {l:List Int} (h:∀ x ∈ l,x<1114112):∀ d ∈ Ey l,0<=d:=Ml l _ _ _ (Kh l h) jD
theorem Lv {l:List Int} (h:Ad l=true):(F6 (start (lt 128 l)) (Ey l)).out=l:=Ws l _ (Kh l (Em h))
theorem Iw {l:List Int} (h:Ad l=true):(lt 128 l).length+(Ey l).length=l.length:=by
 have h1:=Qb (Ey l) (start (lt 128 l)) (Wh λx hx=>(Z0 hx).2) (Gn (Em h));rw [Lv h] at h1;exact h1.symm
theorem Ao0 {bs:List UInt8} (h:∀ c ∈ bs,c.toNat<128):Gl bs=false:=by
 unfold Gl;rw [List.any_eq_false];intro c hc;have:=h c hc;simp;omega
theorem Agm {l:List Int} (h:Ad l=true):∀ c ∈ Bb l,c.toNat<128:=by
 intro c hc;unfold Bb at hc;rcases jap.1 hc with hc | hc
 ·rcases jap.1 hc with hc | hc
  ·exact Ai0 (Rq h) c hc
  ·unfold Hh at hc;split at hc
   · cases hc
   · rw [List.mem_singleton] at hc;subst hc;decide
 ·exact (Tc _ _ _ (Gn (Em h)) c hc).2
theorem Ah0 {l:List Int} (h:Ad l=true):Bk (Bb l)=(Bd l).length/\(Bb l).drop (Dn (Bb l))=Cg (Ey l) 72 (lt 128 l).length true:=by
 have hno:=λc hc=>(Tc 72 (lt 128 l).length true (Gn (Em h)) c hc).1;have hpl:(Bd l).length=(lt 128 l).length:=by unfold Bd;rw [jai]
 by_cases h0:(lt 128 l).length=0
 ·have hp:Bd l=[]:=List.eq_nil_of_length_eq_zero jO;have he:Bb l=Cg (Ey l) 72 (lt 128 l).length true:=by unfold Bb Hh;rw [hp,if_pos h0];rfl
  have hd:Bk (Bb l)=0:=by rw [he];exact Hi _ _ _ hno
  refine ⟨by rw [hd,hp];rfl,?_⟩;unfold Dn;rw [hd,if_pos rfl,he,List.drop_zero]
 ·have he:Bb l=Bd l ++ [45] ++ Cg (Ey l) 72 (lt 128 l).length true:=by unfold Bb Hh;rw [if_neg h0]
  have hd:Bk (Bb l)=(Bd l).length:=by
   unfold Bk;rw [he,Fp,Hi _ _ _ hno,Fp];rw [Bq,Bq,if_pos jD];omega
  refine ⟨hd,?_⟩;unfold Dn;rw [hd,if_neg jO,he];rw [show (Bd l).length+1=(Bd l ++ [45]).length by simp,List.drop_left]
theorem Hz {l:List Int} (h:Ad l=true) (hn:l.length<=110):Dt (Bb l)=some l:=by
 obtain ⟨h1,h2⟩:=Ah0 h;have hl:=Iw h;have htk:(Bb l).take (Bd l).length=Bd l:=by unfold Bb;rw [jaq,List.take_left]
 have hfu:(Ey l).length<=(Bb l).length:=by
  have:(Cg (Ey l) 72 (lt 128 l).length true).length<=(Bb l).length:=by unfold Bb;rw [jab];omega
  have h3:=Mb (Ey l) 72 (lt 128 l).length true;unfold Cg at this;rw [jai] at this;omega
 unfold Dt;rw [Ao0 (Agm h),if_neg jD,h2,h1,htk,Acn (Rq h)];have key:=Xp (Ey l) (start (lt 128 l)) 72 true (Bb l).length (Gn (Em h)) (show (0:Int)<=128 by decide) (Int.le_refl 0) (by show (lt 128 l).length+_<=112;omega) (by rw [Lv h];exact V7 h) hfu;rw [Lv h] at key;exact key
theorem Anr {a b:List Int} (ha:Ad a=true) (hb:Ad b=true) (hna:a.length<=110) (hnb:b.length<=110) (h:Bb a=Bb b):a=b:=by
 have h1:=Hz ha hna;rw [h,Hz hb hnb] at h1;exact (Option.some.inj h1).symm
theorem Q4:∀ (fuel:Nat) (bs:List UInt8) (b:Int) (f:Bool) (r:Rd) (out:List Int),Gj fuel bs b f r=some out->128<=r.n->0<=r.i->(∀ x ∈ r.out,Ak x=true) ->
  ∃ ds:List Int,(∀ d ∈ ds,0<=d)/\out=(F6 r ds).out/\bs.map Lj=(emit adapt ds b r.out.length f).map some/\(∀ x ∈ out,Ak x=true)/\lt 128 out=lt 128 r.out
 | fuel,[],b,f,r,out,h,_,_,hr=>by
  have:some r.out=some out:=by cases fuel<;>exact h
  have:=Option.some.inj this;subst this;exact ⟨[],(λd hd=>by cases hd),rfl,rfl,hr,rfl⟩
 | 0,_::_,_,_,_,_,h,_,_,_=>by cases h
 | k+1,x::l,b,f,r,out,h,hn,hi,hr=>by
  cases hN:Fg b (x::l) 36 1 0 0 with
  | none=>rw [M5 hN] at h;cases h
  | some p =>
   obtain ⟨d,m⟩:=p;cases hok:Dk r d with
   | false=>rw [Pb hN hok] at h;cases h
   | true =>
    rw [Ju hN hok] at h;obtain ⟨hd0,hm1,hml,hdig⟩:=Air hN;have hq:(Bt r d).n=r.n+(r.i+d) / (r.out.length+1):=rfl;have hqn:0<=(r.i+d) / (r.out.length+1):=Int.ediv_nonneg jO jO;have hm0:=Int.emod_nonneg (r.i+d) (b:=r.out.length+1) jO;have hnr:Ak (Bt r d).n=true:=by
     unfold Dk at hok;rw [jag] at hok;rw [hq];exact hok.2
    have hout:=J3 r d;have hmem:∀ y ∈ (Bt r d).out,y=(Bt r d).n\/y ∈ r.out:=by
     intro y hy;rw [hout] at hy;rcases jap.1 hy with hy | hy
     ·exact .inr (List.mem_of_mem_take hy)
     ·rcases jal.1 hy with hy | hy
      · exact .inl hy
      · exact .inr (List.mem_of_mem_drop hy)
    have hlt:lt 128 (Bt r d).out=lt 128 r.out:=by
     rw [hout];unfold lt;rw [List.filter_append,List.filter_cons_of_neg (by simp;omega),<- List.filter_append,List.take_append_drop]
    obtain ⟨ds,h1,h2,h3,h4,h5⟩:=Q4 k _ _ _ (Bt r d) out h jO (by show 0<=(r.i+d) % (r.out.length+1)+1;omega) (λy hy=>by rcases hmem y hy with rfl | hy;exact hnr;exact hr y hy);refine ⟨d::ds,?_,h2,?_,h4,by rw [h5,hlt]⟩
    ·intro e he;rcases jal.1 he with rfl | he
     ·exact hd0
     ·exact h1 e he
    ·rw [Pl,List.map_append,<- hdig];rw [Ys] at h3;rw [show ((r.out.length+1:Nat):Int)=(r.out.length:Int)+1 by omega] at h3;rw [<- h3,<- List.map_append,List.take_append_drop]
theorem Qh {c:UInt8} {v:Int} (h:Lj c=some v):Mo c=Ia v:=by
 have hc:=Dp c;have hv:=Ag6 h;have hd:=Ix (n:=v) jO;apply UInt8.toNat_inj.1;unfold Lj valOf Cb at h;unfold Lx at hd;unfold Mo;split at h
 ·have:=Option.some.inj h;rw [if_neg jO];split at hd<;>omega
 ·split at h
  ·have:=Option.some.inj h;rw [if_pos jO,UInt8.toNat_ofNat_of_lt' (by show c.toNat+32<256;omega)];split at hd<;>omega
  ·split at h
   ·have:=Option.some.inj h;rw [if_neg jO];split at hd<;>omega
   ·cases h
theorem Wc {v:Int} (h:0<=v/\v<=35):Mo (Ia v)=Ia v:=Qh (Rz h)
theorem Afp {bs:List UInt8} {vs:List Int} (h:bs.map Lj=vs.map some):bs.map Mo=vs.map Ia:=by
 induction bs generalizing vs with
 | nil =>
  cases vs with
  | nil=>rfl
  | cons v vs=>cases h
 | cons c bs ih =>
  cases vs with
  | nil=>cases h
  | cons v vs =>
   rw [List.map_cons,List.map_cons] at h;injection h with h1 h2
   rw [List.map_cons,List.map_cons,Qh h1,ih h2]
theorem Aqw {m:Int} {l:List Int} (h:∀ x ∈ l,x<m):lt m l=l:=Zy h
theorem Tl {bs:List UInt8} {l:List Int} (h:Dt bs=some l):Ad l=true/\(Bb l).map Mo=bs.map Mo/\l.length<=bs.length:=by
 unfold Dt at h;cases hw:Gl bs with
 | true=>rw [hw] at h;cases h
 | false =>
  rw [hw,if_neg jD] at h;have hb:∀ c ∈ bs,c.toNat<128:=by
   intro c hc;unfold Gl at hw;rw [List.any_eq_false] at hw;have:=hw c hc;simp at this;omega
  have hp:∀ x ∈ (bs.take (Bk bs)).map Cb,0<=x/\x<128:=by
   intro x hx;obtain ⟨c,hc,rfl⟩:=List.mem_map.1 hx;have:=hb c (List.mem_of_mem_take hc);unfold Cb;omega
  obtain ⟨ds,h1,h2,h3,h4,h5⟩:=Q4 _ _ _ _ _ _ h (Int.le_refl 128) (Int.le_refl 0) (λx hx=>(An x).2 (by have:=hp x hx;omega));have hR:Ad l=true:=by unfold Ad;rw [jar];exact h4
  have hpl:lt 128 l=(bs.take (Bk bs)).map Cb:=by rw [h5];exact Zy λx hx=>(hp x hx).2
  have hds:Ey l=ds:=Afd (λx hx=>(hp x hx).2) h1 h2.symm hpl (Kh l (Em hR));have hlen:(lt 128 l).length=(bs.take (Bk bs)).length:=by rw [hpl,jai]
  have hpb:Bd l=bs.take (Bk bs):=by
   unfold Bd;rw [hpl,List.map_map];refine (List.map_congr_left λc _=>?_).trans (List.map_id _);show UInt8.ofNat ((c.toNat:Int)).toNat=c;rw [Int.toNat_natCast];exact UInt8.ofNat_toNat
  have hso:(start ((bs.take (Bk bs)).map Cb)).out.length=(lt 128 l).length:=by rw [hpl];rfl
  rw [hso] at h3;have htl:(Cg (Ey l) 72 (lt 128 l).length true).map Mo=(bs.drop (Dn bs)).map Mo:=by
   rw [Afp h3,hds];unfold Cg;rw [List.map_map];exact List.map_congr_left λv hv=>Wc (Kk ds _ _ _ h1 v hv)
  have hdl:=Iw hR;have hll:ds.length<=(bs.drop (Dn bs)).length:=by
   have e1:=congrArg List.length h3;rw [jai,jai] at e1;have:=Mb ds 72 (lt 128 l).length true;omega
  refine ⟨hR,?_,?_⟩
  ·unfold Bb;rw [List.map_append,htl,List.map_append,hpb];by_cases h0:Bk bs=0
   ·have:(lt 128 l).length=0:=by rw [hlen,h0];rfl
    unfold Hh Dn;rw [if_pos this,if_pos h0,h0];rfl
   ·have h7:¬ (lt 128 l).length=0:=by
     have:=Ik bs;rw [hlen,jak];omega
    unfold Hh Dn;rw [if_neg h7,if_neg h0,<- List.map_append,<- List.map_append,<- Age h0]
  ·have h8:=Y2 bs;have h9:=Ik bs;rw [jaj] at hll;rw [jak] at hlen;rw [hds] at hdl;unfold Dn at hll h8;split at hll<;>omega
theorem Aqr {bs:List UInt8} (h:∀ c ∈ bs,c.toNat<128) (hn:bs ≠ []):Bb (bs.map Cb)=bs ++ [45]:=by
 have hl:lt 128 (bs.map Cb)=bs.map Cb:=Zy λx hx=>by
  obtain ⟨c,hc,rfl⟩:=List.mem_map.1 hx;have:=h c hc;unfold Cb;omega
 have hR:Ad (bs.map Cb)=true:=by
  unfold Ad;rw [jar];intro x hx;obtain ⟨c,hc,rfl⟩:=List.mem_map.1 hx;have:=h c hc;rw [An];unfold Cb;omega
 have hd:=Iw hR;rw [hl] at hd;have h0:Ey (bs.map Cb)=[]:=List.eq_nil_of_length_eq_zero jO;have hpos:0<bs.length:=List.length_pos_iff.2 hn;unfold Bb Hh Bd;rw [hl,h0,if_neg (by rw [jai];omega),List.map_map];have:bs.map ((λx:Int=>UInt8.ofNat x.toNat) ∘ Cb)=bs:=by
  refine (List.map_congr_left λc _=>?_).trans (List.map_id _);show UInt8.ofNat ((c.toNat:Int)).toNat=c;rw [Int.toNat_natCast];exact UInt8.ofNat_toNat
 rw [this];simp [Cg,emit]
theorem Ard {l:List Int} (hR:Ad l=true) (h:∀ x ∈ l,127<x):(∀ c ∈ Bb l,(Lj c).isSome=true/\¬ (65<=c.toNat/\c.toNat<=90))/\l.length<=(Bb l).length:=by
 have hl:lt 128 l=[]:=by
  unfold lt;rw [List.filter_eq_nil_iff];intro x hx;have:=h x hx;simp;omega
 have hd:=Iw hR;rw [hl] at hd;have he:Bb l=Cg (Ey l) 72 0 true:=by unfold Bb Hh Bd;rw [hl];rfl
 rw [he];refine ⟨λc hc=>?_,?_⟩
 ·obtain ⟨v,hv,rfl⟩:=List.mem_map.1 hc;have hb:=Kk _ _ _ _ (Gn (Em hR)) v hv;refine ⟨by rw [Rz hb];rfl,?_⟩;have:=Ix hb;unfold Lx at this;split at this<;>omega
 ·have h3:=Mb (Ey l) 72 0 true;unfold Cg;rw [jai];simp only [List.length_nil] at hd;omega
end Puny
end
