import Derived.Test.YtickpkccpafjaaaGreatDoorLstA
import Derived.Test.YtickpkccpafjaaaGreatDoorMbxOk
set_option maxRecDepth 100000
set_option maxHeartbeats 8000000
namespace Go.Proofs.YtickpkccpafjaaaGreatDoor
open Tryz
section
open Go.RowKit Utf
namespace Lst
def Akx (r:Int):Bool:=(decide (r<32) && (r != 9)) || (r == 127)
theorem Aqe:∀ n:Nat,n<256->(Akx ((n:Nat):Int) == !Lex.Ab0 n)=true:=by decide +kernel
theorem Aa9 {r:Int} (h:128<=r):Akx r=false:=by
 unfold Akx;rw [decide_eq_false (show ¬ r<32 by omega),Bool.false_and,Bool.false_or];simpa using (by omega:¬ r=127)
theorem Tj {l:List Ent} {i:Nat} (h:i<l.length):flat (l.drop i)=(Eu l i).boxes ++ flat (l.drop (i+1)):=by
 rw [List.drop_eq_getElem_cons h];unfold flat Eu;rw [jao,List.getD_eq_getElem?_getD,List.getElem?_eq_getElem h];rfl
theorem W7 {l:List Box} {j:Nat} (h:j<l.length):l.drop j=Ks l j::l.drop (j+1):=by
 rw [List.drop_eq_getElem_cons h];unfold Ks;rw [List.getD_eq_getElem?_getD,List.getElem?_eq_getElem h];rfl
theorem E6 {l:List Ent} {i:Nat} (h:i<l.length):Eu l i ∈ l:=by
 unfold Eu;rw [List.getD_eq_getElem?_getD,List.getElem?_eq_getElem h];exact List.getElem_mem h
theorem Nf {l:List Box} {i:Nat} (h:i<l.length):Ks l i ∈ l:=by
 unfold Ks;rw [List.getD_eq_getElem?_getD,List.getElem?_eq_getElem h];exact List.getElem_mem h
theorem Auy {p:Ent->Bool} {l:List Ent} {k:Nat} (hk:k<l.length) (h:p (Eu l k)=true):l.any p=true:=List.any_eq_true.2 ⟨_,E6 hk,h⟩
theorem Aqc {p:Ent->Bool} {l:List Ent} (h:∀ j,j<l.length->p (Eu l j)=false):l.any p=false:=by
 rw [List.any_eq_false];intro x hx;obtain ⟨j,hj,rfl⟩:=List.getElem_of_mem hx;have:=h j hj;unfold Eu at this;rw [List.getD_eq_getElem?_getD,List.getElem?_eq_getElem hj] at this;rw [show p l[j]=false from this];exact Bool.noConfusion
structure Fits (l:List Ent):Prop where
 len:l.length<=100000
 name:∀ e ∈ l,e.name.length<=100000
 many:∀ e ∈ l,e.boxes.length<=100000
 box:∀ e ∈ l,∀ m ∈ e.boxes,m.1.length<=100000/\De ⟨m.2.toArray⟩
end Lst
theorem Au4 (r:Int) (w:World):Calls prog 46 #[.int .i32 r] w λe w'=>e=.returned (.bool (Lst.Akx r))/\w=w':=by
 unfold Lst.Akx;cases h1:decide (r<32)<;>cases h2:(r != 9)<;>cases h3:(r == 127)
 all_goals
  go_enter func46,ntmps46;go_wp2;go_ret;exact ⟨rfl,rfl⟩
theorem Aae (s:ByteArray) (w:World):Calls prog 45 #[.string s,.func (.func 46) #[] #[]] w λe w'=>e=.returned (.bool (!(s.data.toList.all Lex.Ao)))/\Below w.heap.size w w':=by
 have hbar:∀ c:UInt8,Lst.Akx (c.toNat:Int)=!Lex.Ao c:=λc=>by
  have:=Lst.Aqe c.toNat (C5 c);rw [beq_iff_eq] at this;exact this
 have K:=jH (Ji 46 Lex.Ao Lst.Akx (λc _=>hbar c) (λr h=>Lst.Aa9 h) (λc h=>by have:=hbar c;rw [Lst.Aa9 (show (128:Int)<=(c.toNat:Int) by omega)] at this;simpa using this.symm) s w
  (enters_of func46 jK rfl) (λW r _ _=>(Au4 r W).mono λe w' ⟨h1,h2⟩=>⟨h1,h2 ▸ jan _ _⟩))
 generalize s.data.toList.all Lex.Ao=p at K ⊢;cases p
 all_goals
  go_enter func45,ntmps45;go_wp2_with (go_at_call 70;go_in);refine K.out.mono ?_;rintro e w3 ⟨z,rfl,hz,hb⟩;have HB:=jH hb;clear hb;go_wp2;go_ret;exact ⟨rfl,HB.out⟩
theorem Zz (s:ByteArray) (g:Bool) (u:Value) (w:World):Calls prog 24 #[.agg #[.string s,.bool g,u]] w λe w'=>e=.returned (.bool (!(s.data.toList.all Lex.Ao)))/\Below w.heap.size w w':=by
 obtain ⟨W1,hW1⟩:∃ W1,W1=w.alloc (.cells #[.string s,.bool g,u] 47):=⟨_,rfl⟩
 have B1:=jH (show Below w.heap.size w W1 by rw [hW1];exact Ac _ _);have K:=jH (Aae s W1);generalize s.data.toList.all Lex.Ao=p at K ⊢;have HW1:=jH hW1.symm;clear hW1;go_enter func24,ntmps24;go_wp2_with fail;rw [HW1.out];refine K.out.mono ?_;rintro e w2 ⟨rfl,hb⟩;have B2:=jH (Aa B1.out hb);clear hb;go_wp2;go_ret;exact ⟨rfl,B2.out⟩
theorem Ak5 (s:ByteArray) (g:Bool) (u:Value) (w:World) (hs:s.size<=100000):Calls prog 23 #[.agg #[.string s,.bool g,u]] w λe w'=>e=.returned (.bool (!Lst.Ka s.data.toList))/\Below w.heap.size w w':=by
 obtain ⟨W1,hW1⟩:∃ W1,W1=w.alloc (.cells #[.string s,.bool g,u] 47):=⟨_,rfl⟩
 have B1:=jH (show Below w.heap.size w W1 by rw [hW1];exact Ac _ _);have K:=jH (On s W1 hs);have hx:decide (0<=(Aq s.data.toList).2)=!Lst.Ka s.data.toList:=by
  unfold Lst.Ka;rw [<- decide_not,decide_eq_decide];rcases D6 (s:=s.data.toList) (m:=(Aq s.data.toList).1) (z:=(Aq s.data.toList).2) rfl with ⟨-,-,⟨h,-⟩ | ⟨k,h,-⟩⟩<;>omega
 rw [<- hx];obtain ⟨z,hz⟩:∃ z,z=(Aq s.data.toList).2:=⟨_,rfl⟩
 unfold Nz at K;rw [<- hz] at K ⊢;have HW1:=jH hW1.symm;clear hx hz hW1;cases h:decide (0<=z)
 all_goals
  go_enter func23,ntmps23;go_wp2_with fail;rw [HW1.out];refine K.out.mono ?_;rintro e w1 ⟨v,rfl,-,hb⟩;have B2:=jH (Aa B1.out hb);clear hb;go_wp2;go_ret;exact ⟨rfl,B2.out⟩
theorem Aas (s:ByteArray) (g:Bool) (A:Option Addr) (n c:Nat) (w:World):Calls prog 22 #[.agg #[.string s,.bool g,.slice A n c]] w λe w'=>e=.returned (.bool (if g then s.data.toList.isEmpty else n != 1))/\Below w.heap.size w w':=by
 cases g
 ·have e:(n != 1)=((n:Int) != 1):=by
   rw [Bool.eq_iff_iff,bne_iff_ne,bne_iff_ne];omega
  simp only [Bool.false_eq_true,if_false];rw [e];clear e;cases h:((n:Int) != 1)
  all_goals
   go_enter func22,ntmps22;go_wp2;go_ret;exact ⟨rfl,Ac _ _⟩
 ·have e:s.data.toList.isEmpty=(s.toList == []):=by
   rw [ByteArray.toList_eq];cases s.data.toList<;>rfl
  simp only [if_true];rw [e];clear e;cases h:(s.toList == [])
  all_goals
   go_enter func22,ntmps22;go_wp2;go_ret;exact ⟨rfl,Ac _ _⟩
def Wg (p:Lst.Ent->Bool) (l:List Lst.Ent) (w:World) (e:Ending) (w':World):Prop :=
 (∃ z:Int,e=.returned (.int .i64 z)/\decide (0<=z)=l.any p)/\Below w.heap.size w w'
theorem Alm (f:Nat) (v:Value) (l:List Lst.Ent) (p:Lst.Ent->Bool) (w:World) (hl:Ov v l w) (hn:l.length<=100000)
  (eg:∀ args w,(callFunc f args).run prog w=.ok (.enter f args) w)
  (hf:∀ (W:World) (i:Nat) (u:Value),i<l.length->Pe u (Lst.Eu l i).boxes W->Calls prog f #[.agg #[.string ⟨(Lst.Eu l i).name.toArray⟩,.bool (Lst.Eu l i).grp,u]] W λe w'=>e=.returned (.bool (p (Lst.Eu l i)))/\Below W.heap.size W w') :
  Calls prog 43 #[v,.func (.func f) #[] #[]] w (Wg p l w):=by
 have HL:=jH hl;have HF:=jH hf;obtain ⟨A,c,rfl,hc,hx⟩:=hl;have HX:=jH hx;clear hf hx;obtain ⟨n,hnn⟩:∃ n,n=l.length:=⟨_,rfl⟩
 rw [<- hnn] at hn hc HL HX ⊢;have HN:=jH hnn;clear hnn;go_enter func43,ntmps43;go_wp2;go_loopg [5,8] n (λgg _ s8 wr=>∃ k:Nat,k<=n/\n - k<=gg/\s8=.int .i64 k/\Hid (Below w.heap.size w wr)/\Hid (∀ j,j<k->p (Lst.Eu l j)=false))
 case atStart=>exact ⟨0,Nat.zero_le _,by omega,rfl,jan _ w,λj hj=>absurd hj (Nat.not_lt_zero _)⟩
 case round =>
  obtain ⟨k,hk,hg,rfl,BW,H⟩:=hrel;by_cases hlt:k<n
  ·have hkz:(k:Int)<(n:Int):=jO
   obtain ⟨g,o,rfl,hgl,h2⟩:=HX.out jO;obtain ⟨u,E⟩:=h2 k hlt;have E:=E.Ae hgl BW.out;have q0:=E.c0;have q1:=E.c1;have q2:=E.c2;have K:=HF.out wr k u (by have:=HN.out;omega) E.boxes;simp only at q0 q1;generalize hy:Lst.Eu l k=y at q0 q1 K;have HY:=jH hy;clear E h2 hy;obtain ⟨r,hr⟩:∃ r,r=p y:=⟨_,rfl⟩
   rw [<- hr] at K;have HR:=jH hr;have K:=jH K;clear hr;cases r with
   | true =>
    go_wp2_with fail;refine K.out.mono ?_;rintro e w2 ⟨rfl,hb⟩;have B2:=jH (BW.out.trans (hb.mono BW.out.size));clear hb q0 q1 q2;go_wp2;go_ret;exact ⟨⟨(k:Int),rfl,by rw [Lst.Auy (l:=l) (k:=k) (by have:=HN.out;omega) (by rw [HY.out];exact HR.out.symm)];exact decide_eq_true jO⟩,B2.out⟩
   | false =>
    go_wp2_with fail;refine K.out.mono ?_;rintro e w2 ⟨rfl,hb⟩;have B2:=jH (BW.out.trans (hb.mono BW.out.size));clear hb q0 q1 q2;go_wp2;go_roundg (n - (k+1))
    case measure=>omega
    case rel =>
     refine ⟨k+1,by omega,by omega,by go_num,B2.out,(show Hid _ from λj hj=>?_)⟩;by_cases e:j=k
     ·subst e;rw [HY.out];exact HR.out.symm
     ·exact H.out j jO
  ·have hkz:¬ (k:Int)<(n:Int):=jO
   go_wp2;go_ret;exact ⟨⟨-1,rfl,by rw [Lst.Aqc (λj hj=>H.out j (by have:=HN.out;omega))];rfl⟩,BW.out⟩
theorem J8 (f:Nat) (v:Value) (l:List Lst.Ent) (p:Lst.Ent->Bool) (w:World) (hl:Ov v l w) (hn:l.length<=100000)
  (eg:∀ args w,(callFunc f args).run prog w=.ok (.enter f args) w)
  (hf:∀ (W:World) (i:Nat) (u:Value),i<l.length->Pe u (Lst.Eu l i).boxes W->Calls prog f #[.agg #[.string ⟨(Lst.Eu l i).name.toArray⟩,.bool (Lst.Eu l i).grp,u]] W λe w'=>e=.returned (.bool (p (Lst.Eu l i)))/\Below W.heap.size W w') :
  Calls prog 21 #[v,.func (.func f) #[] #[]] w λe w'=>e=.returned (.bool (l.any p))/\Below w.heap.size w w':=by
 have K:=jH (Alm f v l p w hl hn eg hf);clear hl hn eg hf;obtain ⟨r,hr⟩:∃ r,r=l.any p:=⟨_,rfl⟩
 unfold Wg at K;rw [<- hr] at K ⊢;clear hr;go_enter func21,ntmps21;go_wp2_with fail;refine K.out.mono ?_;rintro e w2 ⟨⟨z,rfl,hz⟩,hb⟩;have HB:=jH hb;have HZ:=jH hz;clear hb hz;cases h:decide (0<=z)
 all_goals
  go_wp2;go_ret;exact ⟨by rw [<- HZ.out,h];rfl,HB.out⟩
theorem Aqu (v:Value) (l:List Lst.Ent) (w:World) (hl:Ov v l w) (hn:l.length<=100000) (hm:∀ e ∈ l,e.boxes.length<=100000) :
  Calls prog 25 #[v] w λe w'=>e=.returned (.int .i64 ((Lst.flat l).length:Int))/\Below w.heap.size w w':=by
 obtain ⟨A,c,rfl,hc,hx⟩:=hl;have HX:=jH hx;have HM:=jH hm;clear hx hm;obtain ⟨n,hnn⟩:∃ n,n=l.length:=⟨_,rfl⟩
 obtain ⟨T,hT⟩:∃ T,T=(Lst.flat l).length:=⟨_,rfl⟩
 rw [<- hT];rw [<- hnn] at hn hc HX ⊢;have HN:=jH hnn;have HT:=jH (show 0+(Lst.flat (l.drop 0)).length=T by rw [hT,List.drop_zero];omega);clear hnn hT;go_enter func25,ntmps25;go_wp2;go_loopg [3,8] n (λgg s3 s8 wr=>∃ k q:Nat,k<=n/\n - k<=gg/\q<=k*100000/\s3=.int .i64 q/\s8=.int .i64 k/\Hid (Below w.heap.size w wr)/\Hid (q+(Lst.flat (l.drop k)).length=T))
 case atStart=>exact ⟨0,0,Nat.zero_le _,by omega,by omega,rfl,rfl,jan _ w,HT.out⟩
 case round =>
  obtain ⟨k,q,hk,hg,hq,rfl,rfl,BW,H⟩:=hrel;by_cases hlt:k<n
  ·have hkz:(k:Int)<(n:Int):=jO
   have hkl:k<l.length:=by have:=HN.out;omega
   obtain ⟨g,o,rfl,hgl,h2⟩:=HX.out jO;obtain ⟨u,E⟩:=h2 k hlt;have E:=E.Ae hgl BW.out;have q0:=E.c0;have q1:=E.c1;have q2:=E.c2;have hm:=HM.out _ (Lst.E6 hkl);have H2:=H.out;rw [Lst.Tj hkl,jab] at H2;obtain ⟨B,d,hu,-,-⟩:=E.boxes;simp only at q0 q1 hu;generalize Lst.Eu l k=y at q0 q1 hm H2 hu;subst hu;generalize y.boxes.length=m at *;have I2:=jH (show q+m+(Lst.flat (l.drop (k+1))).length=T by omega);have B2:=jH (BW.out.trans ((Ac wr (.cells #[.string ⟨y.name.toArray⟩,.bool y.grp,.slice B m d] 47)).mono BW.out.size));clear E h2 H2;go_wp2;go_roundg (n - (k+1))
   case measure=>omega
   case rel=>exact ⟨k+1,q+m,by omega,by omega,by omega,by go_num,by go_num,B2.out,I2.out⟩
  ·have hkz:¬ (k:Int)<(n:Int):=jO
   have E:=jH (show q=T by
    have:=H.out;rw [List.drop_of_length_le (by have:=HN.out;omega)] at this;simpa [Lst.flat] using this)
   go_wp2;go_ret;have:=E.out;subst this;exact ⟨rfl,BW.out⟩
end
section
open Go.RowKit Utf
structure Qk (B b0 b1 b2 b3:Nat) (W:World):Prop where
 t0:W.cell? ⟨B,0,none⟩=some (.slice (some ⟨b0,0,none⟩) 74 74)
 t1:W.cell? ⟨B,1,none⟩=some (.slice (some ⟨b1,0,none⟩) 10 10)
 t2:W.cell? ⟨B,2,none⟩=some (.slice (some ⟨b2,0,none⟩) 11 11)
 t3:W.cell? ⟨B,3,none⟩=some (.slice (some ⟨b3,0,none⟩) 42 42)
 lt:B<W.heap.size
theorem Qk.Ae {B b0 b1 b2 b3:Nat} {W W':World} (h:Qk B b0 b1 b2 b3 W) (hb:Below W.heap.size W W'):Qk B b0 b1 b2 b3 W':=by
 have e:∀ k,W'.cell? ⟨B,k,none⟩=W.cell? ⟨B,k,none⟩:=λk=>hb.cell (p:=⟨B,k,none⟩) h.lt;exact ⟨(e 0).trans h.t0,(e 1).trans h.t1,(e 2).trans h.t2,(e 3).trans h.t3,jas h.lt hb.size⟩
theorem Qk.new (w:World) (b0 b1 b2 b3:Nat):Qk w.heap.size b0 b1 b2 b3 (w.alloc (.cells #[.slice (some ⟨b0,0,none⟩) 74 74,.slice (some ⟨b1,0,none⟩) 10 10,.slice (some ⟨b2,0,none⟩) 11 11,.slice (some ⟨b3,0,none⟩) 42 42] 36)):=by
 refine ⟨?_,?_,?_,?_,by simp⟩<;>go_simp
theorem Lh (x:List UInt8):(⟨x.toArray⟩:ByteArray).data.toList=x:=rfl
theorem Li (x:List UInt8):(⟨x.toArray⟩:ByteArray).size=x.length:=by simp [ByteArray.size]
theorem P9 (t v:Value) (l:List Lst.Ent) (w:World) (hT:Table w t) (hl:Ov v l w) (F:Lst.Fits l) {E:Int} (hE:Lst.Fk l=E) :
  Calls prog 11 #[t,v] w λe w'=>e=.returned (.int .i64 E)/\Below w.heap.size w w':=by
 have hT0:=hT;obtain ⟨b0,b1,b2,b3,rfl,-,-,-,-⟩:=hT0;obtain ⟨W0,hW0⟩:∃ W0,W0=w.alloc (.cells #[.slice (some ⟨b0,0,none⟩) 74 74,.slice (some ⟨b1,0,none⟩) 10 10,.slice (some ⟨b2,0,none⟩) 11 11,.slice (some ⟨b3,0,none⟩) 42 42] 36):=⟨_,rfl⟩
 have B0:=jH (show Below w.heap.size w W0 by rw [hW0];exact Ac _ _);have T0:=jH (show Qk w.heap.size b0 b1 b2 b3 W0 by rw [hW0];exact Qk.new _ _ _ _ _);have HW0:=jH hW0.symm;have HT:=jH hT;have HL:=jH hl;have HF:=jH F;have hn:=F.len;have KM:=λW (hW:Below w.heap.size w W)=>J8 22 v l Lst.odd W (hl.Ae hW) hn (enters_of func22 jK rfl) (λW' i u hi hu=>by
  obtain ⟨A,c,rfl,-,-⟩:=hu;exact Aas _ _ A _ c W')
 have KB:=λW (hW:Below w.heap.size w W)=>J8 23 v l (λe=>!Lst.Ka e.name) W (hl.Ae hW) hn (enters_of func23 jK rfl) (λW' i u hi hu=>by
  exact Ak5 _ _ u W' (by rw [Li];exact F.name _ (Lst.E6 hi)))
 have KU:=λW (hW:Below w.heap.size w W)=>J8 24 v l (λe=>!e.name.all Lex.Ao) W (hl.Ae hW) hn (enters_of func24 jK rfl) (λW' i u hi hu=>by
  exact Zz _ _ u W')
 have KC:=λW (hW:Below w.heap.size w W)=>Aqu v l W (hl.Ae hW) hn F.many;unfold Lst.Fk at hE;obtain ⟨A,c,rfl,hc,hx⟩:=hl;have HX:=jH hx;clear hW0 hT F hx HL;by_cases h0:l.length=0
 ·obtain rfl:l=[]:=List.eq_nil_of_length_eq_zero h0;have e:=jH (show (1:Int)=E from hE);clear KM KB KU KC hE h0;go_enter func11,ntmps11;go_wp2;rw [HW0.out];go_ret;exact ⟨by rw [<- e.out];rfl,B0.out⟩
 have hlz:(((l.length:Int)) == 0)=false:=by
  rw [beq_eq_false_iff_ne];omega
 have hie:l.isEmpty=false:=by cases l with
  | nil=>exact absurd rfl h0
  | cons a b=>rfl
 rw [hie,Bool.false_or] at hE;cases c1:l.any Lst.odd
 case true =>
  rw [c1] at KM hE;have KM:=jH KM;have e:=jH (show (1:Int)=E from hE);clear KB KU KC hE c1 hie h0;go_enter func11,ntmps11;go_wp2_with fail;rw [HW0.out];refine (KM.out W0 B0.out).mono ?_;rintro e2 w1 ⟨rfl,hb⟩;have B1:=jH (Aa B0.out hb);clear hb;go_wp2;go_ret;exact ⟨by rw [<- e.out];rfl,B1.out⟩
 rw [c1] at KM;rw [c1,if_neg jD] at hE;have KM:=jH KM;cases c2:l.any (λe=>!Lst.Ka e.name)
 case true =>
  rw [c2] at KB hE;have KB:=jH KB;have e:=jH (show (7:Int)=E from hE);clear KU KC hE c1 c2 hie h0;go_enter func11,ntmps11;go_wp2_with fail;rw [HW0.out];refine (KM.out W0 B0.out).mono ?_;rintro e2 w1 ⟨rfl,hb⟩;have B1:=jH (Aa B0.out hb);clear hb;go_wp2_with fail;refine (KB.out w1 B1.out).mono ?_;rintro e2 w2 ⟨rfl,hb⟩;have B2:=jH (Aa B1.out hb);clear hb;go_wp2;go_ret;exact ⟨by rw [<- e.out];rfl,B2.out⟩
 rw [c2] at KB;rw [c2,if_neg jD] at hE;have KB:=jH KB;cases c3:l.any (λe=>!e.name.all Lex.Ao)
 case true =>
  rw [c3] at KU hE;have KU:=jH KU;have e:=jH (show (8:Int)=E from hE);clear KC hE c1 c2 c3 hie h0;go_enter func11,ntmps11;go_wp2_with fail;rw [HW0.out];refine (KM.out W0 B0.out).mono ?_;rintro e2 w1 ⟨rfl,hb⟩;have B1:=jH (Aa B0.out hb);clear hb;go_wp2_with fail;refine (KB.out w1 B1.out).mono ?_;rintro e2 w2 ⟨rfl,hb⟩;have B2:=jH (Aa B1.out hb);clear hb;go_wp2_with fail;refine (KU.out w2 B2.out).mono ?_;rintro e2 w3 ⟨rfl,hb⟩;have B3:=jH (Aa B2.out hb);clear hb;go_wp2;go_ret;exact ⟨by rw [<- e.out];rfl,B3.out⟩
 rw [c3] at KU;rw [c3,if_neg jD] at hE;have KU:=jH KU;clear c1 c2 c3 hie;by_cases h4:100<(Lst.flat l).length
 ·have hz:(100:Int)<(((Lst.flat l).length:Nat):Int):=jO
  rw [if_pos h4] at hE;have KC:=jH KC;have e:=jH (show (2:Int)=E from hE);clear hE h0 h4;generalize (Lst.flat l).length=z at hz KC;go_enter func11,ntmps11;go_wp2_with fail;rw [HW0.out];refine (KM.out W0 B0.out).mono ?_;rintro e2 w1 ⟨rfl,hb⟩;have B1:=jH (Aa B0.out hb);clear hb;go_wp2_with fail;refine (KB.out w1 B1.out).mono ?_;rintro e2 w2 ⟨rfl,hb⟩;have B2:=jH (Aa B1.out hb);clear hb;go_wp2_with fail;refine (KU.out w2 B2.out).mono ?_;rintro e2 w3 ⟨rfl,hb⟩;have B3:=jH (Aa B2.out hb);clear hb;go_wp2_with fail;refine (KC.out w3 B3.out).mono ?_;rintro e2 w4 ⟨rfl,hb⟩;have B4:=jH (Aa B3.out hb);clear hb;go_wp2;go_ret;exact ⟨by rw [<- e.out];rfl,B4.out⟩
 have hz:¬ (100:Int)<(((Lst.flat l).length:Nat):Int):=jO
 rw [if_neg h4] at hE;have KC:=jH KC;have HE:=jH (show Lst.Fw (Lst.flat (l.drop 0))=E from hE);clear hE h4;generalize (Lst.flat l).length=z at hz KC;obtain ⟨n,hnn⟩:∃ n,n=l.length:=⟨_,rfl⟩
 rw [<- hnn] at hlz hn hc HX KM KB KU KC h0 ⊢;have HN:=jH hnn;clear hnn;go_enter func11,ntmps11;go_wp2_with fail;rw [HW0.out];refine (KM.out W0 B0.out).mono ?_;rintro e2 w1 ⟨rfl,hb⟩;have B1:=jH (Aa B0.out hb);have T1:=jH (T0.out.Ae hb);clear hb;go_wp2_with fail;refine (KB.out w1 B1.out).mono ?_;rintro e2 w2 ⟨rfl,hb⟩;have B2:=jH (Aa B1.out hb);have T2:=jH (T1.out.Ae hb);clear hb;go_wp2_with fail;refine (KU.out w2 B2.out).mono ?_;rintro e2 w3 ⟨rfl,hb⟩;have B3:=jH (Aa B2.out hb);have T3:=jH (T2.out.Ae hb);clear hb;go_wp2_with fail;refine (KC.out w3 B3.out).mono ?_;rintro e2 w4 ⟨rfl,hb⟩;have B4:=jH (Aa B3.out hb);have T4:=jH (T3.out.Ae hb);clear hb KM KB KU KC B0 B1 B2 B3 T0 T1 T2 T3 HW0;go_wp2;go_loopg [30] n (λgg s30 wr=>∃ k:Nat,k<=n/\n - k<=gg/\s30=.int .i64 k/\Hid (Below w.heap.size w wr)/\Hid (Qk w.heap.size b0 b1 b2 b3 wr)/\Hid (Lst.Fw (Lst.flat (l.drop k))=E))
 case atStart=>exact ⟨0,Nat.zero_le _,by omega,rfl,B4.out,T4.out,HE.out⟩
 case round =>
  clear B4 T4 HE;obtain ⟨k,hk,hg,rfl,BW,TW,H⟩:=hrel;by_cases hlt:k<n
  ·have hkz:(k:Int)<(n:Int):=jO
   have hkl:k<l.length:=by have:=HN.out;omega
   obtain ⟨g,o,rfl,hgl,h2⟩:=HX.out jO;obtain ⟨u,E0⟩:=h2 k hlt;have Ek:=E0.Ae hgl BW.out;have q0:=Ek.c0;have q1:=Ek.c1;have q2:=Ek.c2;have hy:=Lst.E6 hkl;have H2:=H.out;rw [Lst.Tj hkl] at H2;have hbx:=E0.boxes;simp only at q0 q1 hbx;generalize Lst.Eu l k=y at q0 q1 hy H2 hbx;have HY:=jH hy;obtain ⟨A2,d,rfl,hd,hx2⟩:=hbx;have HX2:=jH hx2;have hm:=HF.out.many y hy;obtain ⟨m,hmm⟩:∃ m,m=y.boxes.length:=⟨_,rfl⟩
   rw [<- hmm] at q2 HX2 hd hm;have HM:=jH hmm;obtain ⟨W1,hW1⟩:∃ W1,W1=wr.alloc (.cells #[.string ⟨y.name.toArray⟩,.bool y.grp,.slice A2 m d] 47):=⟨_,rfl⟩
   have b1:Below wr.heap.size wr W1:=by rw [hW1];exact Ac _ _
   have BW1:=jH (Aa BW.out b1);have TW1:=jH (TW.out.Ae b1);have HW1:=jH hW1.symm;have HH:=jH (show Lst.Fw (y.boxes.drop 0 ++ Lst.flat (l.drop (k+1)))=E by rw [List.drop_zero];exact H2);clear hW1 b1 h2 Ek E0 hy hx2 hmm H2;go_wp2;rw [HW1.out];go_loopg [37] m (λgj s37 wj=>∃ j:Nat,j<=m/\m - j<=gj/\s37=.int .i64 j/\Hid (Below w.heap.size w wj)/\Hid (Qk w.heap.size b0 b1 b2 b3 wj)/\Hid (Lst.Fw (y.boxes.drop j ++ Lst.flat (l.drop (k+1)))=E))
   case atStart=>exact ⟨0,Nat.zero_le _,by omega,rfl,BW1.out,TW1.out,HH.out⟩
   case round =>
    clear BW1 TW1 HH;obtain ⟨j,hj,hgj,rfl,BJ,TJ,HJ⟩:=hrel;by_cases hjm:j<m
    ·have hjz:(j:Int)<(m:Int):=jO
     have hjl:j<y.boxes.length:=by have:=HM.out;omega
     obtain ⟨g2,o2,rfl,hg2,h3⟩:=HX2.out jO;have hbj:=h3 j hjm;have r0:=(BJ.out.cell (p:=⟨g2,o2+j*2,none⟩) hg2).trans hbj.c0;have r1:=(BJ.out.cell (p:=⟨g2,o2+j*2+1,none⟩) hg2).trans hbj.c1;have hmem:=Lst.Nf hjl;have hfit:=HF.out.box y HY.out _ hmem;have HJ2:=HJ.out;rw [Lst.W7 hjl,jah,Lst.Fw] at HJ2;generalize Lst.Ks y.boxes j=mm at r0 r1 hfit HJ2;obtain ⟨W2,hW2⟩:∃ W2,W2=wr.alloc (.cells #[.string ⟨mm.1.toArray⟩,.string ⟨mm.2.toArray⟩] 28):=⟨_,rfl⟩
     have b2:Below wr.heap.size wr W2:=by rw [hW2];exact Ac _ _
     obtain ⟨B,hB⟩:∃ B,wr.heap.size=B:=⟨_,rfl⟩
     have d0:W2.cell? ⟨B,0,none⟩=some (.string ⟨mm.1.toArray⟩):=by rw [hW2,<- hB];go_simp
     have d1:W2.cell? ⟨B,1,none⟩=some (.string ⟨mm.2.toArray⟩):=by rw [hW2,<- hB];go_simp
     have BJ2:=jH (Aa BJ.out b2);have TJ2:=jH (TJ.out.Ae b2);have HW2:=jH hW2.symm;have K:=Za _ ⟨mm.1.toArray⟩ ⟨mm.2.toArray⟩ W2 (HT.out.below BJ2.out) (by rw [Li];exact hfit.1) hfit.2;rw [Lh,Lh] at K;obtain ⟨x,hx⟩:∃ x,x=Mbx.Dc mm.1 mm.2:=⟨_,rfl⟩
     rw [<- hx] at K HJ2;have K:=jH K;obtain ⟨s0,s1,s2,s3,-⟩:=TJ2.out;clear hx hfit hmem hbj h3 b2 hW2;by_cases hx0:x=0
     ·rw [if_neg (λh=>h hx0)] at HJ2;subst hx0;have HJ3:=jH HJ2;clear HJ2;go_upto_region 15 with (fail)
      rw [HW2.out];go_wp2_with fail;refine K.out.mono ?_;rintro e3 w5 ⟨rfl,hb⟩;have BJ4:=jH (Aa BJ2.out hb);have TJ4:=jH (TJ2.out.Ae hb);clear hb r0 r1 s0 s1 s2 s3 d0 d1;go_wp2;go_roundg (m - (j+1))
      case measure=>omega
      case rel=>exact ⟨j+1,by omega,by omega,by go_num,BJ4.out,TJ4.out,HJ3.out⟩
     ·rw [if_pos hx0] at HJ2;have HJ3:=jH HJ2;have hxb:(x != 0)=true:=by simpa using hx0
      clear HJ2;go_upto_region 15 with (fail)
      rw [HW2.out];go_wp2_with fail;refine K.out.mono ?_;rintro e3 w5 ⟨rfl,hb⟩;have BJ4:=jH (Aa BJ2.out hb);have TJ4:=jH (TJ2.out.Ae hb);clear hb r0 r1 s0 s1 s2 s3 d0 d1;go_wp2;go_ret;exact ⟨by rw [HJ3.out];rfl,BJ4.out⟩
    ·have hjz:¬ (j:Int)<(m:Int):=jO
     have HJ3:=jH (show Lst.Fw (Lst.flat (l.drop (k+1)))=E by
      have:=HJ.out;rwa [List.drop_of_length_le (by have:=HM.out;omega),List.nil_append] at this)
     go_wp2;go_roundg (n - (k+1))
     case measure=>omega
     case rel=>exact ⟨k+1,by omega,by omega,by go_num,BJ.out,TJ.out,HJ3.out⟩
  ·have hkz:¬ (k:Int)<(n:Int):=jO
   have e:=jH (show (0:Int)=E by
    have:=H.out;rw [List.drop_of_length_le (by have:=HN.out;omega)] at this;exact this)
   go_wp2;go_ret;exact ⟨by rw [<- e.out];rfl,BW.out⟩
end
section
open Go.RowKit Utf
theorem Dl.more {base:Nat} {v:Value} {l:List Lst.Box} {w w':World} (h:Dl base v l w) (hb:Below w.heap.size w w'):Dl base v l w':=h.Ae hb
theorem W6 (v:Value) (l:List Lst.Ent) (w:World) (hl:Ov v l w) (hn:l.length<=1000) (hm:∀ e ∈ l,e.boxes.length<=1000) (hs:∀ e ∈ l,∀ m ∈ e.boxes,m.1.length<=100000/\m.2.length<=100000) :
  Calls prog 9 #[v] w λe w'=>∃ u,e=.returned u/\Dl w.heap.size u (Lst.flat l) w'/\Below w.heap.size w w':=by
 obtain ⟨A,c,rfl,hc,hx⟩:=hl;have HX:=jH hx;have HM:=jH hm;have HS:=jH hs;clear hx hm hs;obtain ⟨n,hnn⟩:∃ n,n=l.length:=⟨_,rfl⟩
 obtain ⟨T,hT⟩:∃ T,T=Lst.flat l:=⟨_,rfl⟩
 rw [<- hT];rw [<- hnn] at hn hc HX ⊢;have HN:=jH hnn;have HT:=jH (show ([]:List Lst.Box) ++ Lst.flat (l.drop 0)=T by rw [hT,List.drop_zero];rfl);clear hnn hT;go_enter func9,ntmps9;go_wp2;go_loopg [3,10] n (λgg s3 s10 wr=>∃ (k:Nat) (bs:List Lst.Box),k<=n/\n - k<=gg/\bs.length<=k*1000/\s10=.int .i64 k/\Hid (Below w.heap.size w wr)/\Hid (Dl w.heap.size s3 bs wr)/\Hid (bs ++ Lst.flat (l.drop k)=T))
 case atStart=>exact ⟨0,[],Nat.zero_le _,by omega,by simp,rfl,jan _ w,Dl.nil _ _,HT.out⟩
 case round =>
  clear HT;obtain ⟨k,bs,hk,hg,hbs,rfl,BW,XW,H⟩:=hrel;by_cases hlt:k<n
  ·have hkz:(k:Int)<(n:Int):=jO
   have hkl:k<l.length:=by have:=HN.out;omega
   obtain ⟨g,o,rfl,hgl,h2⟩:=HX.out jO;obtain ⟨u,E0⟩:=h2 k hlt;have Ek:=E0.Ae hgl BW.out;have q0:=Ek.c0;have q1:=Ek.c1;have q2:=Ek.c2;have hy:=Lst.E6 hkl;have H2:=H.out;rw [Lst.Tj hkl] at H2;have hbx:=E0.boxes;simp only at q0 q1 hbx;generalize Lst.Eu l k=y at q0 q1 hy H2 hbx;have hm:=HM.out y hy;have HY:=jH (HS.out y hy);obtain ⟨A2,d,rfl,hd,hx2⟩:=hbx;have HX2:=jH hx2;obtain ⟨m,hmm⟩:∃ m,m=y.boxes.length:=⟨_,rfl⟩
   rw [<- hmm] at q2 HX2 hd hm;have HMM:=jH hmm;obtain ⟨W1,hW1⟩:∃ W1,W1=wr.alloc (.cells #[.string ⟨y.name.toArray⟩,.bool y.grp,.slice A2 m d] 47):=⟨_,rfl⟩
   have b1:Below wr.heap.size wr W1:=by rw [hW1];exact Ac _ _
   have BW1:=jH (Aa BW.out b1);have XW1:=jH (XW.out.Ae b1);have HW1:=jH hW1.symm;have HH:=jH (show bs ++ (y.boxes.drop 0 ++ Lst.flat (l.drop (k+1)))=T by rw [List.drop_zero];exact H2);clear hW1 b1 h2 Ek E0 hy hx2 hmm H2;go_wp2;rw [HW1.out];clear q0 q1 q2 HW1 H XW BW;go_loopg [3,17] m (λgj s3 s17 wj=>∃ (j:Nat) (cs:List Lst.Box),j<=m/\m - j<=gj/\cs.length<=k*1000+j/\s17=.int .i64 j/\Hid (Below w.heap.size w wj)/\Hid (Dl w.heap.size s3 cs wj)/\Hid (cs ++ (y.boxes.drop j ++ Lst.flat (l.drop (k+1)))=T))
   case atStart=>exact ⟨0,bs,Nat.zero_le _,by omega,by omega,rfl,BW1.out,XW1.out,HH.out⟩
   case round =>
    clear BW1 XW1 HH;obtain ⟨j,cs,hj,hgj,hcs,rfl,BJ,XJ,HJ⟩:=hrel;have XK:=XJ;by_cases hjm:j<m
    ·have hjz:(j:Int)<(m:Int):=jO
     have hjl:j<y.boxes.length:=by have:=HMM.out;omega
     obtain ⟨g2,o2,rfl,hg2,h3⟩:=HX2.out jO;have hbj:=h3 j hjm;have r0:=(BJ.out.cell (p:=⟨g2,o2+j*2,none⟩) hg2).trans hbj.c0;have r1:=(BJ.out.cell (p:=⟨g2,o2+j*2+1,none⟩) hg2).trans hbj.c1;have hfit:=HY.out _ (Lst.Nf hjl);have HJ2:=HJ.out;rw [Lst.W7 hjl,jah] at HJ2;generalize Lst.Ks y.boxes j=mm at r0 r1 hfit HJ2;obtain ⟨X,hX⟩:∃ X:ByteArray,X=⟨mm.1.toArray⟩:=⟨_,rfl⟩
     obtain ⟨Y,hY⟩:∃ Y:ByteArray,Y=⟨mm.2.toArray⟩:=⟨_,rfl⟩
     have hXs:X.size<=100000:=by rw [hX];simp [ByteArray.size];exact hfit.1
     have hYs:Y.size<=100000:=by rw [hY];simp [ByteArray.size];exact hfit.2
     rw [<- hX] at r0;rw [<- hY] at r1;have KX:=jH (λW=>Cn X W hXs);have KY:=jH (λW=>Cn Y W hYs);have LX:=jH hX;have LY:=jH hY;have HJ3:=jH (show (cs ++ [mm]) ++ (y.boxes.drop (j+1) ++ Lst.flat (l.drop (k+1)))=T by rw [jaq];exact HJ2);obtain ⟨B,hB⟩:∃ B,wr.heap.size=B:=⟨_,rfl⟩
     obtain ⟨W2,hW2⟩:∃ W2,W2=wr.alloc (.cells #[.string X,.string Y] 28):=⟨_,rfl⟩
     have d0:W2.cell? ⟨B,0,none⟩=some (.string X):=by rw [hW2,<- hB];go_simp
     have d1:W2.cell? ⟨B,1,none⟩=some (.string Y):=by rw [hW2,<- hB];go_simp
     have hBl:B<W2.heap.size:=by rw [hW2,World.size_alloc];omega
     have b2:Below wr.heap.size wr W2:=by rw [hW2];exact Ac _ _
     have BJ2:=jH (Aa BJ.out b2);have XJ2:=jH (XJ.out.Ae b2);have HW2:=jH hW2.symm;have hs2:=BJ2.out.size;clear HJ HJ2 hbj h3 hfit hX hY b2 hW2 XJ BJ;go_wp2;rw [HW2.out];clear r0 r1 HW2;go_region_held3 (λw'=>w'.cell? ⟨B,0,none⟩=some (.string X)/\w'.cell? ⟨B,1,none⟩=some (.string Y)) (go_keep) (first
      | (go_at_call 20;(with_reducible refine (KX.out W2.drew).mono ?_);rintro e w5 ⟨rfl,hb⟩;have B5:=jH (Ag hb);have e0:=(B5.out.cell (p:=⟨B,0,none⟩) hBl).trans d0;have e1:=(B5.out.cell (p:=⟨B,1,none⟩) hBl).trans d1;clear hb)
      | (go_at_call 20;(with_reducible refine (KY.out W2.drew).mono ?_);rintro e w5 ⟨rfl,hb⟩;have B5:=jH (Ag hb);have e0:=(B5.out.cell (p:=⟨B,0,none⟩) hBl).trans d0;have e1:=(B5.out.cell (p:=⟨B,1,none⟩) hBl).trans d1;clear hb)
      | (go_at_call 20;(with_reducible refine (KX.out w5).mono ?_);rintro e w6 ⟨rfl,hb⟩;have B6:=jH (Aa B5.out hb);have f0:=(B6.out.cell (p:=⟨B,0,none⟩) hBl).trans d0;have f1:=(B6.out.cell (p:=⟨B,1,none⟩) hBl).trans d1;clear hb)
      | (go_at_call 20;(with_reducible refine (KY.out w5).mono ?_);rintro e w6 ⟨rfl,hb⟩;have B6:=jH (Aa B5.out hb);have f0:=(B6.out.cell (p:=⟨B,0,none⟩) hBl).trans d0;have f1:=(B6.out.cell (p:=⟨B,1,none⟩) hBl).trans d1;clear hb)
      | (rw [LX.out,LY.out];refine Mp w6 w.heap.size _ cs (XJ2.out.Ae B6.out) (Nat.le_trans hs2 B6.out.size) jO mm _ rfl (by rfl) _ _ (by rfl) (by rfl) (by rfl) ?_;intro v7 w7 ho7 hb7 hk7;have X7:=jH ho7;have B7:=jH ((BJ2.out.trans (B6.out.mono hs2)).trans hb7);have h0:=(World.cell?_of_block (w:=w6) (a:=⟨B,0,none⟩) (hk7 B (jas hBl B6.out.size) (λe9=>(by have h9:=(World.ownsRow.lt XK.out B e9.symm).2;omega)))).trans f0;have h1:=(World.cell?_of_block (w:=w6) (a:=⟨B,1,none⟩) (hk7 B (jas hBl B6.out.size) (λe9=>(by have h9:=(World.ownsRow.lt XK.out B e9.symm).2;omega)))).trans f1;clear ho7 hb7 hk7))
     all_goals
      go_wp2;go_roundg (m - (j+1))
      case measure=>omega
      case rel=>exact ⟨j+1,cs ++ [mm],by omega,by omega,by simp;omega,by go_num,B7.out,X7.out,HJ3.out⟩
    ·have hjz:¬ (j:Int)<(m:Int):=jO
     have HJ3:=jH (show cs ++ Lst.flat (l.drop (k+1))=T by
      have:=HJ.out;rwa [List.drop_of_length_le (by have:=HMM.out;omega),List.nil_append] at this)
     go_wp2;go_roundg (n - (k+1))
     case measure=>omega
     case rel=>exact ⟨k+1,cs,by omega,by omega,by omega,by go_num,BJ.out,XJ.out,HJ3.out⟩
  ·have hkz:¬ (k:Int)<(n:Int):=jO
   have e:=jH (show bs=T by
    have:=H.out;rw [List.drop_of_length_le (by have:=HN.out;omega)] at this;simpa [Lst.flat] using this)
   go_wp2;go_ret;have e:=e.out;subst e;exact ⟨_,rfl,XW.out,BW.out⟩
end
section
open Go.RowKit Utf
structure Afv (n:Nat) (tell:Nat->List UInt8):Prop where
 len:n<=1000
 each:∀ i,i<n->(tell i).length<=100000000
def Lst.told (n:Nat) (tell:Nat->List UInt8):List (List UInt8):=(List.range n).map tell
theorem Lst.Adn (n:Nat) (tell:Nat->List UInt8):Lst.told (n+1) tell=Lst.told n tell ++ [tell n]:=by unfold Lst.told;rw [List.range_succ,List.map_append];rfl
theorem Lst.Hz (n:Nat) (tell:Nat->List UInt8):(Lst.told n tell).length=n:=by unfold Lst.told;simp
theorem Lst.join_le (l:List (List UInt8)) (h:∀ x ∈ l,x.length<=100000000) (hl:l.length<=1000):(Lib.join l [44,32]).length<=140737488355328:=by
 have tail:∀ l:List (List UInt8),(∀ x ∈ l,x.length<=100000000)->(Lib.joinTail [44,32] l).length<=l.length*100000002:=by
  intro l;induction l with
  | nil=>intro _;exact Nat.zero_le _
  | cons x t ih =>
   intro h;have h1:=ih λz hz=>h z (by simp [hz]);have h2:=h x jS;rw [show Lib.joinTail [44,32] (x::t)=44::32::(x ++ Lib.joinTail [44,32] t) from rfl];simp only [jab,jac] at h1 ⊢;omega
 cases l with
 | nil=>exact Nat.zero_le _
 | cons x t =>
  have h1:=tail t λz hz=>h z (by simp [hz]);have h2:=h x jS;rw [Lib.join_cons,jab];simp only [jac] at hl;omega
theorem Ahx (v:Value) (l:List Lst.Box) (tell:Nat->List UInt8) (w:World) (hl:Pe v l w) (J:Afv l.length tell) (f:Nat) (ef:∀ args w,(callFunc f args).run prog w=.ok (.enter f args) w)
  (hf:∀ W i,i<l.length->Below w.heap.size w W->Calls prog f #[.agg #[.string ⟨(Lst.Ks l i).1.toArray⟩,.string ⟨(Lst.Ks l i).2.toArray⟩]] W λe w'=>e=.returned (.string ⟨(tell i).toArray⟩)/\Below W.heap.size W w') :
  Calls prog 55 #[v,.func (.func f) #[] #[]] w λe w'=>e=.returned (.string ⟨(Lib.join (Lst.told l.length tell) [44,32]).toArray⟩)/\Below w.heap.size w w':=by
 have HF:=jH hf;obtain ⟨A,c,rfl,hc,hx⟩:=hl;have HX:=jH hx;have HJ:=jH J;have hn:=J.len;clear hf hx J;obtain ⟨n,hnn⟩:∃ n,n=l.length:=⟨_,rfl⟩
 rw [<- hnn] at hc HX HF HJ hn ⊢;clear hnn;go_enter func55,ntmps55;go_wp2;go_loopg [5,10] n (λgg s5 s10 wr=>∃ k:Nat,k<=n/\n - k<=gg/\s10=.int .i64 k/\Hid (Below w.heap.size w wr)/\Hid (Bl w.heap.size s5 (Lst.told k tell) wr))
 case atStart=>exact ⟨0,Nat.zero_le _,by omega,rfl,jan _ w,World.ownsRow_nil _ _ _ _⟩
 case round =>
  obtain ⟨k,hk,hg,rfl,BW,SW⟩:=hrel;by_cases hlt:k<n
  ·have hkz:(k:Int)<(n:Int):=jO
   obtain ⟨g,o,rfl,hgl,h2⟩:=HX.out jO;have hb:=h2 k hlt;have r0:=(BW.out.cell (p:=⟨g,o+k*2,none⟩) hgl).trans hb.c0;have r1:=(BW.out.cell (p:=⟨g,o+k*2+1,none⟩) hgl).trans hb.c1;obtain ⟨B,hB⟩:∃ B,wr.heap.size=B:=⟨_,rfl⟩
   have K:=λW h=>HF.out W k hlt h;generalize Lst.Ks l k=mm at r0 r1 K;obtain ⟨W2,hW2⟩:∃ W2,W2=wr.alloc (.cells #[.string ⟨mm.1.toArray⟩,.string ⟨mm.2.toArray⟩] 28):=⟨_,rfl⟩
   have d0:W2.cell? ⟨B,0,none⟩=some (.string ⟨mm.1.toArray⟩):=by rw [hW2,<- hB];go_simp
   have d1:W2.cell? ⟨B,1,none⟩=some (.string ⟨mm.2.toArray⟩):=by rw [hW2,<- hB];go_simp
   have b2:Below wr.heap.size wr W2:=by rw [hW2];exact Ac _ _
   have B2:=jH (Aa BW.out b2);have S2:=jH (SW.out.Ae b2);have HW2:=jH hW2.symm;have K:=jH (K W2 B2.out);have hs2:=B2.out.size;clear hb h2 b2 hW2;go_upto_region 5 with (fail)
   rw [HW2.out];go_wp2_with fail;refine K.out.mono ?_;rintro e w3 ⟨rfl,hb⟩;have B3:=jH (Aa B2.out hb);have S3:=jH (S2.out.Ae hb);have hs3:=B3.out.size;have htl:(Lst.told k tell).length<=1000000:=by rw [Lst.Hz];omega
   clear hb r0 r1 d0 d1;go_wp2_with (at_builtin;refine Wr w3 w.heap.size _ _ S3.out hs3 htl (tell k) w3.heap.size rfl rfl _ _ rfl rfl rfl ?_;intro v4 w4 ho4 hb4;have S4:=jH (show Bl w.heap.size v4 (Lst.told (k+1) tell) w4 by (rw [Lst.Adn];exact ho4));have B4:=jH (B3.out.trans hb4);clear ho4 hb4);go_roundg (n - (k+1))
   case measure=>omega
   case rel=>exact ⟨k+1,by omega,by omega,by go_num,B4.out,S4.out⟩
  ·have hkz:¬ (k:Int)<(n:Int):=jO
   obtain rfl:k=n:=jO
   have K:=jH (Ns w.heap.size _ (Lst.told k tell) [44,32] wr SW.out (by rw [Lst.Hz];omega) (Lst.join_le _ (λx hx=>by
    unfold Lst.told at hx;rw [List.mem_map] at hx;obtain ⟨i,hi,rfl⟩:=hx;exact HJ.out.each i (List.mem_range.1 hi)) (by rw [Lst.Hz];omega)))
   go_wp2_with fail;refine K.out.mono ?_;rintro e w3 ⟨rfl,hb⟩;have B3:=jH (Aa BW.out hb);clear hb;go_wp2;go_ret;exact ⟨rfl,B3.out⟩
theorem Ahw (v:Value) (l:List Lst.Ent) (tell:Nat->List UInt8) (w:World) (hl:Ov v l w) (J:Afv l.length tell) (f:Nat) (ef:∀ args w,(callFunc f args).run prog w=.ok (.enter f args) w)
  (hf:∀ W i u,i<l.length->Pe u (Lst.Eu l i).boxes W->Calls prog f #[.agg #[.string ⟨(Lst.Eu l i).name.toArray⟩,.bool (Lst.Eu l i).grp,u]] W λe w'=>e=.returned (.string ⟨(tell i).toArray⟩)/\Below W.heap.size W w') :
  Calls prog 34 #[v,.func (.func f) #[] #[]] w λe w'=>e=.returned (.string ⟨(Lib.join (Lst.told l.length tell) [44,32]).toArray⟩)/\Below w.heap.size w w':=by
 have HF:=jH hf;obtain ⟨A,c,rfl,hc,hx⟩:=hl;have HX:=jH hx;have HJ:=jH J;have hn:=J.len;clear hf hx J;obtain ⟨n,hnn⟩:∃ n,n=l.length:=⟨_,rfl⟩
 rw [<- hnn] at hc HX HF HJ hn ⊢;clear hnn;go_enter func34,ntmps34;go_wp2;go_loopg [5,10] n (λgg s5 s10 wr=>∃ k:Nat,k<=n/\n - k<=gg/\s10=.int .i64 k/\Hid (Below w.heap.size w wr)/\Hid (Bl w.heap.size s5 (Lst.told k tell) wr))
 case atStart=>exact ⟨0,Nat.zero_le _,by omega,rfl,jan _ w,World.ownsRow_nil _ _ _ _⟩
 case round =>
  obtain ⟨k,hk,hg,rfl,BW,SW⟩:=hrel;by_cases hlt:k<n
  ·have hkz:(k:Int)<(n:Int):=jO
   obtain ⟨g,o,rfl,hgl,h2⟩:=HX.out jO;obtain ⟨u,E0⟩:=h2 k hlt;have Ek:=E0.Ae hgl BW.out;have q0:=Ek.c0;have q1:=Ek.c1;have q2:=Ek.c2;have hbx:=Ek.boxes;obtain ⟨B,hB⟩:∃ B,wr.heap.size=B:=⟨_,rfl⟩
   have K:=λW=>HF.out W k u hlt;simp only at q0 q1 hbx;generalize Lst.Eu l k=y at q0 q1 K hbx;obtain ⟨A2,d,hu,-,-⟩:=id hbx;subst hu;obtain ⟨W2,hW2⟩:∃ W2,W2=wr.alloc (.cells #[.string ⟨y.name.toArray⟩,.bool y.grp,.slice A2 y.boxes.length d] 47):=⟨_,rfl⟩
   have d0:W2.cell? ⟨B,0,none⟩=some (.string ⟨y.name.toArray⟩):=by rw [hW2,<- hB];go_simp
   have d1:W2.cell? ⟨B,1,none⟩=some (.bool y.grp):=by rw [hW2,<- hB];go_simp
   have d2:W2.cell? ⟨B,2,none⟩=some (.slice A2 y.boxes.length d):=by rw [hW2,<- hB];go_simp
   have b2:Below wr.heap.size wr W2:=by rw [hW2];exact Ac _ _
   have B2:=jH (Aa BW.out b2);have S2:=jH (SW.out.Ae b2);have HW2:=jH hW2.symm;have K:=jH (K W2 (hbx.Ae b2));have hs2:=B2.out.size;clear hbx h2 b2 hW2 E0 Ek;go_upto_region 5 with (fail)
   rw [HW2.out];go_wp2_with fail;refine K.out.mono ?_;rintro e w3 ⟨rfl,hb⟩;have B3:=jH (Aa B2.out hb);have S3:=jH (S2.out.Ae hb);have hs3:=B3.out.size;have htl:(Lst.told k tell).length<=1000000:=by rw [Lst.Hz];omega
   clear hb q0 q1 q2 d0 d1 d2;go_wp2_with (at_builtin;refine Wr w3 w.heap.size _ _ S3.out hs3 htl (tell k) w3.heap.size rfl rfl _ _ rfl rfl rfl ?_;intro v4 w4 ho4 hb4;have S4:=jH (show Bl w.heap.size v4 (Lst.told (k+1) tell) w4 by (rw [Lst.Adn];exact ho4));have B4:=jH (B3.out.trans hb4);clear ho4 hb4);go_roundg (n - (k+1))
   case measure=>omega
   case rel=>exact ⟨k+1,by omega,by omega,by go_num,B4.out,S4.out⟩
  ·have hkz:¬ (k:Int)<(n:Int):=jO
   obtain rfl:k=n:=jO
   have K:=jH (Ns w.heap.size _ (Lst.told k tell) [44,32] wr SW.out (by rw [Lst.Hz];omega) (Lst.join_le _ (λx hx=>by
    unfold Lst.told at hx;rw [List.mem_map] at hx;obtain ⟨i,hi,rfl⟩:=hx;exact HJ.out.each i (List.mem_range.1 hi)) (by rw [Lst.Hz];omega)))
   go_wp2_with fail;refine K.out.mono ?_;rintro e w3 ⟨rfl,hb⟩;have B3:=jH (Aa BW.out hb);clear hb;go_wp2;go_ret;exact ⟨rfl,B3.out⟩
end
section
open Go.RowKit Utf
namespace Lst
theorem Adm {α:Type} (f:α->List UInt8):∀ (l:List α) (tell:Nat->List UInt8),(∀ i (h:i<l.length),tell i=f l[i])->told l.length tell=l.map f:=by
 intro l tell h;apply List.ext_getElem
 ·rw [Hz,jai]
 ·intro i h1 h2;rw [Hz] at h1;simp only [told,List.getElem_map,List.getElem_range];exact h i h1
theorem Ac0:∀ l:List Box,rowP l=Lib.join (l.map Fi) [44,32]
 | []=>rfl
 | [x]=>by rw [List.map_cons,List.map_nil,Lib.join_one];rfl
 | x::y::l=>by
  have ih:=Ac0 (y::l);rw [List.map_cons,Lib.join_cons] at ih;rw [List.map_cons,Lib.join_cons];show Fi x ++ 44::32::rowP (y::l)=_;rw [ih];rfl
theorem Yd:∀ l:List Ent,Mn l=Lib.join (l.map Hs) [44,32]
 | []=>rfl
 | [x]=>by rw [List.map_cons,List.map_nil,Lib.join_one];rfl
 | x::y::l=>by
  have ih:=Yd (y::l);rw [List.map_cons,Lib.join_cons] at ih;rw [List.map_cons,Lib.join_cons];show Hs x ++ 44::32::Mn (y::l)=_;rw [ih];rfl
structure A09 (l:List Ent):Prop where
 len:l.length<=1000
 name:∀ e ∈ l,e.name.length<=10000
 many:∀ e ∈ l,e.boxes.length<=1000
 box:∀ e ∈ l,∀ m ∈ e.boxes,m.1.length<=10000/\m.2.length<=10000
theorem Wz {m:Box} (h:m.1.length<=10000/\m.2.length<=10000):(Fi m).length<=40000:=by
 have:=Mbx.Acd m.1;unfold Fi;rw [jab,jac];omega
theorem Apw {x:List UInt8} (h:x.length<=10000):(Lex.Bd 1 x).length<=30000:=by
 have:=Lex.Aen x;rw [Lex.Bd,if_neg jD,if_neg jD,if_pos rfl];simp only [jac,jab,List.length_nil];omega
theorem Ze:∀ {l:List Box},(∀ m ∈ l,m.1.length<=10000/\m.2.length<=10000)->(rowP l).length<=l.length*40002
 | [],_=>Nat.zero_le _
 | [m],h=>by have:=Wz (h m jS);simp only [rowP,jac,List.length_nil];omega
 | m::n::r,h=>by
  have h1:=Wz (h m jS);have h2:=Ze (l:=n::r) λk hk=>h k (by simp [jal.1 hk]);rw [rowP,jab];simp only [jac] at h2 ⊢;omega
theorem Av0 {e:Ent} (h1:e.name.length<=10000) (h2:e.boxes.length<=1000) (h3:∀ m ∈ e.boxes,m.1.length<=10000/\m.2.length<=10000):(Hs e).length<=100000000:=by
 have k1:=Apw h1;have k2:=Ze h3;unfold Hs;split
 ·simp only [jab,jac,List.length_nil];omega
 ·split
  · omega
  · simp only [jab,jac,List.length_nil];omega
end Lst
theorem Ho (x:List UInt8):(⟨x.toArray⟩:ByteArray).size=x.length:=by simp [ByteArray.size]
theorem Akd (e:Lst.Ent) (u:Value) (w:World) (hu:Pe u e.boxes w) (h1:e.name.length<=10000) (h2:e.boxes.length<=1000) (h3:∀ m ∈ e.boxes,m.1.length<=10000/\m.2.length<=10000) :
  Calls prog 35 #[.agg #[.string ⟨e.name.toArray⟩,.bool e.grp,u]] w λr w'=>r=.returned (.string ⟨(Lst.Hs e).toArray⟩)/\Below w.heap.size w w':=by
 obtain ⟨B,hB⟩:∃ B,w.heap.size=B:=⟨_,rfl⟩
 obtain ⟨nm,hnm⟩:∃ nm:ByteArray,nm=⟨e.name.toArray⟩:=⟨_,rfl⟩
 rw [<- hnm];obtain ⟨A2,c2,rfl,-,-⟩:=id hu;obtain ⟨W1,hW1⟩:∃ W1,W1=w.alloc (.cells #[.string nm,.bool e.grp,.slice A2 e.boxes.length c2] 47):=⟨_,rfl⟩
 have b1:Below w.heap.size w W1:=by rw [hW1];exact Ac _ _
 have B1:=jH b1;have d0:W1.cell? ⟨B,0,none⟩=some (.string nm):=by rw [hW1,<- hB];go_simp
 have d1:W1.cell? ⟨B,1,none⟩=some (.bool e.grp):=by rw [hW1,<- hB];go_simp
 have d2:W1.cell? ⟨B,2,none⟩=some (.slice A2 e.boxes.length c2):=by rw [hW1,<- hB];go_simp
 have K1:=Ahx _ e.boxes (λi=>Lst.Fi (Lst.Ks e.boxes i)) W1 (hu.Ae b1) ⟨h2,λi hi=>by have:=Lst.Wz (h3 _ (Lst.Nf hi));omega⟩ 56 (enters_of func56 jK rfl)
  (λW i hi _=>Am8 _ _ W (by rw [Ho];exact (h3 _ (Lst.Nf hi)).1) (by rw [Ho];have:=(h3 _ (Lst.Nf hi)).2;omega))
 rw [Lst.Adm Lst.Fi e.boxes _ (λi hi=>by unfold Lst.Ks;rw [List.getD_eq_getElem?_getD,List.getElem?_eq_getElem hi];rfl),<- Lst.Ac0] at K1;have K1:=jH K1;have K2:=jH (λW=>Yc.A2c 1 0 nm W (by rw [hnm,Ho];omega) (x:=Lex.Bd 1 e.name) (by subst hnm;rfl));obtain ⟨Q,hQ⟩:∃ Q:ByteArray,Q=⟨(Lex.Bd 1 e.name).toArray⟩:=⟨_,rfl⟩
 obtain ⟨R,hR⟩:∃ R:ByteArray,R=⟨(Lst.rowP e.boxes).toArray⟩:=⟨_,rfl⟩
 have hQs:Q.size<=30000:=by rw [hQ,Ho];exact Lst.Apw h1
 have hRs:R.size<=100000000:=by rw [hR,Ho];have:=Lst.Ze h3;omega
 rw [<- hQ] at K2;rw [<- hR] at K1;have HW1:=jH hW1.symm;have hBl:B<W1.heap.size:=by rw [hW1,World.size_alloc];omega
 cases hg:e.grp
 case true =>
  rw [hg] at d1 HW1;have E:=jH (show (⟨(Lst.Hs e).toArray⟩:ByteArray)=Q ++ ⟨#[58]⟩ ++ R ++ ⟨#[59]⟩ by
   rw [hQ,hR,Lst.Hs,if_pos hg,show (⟨#[58]⟩:ByteArray)=⟨[58].toArray⟩ from rfl,show (⟨#[59]⟩:ByteArray)=⟨[59].toArray⟩ from rfl,Lex.Gv,Lex.Gv,Lex.Gv]
   first | done | simp)
  clear hW1 hu hnm b1 hQ hR;go_enter func35,ntmps35;go_upto_region 1 with (fail)
  rw [HW1.out];go_wp2_with fail;refine K1.out.mono ?_;rintro r w2 ⟨rfl,hb⟩;have B2:=jH (Aa B1.out hb);have e0:=(hb.cell (p:=⟨B,0,none⟩) hBl).trans d0;have e1:=(hb.cell (p:=⟨B,1,none⟩) hBl).trans d1;have hB2:=jas hBl hb.size;clear hb d0 d1 d2;go_wp2_with fail;refine (K2.out _).mono ?_;rintro r w3 ⟨rfl,hb⟩;have B3:=jH (Aa B2.out hb);have f0:=(hb.cell (p:=⟨B,0,none⟩) hB2).trans e0;have f1:=(hb.cell (p:=⟨B,1,none⟩) hB2).trans e1;clear hb e0 e1;go_wp2;go_ret;exact ⟨by rw [E.out];rfl,B3.out⟩
 case false =>
  rw [hg] at d1 HW1;by_cases hn:e.name=[]
  ·have e9:nm=⟨#[]⟩:=by rw [hnm,hn]
   have E:=jH (show (⟨(Lst.Hs e).toArray⟩:ByteArray)=R by rw [hR,Lst.Hs,if_neg (by rw [hg];decide),if_pos hn]);clear hW1 hu hnm b1 hQ hR hn;subst e9;go_enter func35,ntmps35;go_upto_region 1 with (fail)
   rw [HW1.out];go_wp2_with fail;refine K1.out.mono ?_;rintro r w2 ⟨rfl,hb⟩;have B2:=jH (Aa B1.out hb);have e0:=(hb.cell (p:=⟨B,0,none⟩) hBl).trans d0;have e1:=(hb.cell (p:=⟨B,1,none⟩) hBl).trans d1;have hB2:=jas hBl hb.size;clear hb d0 d1 d2;go_wp2_with fail;refine (K2.out _).mono ?_;rintro r w3 ⟨rfl,hb⟩;have B3:=jH (Aa B2.out hb);have f0:=(hb.cell (p:=⟨B,0,none⟩) hB2).trans e0;have f1:=(hb.cell (p:=⟨B,1,none⟩) hB2).trans e1;clear hb e0 e1;go_wp2;go_ret;exact ⟨by rw [E.out];rfl,B3.out⟩
  ·have e9:(nm.toList == [])=false:=by
    rw [hnm,ByteArray.toList_eq,beq_eq_false_iff_ne];exact hn
   have E:=jH (show (⟨(Lst.Hs e).toArray⟩:ByteArray)=Q ++ ⟨#[32]⟩ ++ ⟨#[60]⟩ ++ R ++ ⟨#[62]⟩ by
    rw [hQ,hR,Lst.Hs,if_neg (by rw [hg];decide),if_neg hn,show (⟨#[32]⟩:ByteArray)=⟨[32].toArray⟩ from rfl,show (⟨#[60]⟩:ByteArray)=⟨[60].toArray⟩ from rfl,show (⟨#[62]⟩:ByteArray)=⟨[62].toArray⟩ from rfl,Lex.Gv,Lex.Gv,Lex.Gv,Lex.Gv]
    first | done | simp)
   clear hW1 hu hnm b1 hQ hR hn;go_enter func35,ntmps35;go_upto_region 1 with (fail)
   rw [HW1.out];go_wp2_with fail;refine K1.out.mono ?_;rintro r w2 ⟨rfl,hb⟩;have B2:=jH (Aa B1.out hb);have e0:=(hb.cell (p:=⟨B,0,none⟩) hBl).trans d0;have e1:=(hb.cell (p:=⟨B,1,none⟩) hBl).trans d1;have hB2:=jas hBl hb.size;clear hb d0 d1 d2;go_wp2_with fail;refine (K2.out _).mono ?_;rintro r w3 ⟨rfl,hb⟩;have B3:=jH (Aa B2.out hb);have f0:=(hb.cell (p:=⟨B,0,none⟩) hB2).trans e0;have f1:=(hb.cell (p:=⟨B,1,none⟩) hB2).trans e1;clear hb e0 e1;go_wp2;go_ret;exact ⟨by rw [E.out];rfl,B3.out⟩
theorem Am6 (v:Value) (l:List Lst.Ent) (w:World) (hl:Ov v l w) (F:Lst.A09 l) {z:List UInt8} (hz:Lst.Mn l=z) :
  Calls prog 14 #[v] w λr w'=>r=.returned (.string ⟨z.toArray⟩)/\Below w.heap.size w w':=by
 subst hz;have K:=Ahw v l (λi=>Lst.Hs (Lst.Eu l i)) w hl ⟨F.len,λi hi=>Lst.Av0 (F.name _ (Lst.E6 hi)) (F.many _ (Lst.E6 hi)) (F.box _ (Lst.E6 hi))⟩ 35 (enters_of func35 jK rfl)
  (λW i u hi hu=>Akd _ u W hu (F.name _ (Lst.E6 hi)) (F.many _ (Lst.E6 hi)) (F.box _ (Lst.E6 hi)))
 rw [Lst.Adm Lst.Hs l _ (λi hi=>by unfold Lst.Eu;rw [List.getD_eq_getElem?_getD,List.getElem?_eq_getElem hi];rfl),<- Lst.Yd] at K;have K:=jH K;clear hl F;go_enter func14,ntmps14;go_wp2_with fail;refine K.out.mono ?_;rintro r w3 ⟨rfl,hb⟩;have B3:=jH hb;clear hb;go_wp2;go_ret;exact ⟨rfl,B3.out⟩
end
