import Derived.Test.YtickpkccpafjaaaGreatDoorMbxTaker
import Derived.Test.YtickpkccpafjaaaGreatDoorMbxBox
set_option maxRecDepth 100000
set_option maxHeartbeats 4000000
namespace Go.Proofs.YtickpkccpafjaaaGreatDoor
open Tryz
section
open Go.RowKit Utf Go.Shelf
namespace Mbx
theorem Cm {l:List S} {n:Nat} (h:n<l.length):l.drop n=l[n]::l.drop (n+1):=List.drop_eq_getElem_cons h
theorem Hr {l:List S} {n:Nat} (h:l.length<=n):l.drop n=[]:=List.drop_of_length_le h
theorem Tn {l:List S} {n:Nat} (h:n<l.length) (q:Int):isK l n q=(l[n].1 == q):=by unfold isK;rw [List.getElem?_eq_getElem h]
theorem Az2 {l:List S} {n:Nat} (h:l.length<=n) (q:Int):isK l n q=false:=by unfold isK;rw [List.getElem?_eq_none h]
theorem Oe {l:List S} {n:Nat} {q:Int} (h:isK l n q=true):∃ h:n<l.length,l[n].1=q:=by
 by_cases hn:n<l.length
 ·rw [Tn hn] at h;exact ⟨hn,by simpa using h⟩
 ·rw [Az2 jO] at h;cases h
theorem Fc {l:List S} {n:Nat} {t:List UInt8} (h:isS l n t=true):∃ h:n<l.length,l[n]=(2,t):=by
 unfold isS at h;rw [decide_eq_true_eq] at h;obtain ⟨h1,h2⟩:=List.getElem?_eq_some_iff.1 h;exact ⟨h1,h2⟩
theorem Ajv {l:List S} {n:Nat} (h:n<l.length) (hk:l[n].1=4\/l[n].1=3):skip (l.drop n)=skip (l.drop (n+1))+1:=by
 rw [Cm h,skip,if_pos (by unfold Az;rcases hk with h | h<;>rw [h]<;>rfl)]
theorem A0y {l:List S} {n:Nat} (h4:isK l n 4=false) (h3:isK l n 3=false):skip (l.drop n)=0:=by
 by_cases hn:n<l.length
 ·rw [Tn hn] at h4 h3;rw [Cm hn,skip,if_neg (by unfold Az;rw [h4,h3];decide)]
 ·rw [Hr jO];rfl
theorem Aw3 {l:List S} {n:Nat} (h1:isS l n [46]=true) (h:n+1<l.length) (h2:l[n+1].1=0):more (l.drop n)=(46::(l[n+1].2 ++ (more (l.drop (n+2))).1),(more (l.drop (n+2))).2+2):=by
 obtain ⟨h3,h4⟩:=Fc h1;rw [Cm h3,Cm h,more,if_pos ⟨h4,h2⟩]
theorem Apj {l:List S} {n:Nat} (h:isS l n [46]=false\/isK l (n+1) 0=false):more (l.drop n)=([],0):=by
 by_cases hn:n<l.length
 ·by_cases hn1:n+1<l.length
  ·rw [Cm hn,Cm hn1,more,if_neg];rintro ⟨e1,e2⟩;rcases h with h | h
   ·unfold isS at h;rw [List.getElem?_eq_getElem hn,e1] at h;simp at h
   ·rw [Tn hn1,e2] at h;cases h
  ·rw [Cm hn,Hr (n:=n+1) jO];rfl
 ·rw [Hr jO];rfl
theorem Auk {l:List S} {n:Nat} (h:n<l.length) (hk:l[n].1=0):words (l.drop n)=some (l[n].2 ++ (more (l.drop (n+1))).1,(more (l.drop (n+1))).2+1):=by
 rw [Cm h,words,if_pos hk]
theorem Ay2 {l:List S} {n:Nat} (h:isK l n 0=false):words (l.drop n)=none:=by
 by_cases hn:n<l.length
 ·rw [Tn hn] at h;rw [Cm hn,words,if_neg (by simpa using h)]
 ·rw [Hr jO];rfl
theorem Ar5 {l:List S} {n:Nat} (h:n<l.length) (hk:l[n].1=1):Ed (l.drop n)=some (l[n].2,1):=by
 rw [Cm h,Ed,if_pos hk]
theorem Awv {l:List S} {n:Nat} (h:isK l n 1=false):Ed (l.drop n)=words (l.drop n):=by
 by_cases hn:n<l.length
 ·rw [Tn hn] at h;rw [Cm hn,Ed,if_neg (by simpa using h)]
 ·rw [Hr jO];rfl
theorem Azo {l:List S} {n:Nat} (h:n<l.length) (hk:l[n].1=5):Po (l.drop n)=some (Lex.Bd 5 l[n].2,1):=by
 rw [Cm h,Po,if_pos hk]
theorem A1r {l:List S} {n:Nat} (h:isK l n 5=false):Po (l.drop n)=words (l.drop n):=by
 by_cases hn:n<l.length
 ·rw [Tn hn] at h;rw [Cm hn,Po,if_neg (by simpa using h)]
 ·rw [Hr jO];rfl
theorem Aju:∀ l:List S,skip l<=l.length
 | []=>jaa _
 | k::t=>by
  have:=Aju t;rw [skip,jac];split<;>omega
end Mbx
abbrev Bld (B:Nat) (z:List UInt8) (w:World):Prop:=Lib.IsBuilder (Hk.t 72) (Hk.t 5) B B (Lib.byteCells z) w
theorem Wx {B N:Nat} {p:Value} {z:List UInt8} {w w':World} (h:Lib.BuilderAt (Hk.t 72) (Hk.t 5) B B p (Lib.byteCells z) w) (hN:N<B) (ho:Ay N w w'):Lib.BuilderAt (Hk.t 72) (Hk.t 5) B B p (Lib.byteCells z) w':=by
 have hlt:=h.lt;obtain ⟨hB,v,hb,hown,hne⟩:=h;refine ⟨hB,v,(ho.block B hlt jO).trans hb,⟨hown.1,?_⟩,hne⟩;rcases hown.2 with h0 | ⟨g,cap,cur,rfl,h1,hg,h2⟩
 · exact .inl h0
 · exact .inr ⟨g,cap,cur,rfl,h1,(ho.block g (Array.getElem?_eq_some_iff.1 hg).1 jO).trans hg,h2⟩
theorem Bld.only {B N:Nat} {z:List UInt8} {w w':World} (h:Bld B z w) (hN:N<B) (ho:Ay N w w'):Bld B z w':=by
 rcases h with h | h
 · exact .inl (Wx h hN ho)
 · exact .inr (Wx h hN ho)
theorem Su (B:Nat) (z x:List UInt8) (W:World) (h:Bld B z W) (hl:z.length+x.length<=140737488355328) (hBw:B<=W.heap.size) :
  Calls prog 82 #[.pointer (some ⟨B,0,none⟩),.string ⟨x.toArray⟩] W λe w'=>(∃ n:Int,e=.returned (.tuple #[.int .i64 n,.nilIface]))/\Bld B (z ++ x) w'/\Below B W w':=by
 have hx:(⟨x.toArray⟩:ByteArray).size=x.length:=by simp [ByteArray.size]
 have K:=Any.Builder_WriteString { Tq with } Pv B B (Lib.byteCells z) ⟨x.toArray⟩ W h (by rw [Lib.byteCells_length,hx];exact hl) hBw;refine Calls.mono K ?_;rintro e w' ⟨rfl,h1,h2⟩;refine ⟨⟨_,rfl⟩,.inr ?_,h2⟩;rw [Lib.byteCells_append];exact h1
theorem Wy (B:Nat) (z:List UInt8) (W:World) (h:Bld B z W) (hBw:B<=W.heap.size) :
  Calls prog 83 #[.pointer (some ⟨B,0,none⟩)] W λe w'=>e=.returned (.string ⟨z.toArray⟩)/\Below B W w' :=
 Any.Builder_String_any { Tq with } Pv B B z W h hBw
theorem Aj6 (k p:Int) (u:ByteArray) (W:World):(Instr.field 68 (.agg #[.int .i64 k,.string u,.int .i64 p]) 1).run prog W=.ok (.string u) W:=by kernel_rfl
structure Few (l:List Mbx.S):Prop where
 len:l.length<=100000
 text:∀ k ∈ l,k.2.length<=100000
theorem Few.at {l:List Mbx.S} (F:Few l) {n:Nat} (h:n<l.length):l[n].2.length<=100000:=F.text _ (List.getElem_mem h)
theorem Am0 (N:Nat) (v:Value) (l:List Mbx.S) (n:Nat) (x y:ByteArray) (w:World) (H:Bb N v l n x y w) (hn:n<=l.length) (F:Few l) :
  Calls prog 64 #[.pointer (some ⟨N,0,none⟩)] w λe w'=>e=.returned (.bool true)/\Bb N v l (n+Mbx.skip (l.drop n)) x y w'/\Ay N w w':=by
 have hl:=F.len;obtain ⟨T,hT⟩:∃ T,T=n+Mbx.skip (l.drop n):=⟨_,rfl⟩
 rw [<- hT];have HT:=jH hT;have HH:=jH H;clear hT F H;go_enter func64,ntmps64;go_wp2;go_loopg [3] (l.length+1) (λgk _ wr=>∃ m:Nat,m<=l.length/\l.length - m<gk/\Hid (m+Mbx.skip (l.drop m)=T/\Bb N v l m x y wr/\Ay N w wr))
 case atStart=>exact ⟨n,hn,by omega,jH ⟨HT.out.symm,HH.out,Ay.refl _ _⟩⟩
 case round =>
  obtain ⟨m,hm,hg,I⟩:=hrel;have K4:=Ls N v l m x y wr I.out.2.1 0 4 jO jO;rw [Nat.add_zero] at K4;cases h4:Mbx.isK l m 4
  ·rw [h4] at K4;have K4:=jH K4;have K3:Hid (∀ W,Below wr.heap.size wr W->Calls prog 99 #[.pointer (some ⟨N,0,none⟩),.int .i64 0,.int .i64 3] W λe w'=>e=.returned (.bool (Mbx.isK l m 3))/\Below W.heap.size W w'):=jH λW hW=>by
    have:=Ls N v l m x y W (I.out.2.1.Ae hW) 0 3 jO jO;rwa [Nat.add_zero] at this
   cases h3:Mbx.isK l m 3
   ·rw [h3] at K3;have E:=jH (show m=T by have:=I.out.1;rwa [Mbx.A0y h4 h3] at this);clear h3 h4;go_wp2_with fail;refine K4.out.mono ?_;rintro e w1 ⟨rfl,hb1⟩;have B1:=jH hb1;clear hb1;go_wp2_with fail;refine (K3.out w1 B1.out).mono ?_;rintro e w2 ⟨rfl,hb2⟩;have B2:=jH (Aa B1.out hb2);clear hb2;go_wp2;go_ret;have:=E.out;subst this;exact ⟨rfl,I.out.2.1.Ae B2.out,I.out.2.2.then (B2.out.mono I.out.2.2.size)⟩
   ·rw [h3] at K3;obtain ⟨hlt,hk⟩:=Mbx.Oe h3;have E:=jH (show m+1+Mbx.skip (l.drop (m+1))=T by have:=I.out.1;rw [Mbx.Ajv hlt (.inr hk)] at this;omega);clear h3 h4 hk;go_wp2_with fail;refine K4.out.mono ?_;rintro e w1 ⟨rfl,hb1⟩;have B1:=jH hb1;clear hb1;go_wp2_with fail;refine (K3.out w1 B1.out).mono ?_;rintro e w2 ⟨rfl,hb2⟩;have B2:=jH (Aa B1.out hb2);clear hb2;go_wp2_with fail;refine (F8 N v l m x y w2 (I.out.2.1.Ae B2.out) hlt jO).mono ?_;rintro e w3 ⟨⟨p,rfl⟩,h3,o3⟩;have I2:Hid (m+1+Mbx.skip (l.drop (m+1))=T/\Bb N v l (m+1) x y w3/\Ay N w w3):=jH ⟨E.out,h3,(I.out.2.2.then (B2.out.mono I.out.2.2.size)).trans o3⟩;clear h3 o3;go_wp2;go_roundg (l.length - m)
    case measure=>omega
    case rel=>exact ⟨m+1,by omega,by omega,I2⟩
  ·rw [h4] at K4;have K4:=jH K4;obtain ⟨hlt,hk⟩:=Mbx.Oe h4;have E:=jH (show m+1+Mbx.skip (l.drop (m+1))=T by have:=I.out.1;rw [Mbx.Ajv hlt (.inl hk)] at this;omega);clear h4 hk;go_wp2_with fail;refine K4.out.mono ?_;rintro e w2 ⟨rfl,hb2⟩;have B2:=jH hb2;clear hb2;go_wp2_with fail;refine (F8 N v l m x y w2 (I.out.2.1.Ae B2.out) hlt jO).mono ?_;rintro e w3 ⟨⟨p,rfl⟩,h3,o3⟩;have I2:Hid (m+1+Mbx.skip (l.drop (m+1))=T/\Bb N v l (m+1) x y w3/\Ay N w w3):=jH ⟨E.out,h3,(I.out.2.2.then (B2.out.mono I.out.2.2.size)).trans o3⟩;clear h3 o3;go_wp2;go_roundg (l.length - m)
   case measure=>omega
   case rel=>exact ⟨m+1,by omega,by omega,I2⟩
theorem Z7 (N:Nat) (v:Value) (l:List Mbx.S) (n:Nat) (x y:ByteArray) (w:World) (H:Bb N v l n x y w) (hn:n<=l.length) (F:Few l) :
  Calls prog 101 #[.pointer (some ⟨N,0,none⟩)] w λe w'=>Ay N w w'/\((Mbx.words (l.drop n)=none/\e=.returned (.tuple #[.string ⟨#[]⟩,.bool false])/\Bb N v l n x y w')\/∃ z q,Mbx.words (l.drop n)=some (z,q)/\e=.returned (.tuple #[.string ⟨z.toArray⟩,.bool true])/\Bb N v l (n+q) x y w'):=by
 have hl:=F.len;have HF:=jH F;clear F;have K0:=Ls N v l n x y w H 0 0 jO jO;rw [Nat.add_zero] at K0;cases h0:Mbx.isK l n 0
 ·rw [h0] at K0;have K0:=jH K0;have E:=jH (Mbx.Ay2 h0);have HH:=jH H;clear h0 H;go_enter func101,ntmps101;go_wp2_with fail;refine K0.out.mono ?_;rintro e w1 ⟨rfl,hb1⟩;have B1:=jH hb1;clear hb1;go_wp2;go_ret2;exact ⟨Ay.of B1.out,.inl ⟨E.out,rfl,HH.out.Ae B1.out⟩⟩
 ·rw [h0] at K0;have K0:=jH K0;obtain ⟨hlt,hk⟩:=Mbx.Oe h0;obtain ⟨Z,hZ⟩:∃ Z,Z=l[n].2 ++ (Mbx.more (l.drop (n+1))).1:=⟨_,rfl⟩
  obtain ⟨M,hM⟩:∃ M,M=n+1+(Mbx.more (l.drop (n+1))).2:=⟨_,rfl⟩
  have E:=jH (show Mbx.words (l.drop n)=some (Z,(Mbx.more (l.drop (n+1))).2+1) by rw [Mbx.Auk hlt hk,hZ]);have EM:=jH (show n+((Mbx.more (l.drop (n+1))).2+1)=M by rw [hM];omega);have HZ:=jH hZ;have HM:=jH hM;have HH:=jH H;have hx0:l[n].2.length<=100000:=HF.out.at hlt;have hNl:=H.lt;clear h0 H hZ hM hk;go_enter func101,ntmps101;go_wp2_with fail;refine K0.out.mono ?_;rintro e w1 ⟨rfl,hb1⟩;have B1:=jH hb1;have hs1:=hb1.size;have fld:=Aj6;have hF1:=Lib.fresh_isBuilder (Hk.t 72) (Hk.t 5) w1;have hT1:=(HH.out.Ae hb1).Ae (Ac w1 (.cells #[.pointer none,.slice none 0 0] 120));have hO1:Ay N w (w1.alloc (.cells #[.pointer none,.slice none 0 0] 120)):=Ay.of (Aa hb1 (Ac _ _));obtain ⟨W1,hW1⟩:∃ W1,W1=w1.alloc (.cells #[.pointer none,.slice none 0 0] 120):=⟨_,rfl⟩
  have hz1:w1.heap.size<W1.heap.size:=by rw [hW1];simp
  rw [<- hW1] at hT1 hO1;have hF1:Bld w1.heap.size [] W1:=by rw [hW1];exact hF1
  have HF1:=jH hF1;have HT1:=jH hT1;have HO1:=jH hO1;clear hb1 hF1 hT1 hO1;go_wp2_with fail;rw [<- hW1];clear hW1;refine (F8 N v l n x y W1 HT1.out hlt jO).mono ?_;rintro e w2 ⟨⟨p,rfl⟩,hT2,hO2⟩;have HF2:=jH (HF1.out.only (show N<w1.heap.size by omega) hO2);have HT2:=jH hT2;have HO2:=jH (HO1.out.trans hO2);have hs2:=hO2.size;clear hT2 hO2;go_wp2_with fail;refine (Su w1.heap.size [] l[n].2 w2 HF2.out (by simp;omega) jO).mono ?_;rintro e w3 ⟨⟨p3,rfl⟩,hF3,hb3⟩;rw [List.nil_append] at hF3;have HF3:=jH hF3;have HT3:=jH (HT2.out.kept λk hk=>hb3.block k jO);have HO3:=jH (HO2.out.then (hb3.mono hs1));have hs3:=hb3.size;clear hF3 hb3;go_wp2;go_loopg [12] (l.length+1) (λgk _ wr=>∃ (m:Nat) (z:List UInt8),m<=l.length/\l.length - m<gk/\Hid (z ++ (Mbx.more (l.drop m)).1=Z/\m+(Mbx.more (l.drop m)).2=M/\z.length<=100001*m/\Bb N v l m x y wr/\Ay N w wr/\Bld w1.heap.size z wr/\w1.heap.size<=wr.heap.size))
  case atStart=>exact ⟨n+1,l[n].2,by omega,by omega,jH ⟨HZ.out.symm,HM.out.symm,by omega,HT3.out,HO3.out,HF3.out,by omega⟩⟩
  case round =>
   obtain ⟨m,z,hm,hg,I⟩:=hrel;have KS:=Xx N v l m x y wr I.out.2.2.2.1 [46] ⟨#[46]⟩ rfl jO jO;have K1:Hid (∀ W,Below wr.heap.size wr W->Calls prog 99 #[.pointer (some ⟨N,0,none⟩),.int .i64 1,.int .i64 0] W λe w'=>e=.returned (.bool (Mbx.isK l (m+1) 0))/\Below W.heap.size W w'):=jH λW hW=>Ls N v l m x y W (I.out.2.2.2.1.Ae hW) 1 0 jO jO;cases hS:Mbx.isS l m [46]
   ·rw [hS] at KS;have KS:=jH KS;have E2:=jH (show z=Z/\m=M by
     have h1:=I.out.1;have h2:=I.out.2.1;rw [Mbx.Apj (.inl hS)] at h1 h2;exact ⟨by simpa using h1,h2⟩)
    clear hS;go_wp2_with fail;refine KS.out.mono ?_;rintro e w4 ⟨rfl,hb4⟩;have B4:=jH hb4;have hs4:=hb4.size;have hw4:=I.out.2.2.2.2.2.2;clear hb4;go_wp2_with fail;refine (Wy w1.heap.size z w4 (I.out.2.2.2.2.2.1.only (show N<w1.heap.size by omega) (Ay.of B4.out)) jO).mono ?_;rintro e w5 ⟨rfl,hb5⟩;have B5:=jH hb5;clear hb5;go_wp2;go_ret2;obtain ⟨rfl,rfl⟩:=E2.out;refine ⟨(I.out.2.2.2.2.1.then (B4.out.mono I.out.2.2.2.2.1.size)).then (B5.out.mono hs1),.inr ⟨z,_,E.out,rfl,?_⟩⟩;rw [EM.out];exact (I.out.2.2.2.1.Ae B4.out).kept λk hk=>B5.out.block k jO
   ·rw [hS] at KS;have KS:=jH KS;cases hK:Mbx.isK l (m+1) 0
    ·rw [hK] at K1;have E2:=jH (show z=Z/\m=M by
      have h1:=I.out.1;have h2:=I.out.2.1;rw [Mbx.Apj (.inr hK)] at h1 h2;exact ⟨by simpa using h1,h2⟩)
     clear hS hK;go_wp2_with fail;refine KS.out.mono ?_;rintro e w4 ⟨rfl,hb4⟩;have B4:=jH hb4;clear hb4;go_wp2_with fail;refine (K1.out w4 B4.out).mono ?_;rintro e w6 ⟨rfl,hb6⟩;have B6:=jH (Aa B4.out hb6);have hs6:=B6.out.size;have hw6:=I.out.2.2.2.2.2.2;clear hb6;go_wp2_with fail;refine (Wy w1.heap.size z w6 (I.out.2.2.2.2.2.1.only (show N<w1.heap.size by omega) (Ay.of B6.out)) jO).mono ?_;rintro e w5 ⟨rfl,hb5⟩;have B5:=jH hb5;clear hb5;go_wp2;go_ret2;obtain ⟨rfl,rfl⟩:=E2.out;refine ⟨(I.out.2.2.2.2.1.then (B6.out.mono I.out.2.2.2.2.1.size)).then (B5.out.mono hs1),.inr ⟨z,_,E.out,rfl,?_⟩⟩;rw [EM.out];exact (I.out.2.2.2.1.Ae B6.out).kept λk hk=>B5.out.block k jO
    ·rw [hK] at K1;obtain ⟨hlt1,hk1⟩:=Mbx.Oe hK;obtain ⟨hlt0,hk0⟩:=Mbx.Fc hS;have hm2:=Mbx.Aw3 hS hlt1 hk1;have hx1:l[m+1].2.length<=100000:=HF.out.at hlt1;have ht0:=jH (show l[m].2=[46] by rw [hk0]);have E2:=jH (show (z ++ [46] ++ l[m+1].2) ++ (Mbx.more (l.drop (m+2))).1=Z/\m+2+(Mbx.more (l.drop (m+2))).2=M/\(z ++ [46] ++ l[m+1].2).length<=100001*(m+2) by
      have h1:=I.out.1;have h2:=I.out.2.1;have h3:=I.out.2.2.1;rw [hm2] at h1 h2;refine ⟨by rw [<- h1];simp,by omega,?_⟩;simp only [jab,jac,List.length_nil];omega)
     have hzl:=I.out.2.2.1;clear hS hK hm2 hk1 hk0;go_wp2_with fail;refine KS.out.mono ?_;rintro e w4 ⟨rfl,hb4⟩;have B4:=jH hb4;clear hb4;go_wp2_with fail;refine (K1.out w4 B4.out).mono ?_;rintro e w6 ⟨rfl,hb6⟩;have B6:=jH (Aa B4.out hb6);have hs6:=B6.out.size;have hw6:=I.out.2.2.2.2.2.2;clear hb6;go_wp2_with fail;refine (F8 N v l m x y w6 (I.out.2.2.2.1.Ae B6.out) hlt0 jO).mono ?_;rintro e w7 ⟨⟨p7,rfl⟩,hT7,hO7⟩;have HF7:=jH ((I.out.2.2.2.2.2.1.only (show N<w1.heap.size by omega) (Ay.of B6.out)).only (show N<w1.heap.size by omega) hO7);have HT7:=jH hT7;have HO7:=jH ((I.out.2.2.2.2.1.then (B6.out.mono I.out.2.2.2.2.1.size)).trans hO7);have hs7:=hO7.size;clear hT7 hO7;go_wp2_with fail;refine (Su w1.heap.size z l[m].2 w7 HF7.out (by rw [ht0.out];simp;omega) jO).mono ?_;rintro e w8 ⟨⟨p8,rfl⟩,hF8,hb8⟩;rw [ht0.out] at hF8;have HF8:=jH hF8;have HT8:=jH (HT7.out.kept λk hk=>hb8.block k jO);have HO8:=jH (HO7.out.then (hb8.mono hs1));have hs8:=hb8.size;clear hF8 hb8;go_wp2_with fail;refine (F8 N v l (m+1) x y w8 HT8.out hlt1 jO).mono ?_;rintro e w9 ⟨⟨p9,rfl⟩,hT9,hO9⟩;have HF9:=jH (HF8.out.only (show N<w1.heap.size by omega) hO9);have HT9:=jH hT9;have HO9:=jH (HO8.out.trans hO9);have hs9:=hO9.size;clear hT9 hO9;go_wp2_with fail;refine (Su w1.heap.size (z ++ [46]) l[m+1].2 w9 HF9.out (by simp;omega) jO).mono ?_;rintro e wa ⟨⟨pa,rfl⟩,hFa,hba⟩;have I2:Hid ((z ++ [46] ++ l[m+1].2) ++ (Mbx.more (l.drop (m+2))).1=Z/\m+2+(Mbx.more (l.drop (m+2))).2=M/\(z ++ [46] ++ l[m+1].2).length<=100001*(m+2)/\Bb N v l (m+2) x y wa/\Ay N w wa/\Bld w1.heap.size (z ++ [46] ++ l[m+1].2) wa/\w1.heap.size<=wa.heap.size) :=
      jH ⟨E2.out.1,E2.out.2.1,E2.out.2.2,HT9.out.kept λk hk=>hba.block k jO,HO9.out.then (hba.mono hs1),hFa,by have:=hba.size;omega⟩
     clear hFa hba;go_wp2;go_roundg (l.length - m)
     case measure=>omega
     case rel=>exact ⟨m+2,_,by omega,by omega,I2⟩
theorem Ame (N:Nat) (v:Value) (l:List Mbx.S) (n:Nat) (x y:ByteArray) (w:World) (H:Bb N v l n x y w) (hn:n<=l.length) (F:Few l) :
  Calls prog 65 #[.pointer (some ⟨N,0,none⟩)] w λe w'=>Ay N w w'/\((Mbx.Ed (l.drop n)=none/\e=.returned (.bool false))\/∃ z q,Mbx.Ed (l.drop n)=some (z,q)/\e=.returned (.bool true)/\Bb N v l (n+q) ⟨z.toArray⟩ y w'):=by
 have hl:=F.len;have K0:=Ls N v l n x y w H 0 1 jO jO;rw [Nat.add_zero] at K0;cases h0:Mbx.isK l n 1
 ·rw [h0] at K0;have K0:=jH K0;have E:=jH (Mbx.Awv h0);have KW:=jH (λW h=>Z7 N v l n x y W h hn F);have HH:=jH H;clear h0 H F;go_enter func65,ntmps65;go_wp2_with fail;refine K0.out.mono ?_;rintro e w1 ⟨rfl,hb1⟩;have B1:=jH hb1;clear hb1;go_wp2_with fail;refine (KW.out w1 (HH.out.Ae B1.out)).mono ?_;rintro e w2 ⟨ho,⟨h1,rfl,hT⟩ | ⟨z,q,h1,rfl,hT⟩⟩
  ·have O2:=jH ((Ay.of B1.out).trans ho);have pc:=hT.c2;have pf:=hT.fr 2;have HT:=jH hT;have H1:=jH h1;clear ho hT h1;go_wp2;go_ret;exact ⟨O2.out.set 2 _,.inl ⟨E.out.trans H1.out,rfl⟩⟩
  ·have O2:=jH ((Ay.of B1.out).trans ho);have pc:=hT.c2;have pf:=hT.fr 2;have HT:=jH hT;have H1:=jH h1;clear ho hT h1;go_wp2;go_ret;exact ⟨O2.out.set 2 _,.inr ⟨z,q,E.out.trans H1.out,rfl,HT.out.Ano _⟩⟩
 ·rw [h0] at K0;have K0:=jH K0;obtain ⟨hlt,hk⟩:=Mbx.Oe h0;have E:=jH (Mbx.Ar5 hlt hk);have hx0:l[n].2.length<=100000:=F.at hlt;have HH:=jH H;have KC:=jH (λW=>Cn ⟨l[n].2.toArray⟩ W (by simpa [ByteArray.size] using hx0));have fld:=Aj6;clear h0 H F hk;go_enter func65,ntmps65;go_wp2_with fail;refine K0.out.mono ?_;rintro e w1 ⟨rfl,hb1⟩;have B1:=jH hb1;clear hb1;go_wp2_with fail;refine (F8 N v l n x y w1 (HH.out.Ae B1.out) hlt jO).mono ?_;rintro e w2 ⟨⟨p,rfl⟩,hT2,hO2⟩;have HT2:=jH hT2;have HO2:=jH ((Ay.of B1.out).trans hO2);clear hT2 hO2;go_wp2_with fail;refine (KC.out w2).mono ?_;rintro e w3 ⟨rfl,hb3⟩;have hT3:=HT2.out.Ae hb3;have HO3:=jH (HO2.out.then (hb3.mono HO2.out.size));have pc:=hT3.c2;have pf:=hT3.fr 2;have HT3:=jH hT3;clear hb3 hT3;go_wp2;go_ret;exact ⟨HO3.out.set 2 _,.inr ⟨_,_,E.out,rfl,HT3.out.Ano _⟩⟩
theorem Atv (N:Nat) (v:Value) (l:List Mbx.S) (n:Nat) (x y:ByteArray) (w:World) (H:Bb N v l n x y w) (hn:n<=l.length) (F:Few l) :
  Calls prog 66 #[.pointer (some ⟨N,0,none⟩)] w λe w'=>Ay N w w'/\((Mbx.isS l n [64]=false/\e=.returned (.bool false))\/(Mbx.isS l n [64]=true/\e=.returned (.bool true)/\Bb N v l (n+1) x y w')):=by
 have hl:=F.len;have K0:=Xx N v l n x y w H [64] ⟨#[64]⟩ rfl jO jO;obtain ⟨b,h0⟩:∃ b,Mbx.isS l n [64]=b:=⟨_,rfl⟩
 have H0:=jH h0;rw [h0] at K0;cases b
 ·have K0:=jH K0;clear h0 H F;go_enter func66,ntmps66;go_wp2_with fail;refine K0.out.mono ?_;rintro e w1 ⟨rfl,hb1⟩;have B1:=jH hb1;clear hb1;go_wp2;go_ret;exact ⟨Ay.of B1.out,.inl ⟨H0.out,rfl⟩⟩
 ·have K0:=jH K0;obtain ⟨hlt,hk⟩:=Mbx.Fc h0;have HH:=jH H;clear h0 H F hk;go_enter func66,ntmps66;go_wp2_with fail;refine K0.out.mono ?_;rintro e w1 ⟨rfl,hb1⟩;have B1:=jH hb1;clear hb1;go_wp2_with fail;refine (F8 N v l n x y w1 (HH.out.Ae B1.out) hlt jO).mono ?_;rintro e w2 ⟨⟨p,rfl⟩,hT2,hO2⟩;have HT2:=jH hT2;have HO2:=jH ((Ay.of B1.out).trans hO2);clear hT2 hO2;go_wp2;go_ret;exact ⟨HO2.out,.inr ⟨H0.out,rfl,HT2.out⟩⟩
theorem Agv (N:Nat) (v:Value) (l:List Mbx.S) (n:Nat) (x y:ByteArray) (w:World) (H:Bb N v l n x y w) (hn:n<=l.length) (F:Few l) :
  Calls prog 67 #[.pointer (some ⟨N,0,none⟩)] w λe w'=>Ay N w w'/\((Mbx.Po (l.drop n)=none/\e=.returned (.bool false))\/∃ z q,Mbx.Po (l.drop n)=some (z,q)/\e=.returned (.bool true)/\Bb N v l (n+q) x ⟨z.toArray⟩ w'):=by
 have hl:=F.len;have K0:=Ls N v l n x y w H 0 5 jO jO;rw [Nat.add_zero] at K0;cases h0:Mbx.isK l n 5
 ·rw [h0] at K0;have K0:=jH K0;have E:=jH (Mbx.A1r h0);have KW:=jH (λW h=>Z7 N v l n x y W h hn F);have HH:=jH H;clear h0 H F;go_enter func67,ntmps67;go_wp2_with fail;refine K0.out.mono ?_;rintro e w1 ⟨rfl,hb1⟩;have B1:=jH hb1;clear hb1;go_wp2_with fail;refine (KW.out w1 (HH.out.Ae B1.out)).mono ?_;rintro e w2 ⟨ho,⟨h1,rfl,hT⟩ | ⟨z,q,h1,rfl,hT⟩⟩
  ·have O2:=jH ((Ay.of B1.out).trans ho);have pc:=hT.c3;have pf:=hT.fr 3;have HT:=jH hT;have H1:=jH h1;clear ho hT h1;go_wp2;go_ret;exact ⟨O2.out.set 3 _,.inl ⟨E.out.trans H1.out,rfl⟩⟩
  ·have O2:=jH ((Ay.of B1.out).trans ho);have pc:=hT.c3;have pf:=hT.fr 3;have HT:=jH hT;have H1:=jH h1;clear ho hT h1;go_wp2;go_ret;exact ⟨O2.out.set 3 _,.inr ⟨z,q,E.out.trans H1.out,rfl,HT.out.R9 _⟩⟩
 ·rw [h0] at K0;have K0:=jH K0;obtain ⟨hlt,hk⟩:=Mbx.Oe h0;have E:=jH (Mbx.Azo hlt hk);have hx0:l[n].2.length<=100000:=F.at hlt;have HH:=jH H;have KC:=jH (λp W=>Yc.source 5 p ⟨l[n].2.toArray⟩ W (by simpa [ByteArray.size] using hx0));have HK:=jH hk;clear h0 H F hk;go_enter func67,ntmps67;go_wp2_with fail;refine K0.out.mono ?_;rintro e w1 ⟨rfl,hb1⟩;have B1:=jH hb1;clear hb1;go_wp2_with fail;refine (F8 N v l n x y w1 (HH.out.Ae B1.out) hlt jO).mono ?_;rintro e w2 ⟨⟨p,rfl⟩,hT2,hO2⟩;have HT2:=jH hT2;have HO2:=jH ((Ay.of B1.out).trans hO2);clear hT2 hO2;rw [HK.out];go_wp2_with fail;refine (KC.out p w2).mono ?_;rintro e w3 ⟨rfl,hb3⟩;have hT3:=HT2.out.Ae hb3;have HO3:=jH (HO2.out.then (hb3.mono HO2.out.size));have pc:=hT3.c3;have pf:=hT3.fr 3;have HT3:=jH hT3;clear hb3 hT3;go_wp2;go_ret;exact ⟨HO3.out.set 3 _,.inr ⟨_,_,E.out,rfl,HT3.out.R9 _⟩⟩
end
section
open Go.RowKit Utf Go.Shelf
namespace Mbx
abbrev Res:=Option (List UInt8 × List UInt8 × Nat)
def A1h (l:List S) (n:Nat) (x y:List UInt8):Res:=some (x,y,n+skip (l.drop n))
def Acy (l:List S) (n:Nat) (x _y:List UInt8):Res:=match Po (l.drop n) with
 | none=>none
 | some (z,q)=>A1h l (n+q) x z
def Axy (l:List S) (n:Nat) (x y:List UInt8):Res:=Acy l (n+skip (l.drop n)) x y
def Acx (l:List S) (n:Nat) (x y:List UInt8):Res:=if isS l n [64]=true then Axy l (n+1) x y else none
def Apt (l:List S) (n:Nat) (x y:List UInt8):Res:=Acx l (n+skip (l.drop n)) x y
def Acw (l:List S) (n:Nat) (_x y:List UInt8):Res:=match Ed (l.drop n) with
 | none=>none
 | some (z,q)=>Apt l (n+q) z y
def Axx (l:List S) (n:Nat) (x y:List UInt8):Res:=Acw l (n+skip (l.drop n)) x y
def rest (l:List S) (i n:Nat) (x y:List UInt8):Res :=
 if i=0 then Axx l n x y else if i=1 then Acw l n x y else if i=2 then Apt l n x y else if i=3 then Acx l n x y
 else if i=4 then Axy l n x y else if i=5 then Acy l n x y else if i=6 then A1h l n x y else some (x,y,n)
theorem Atc (l:List S):rest l 0 0 [] []=take l:=by
 show Axx l 0 [] []=take l;unfold Axx Acw take;rw [List.drop_zero,Nat.zero_add];cases Ed (l.drop (skip l)) with
 | none=>rfl
 | some p =>
  obtain ⟨z,q⟩:=p;show Apt l (skip l+q) z []=Zu l z (skip l+q+skip (l.drop (skip l+q)));unfold Apt Acx Zu;generalize skip l+q+skip (l.drop (skip l+q))=b;have e:(isS l b [64]=true)=((l.drop b).head? = some (2,[64])):=by
   unfold isS;rw [decide_eq_true_eq,List.head?_drop]
  by_cases h:(l.drop b).head? = some (2,[64])
  ·rw [if_pos (by rw [e];exact h),if_pos h];unfold Axy Acy;cases Po (l.drop (b+1+skip (l.drop (b+1)))) with
   | none=>rfl
   | some r=>rfl
  ·rw [if_neg (by rw [e];exact h),if_neg h]
theorem Ky {l:List S} {n:Nat} (h:n<=l.length):n+skip (l.drop n)<=l.length:=by
 have:=Zj (l.drop n);rw [jaj] at this;omega
theorem Ar4 {l:List S} {n q:Nat} {z:List UInt8} (hn:n<=l.length) (h:Ed (l.drop n)=some (z,q)):n+q<=l.length:=by
 have:=(Amg h).1;rw [jaj] at this;omega
theorem Azn {l:List S} {n q:Nat} {z:List UInt8} (hn:n<=l.length) (h:Po (l.drop n)=some (z,q)):n+q<=l.length:=by
 have:=(Aox h).2.1;rw [jaj] at this;omega
def Adi:Res->Value
 | none=>.tuple #[.agg #[.string ⟨#[]⟩,.string ⟨#[]⟩],.int .i64 0,.bool false]
 | some (x,y,n)=>.tuple #[.agg #[.string ⟨x.toArray⟩,.string ⟨y.toArray⟩],.int .i64 (n:Int),.bool true]
def Aiz (i:Nat):Nat:=if i=1 then 65 else if i=3 then 66 else if i=5 then 67 else 64
end Mbx
def Afy (N i:Nat) (v:Value) (l:List Mbx.S) (T:Mbx.Res) (w:World) (e:Ending) (w':World):Prop :=
 Ay N w w'/\((T=none/\e=.returned (.bool false))\/(e=.returned (.bool true)/\∃ (n':Nat) (x' y':List UInt8),Mbx.rest l (i+1) n' x' y'=T/\n'<=l.length/\Bb N v l n' ⟨x'.toArray⟩ ⟨y'.toArray⟩ w'))
theorem Axl (N i n:Nat) (v:Value) (l:List Mbx.S) (x y:List UInt8) (T:Mbx.Res) (w:World) (F:Few l) (hi:i<7) (hn:n<=l.length) (hT:Mbx.rest l i n x y=T) (H:Bb N v l n ⟨x.toArray⟩ ⟨y.toArray⟩ w) :
  (∀ args w,(callFunc (Mbx.Aiz i) args).run prog w=.ok (.enter (Mbx.Aiz i) args) w)/\Calls prog (Mbx.Aiz i) #[.pointer (some ⟨N,0,none⟩)] w (Afy N i v l T w):=by
 have eo:∀ args w,(callFunc 64 args).run prog w=.ok (.enter 64 args) w:=enters_of func64 jK rfl;have el:∀ args w,(callFunc 65 args).run prog w=.ok (.enter 65 args) w:=enters_of func65 jK rfl;have es:∀ args w,(callFunc 66 args).run prog w=.ok (.enter 66 args) w:=enters_of func66 jK rfl;have ed:∀ args w,(callFunc 67 args).run prog w=.ok (.enter 67 args) w:=enters_of func67 jK rfl;have ho:∀ R:Nat->List UInt8->List UInt8->Mbx.Res,Mbx.rest l (i+1)=R->T=R (n+Mbx.skip (l.drop n)) x y->Calls prog 64 #[.pointer (some ⟨N,0,none⟩)] w (Afy N i v l T w):=λR h1 h2 =>
  (Am0 N v l n _ _ w H hn F).mono λe w' ⟨e1,t1,o1⟩=>⟨o1,.inr ⟨e1,_,x,y,by rw [h1,h2],Mbx.Ky hn,t1⟩⟩
 rcases (by omega:i=0\/i=1\/i=2\/i=3\/i=4\/i=5\/i=6) with rfl | rfl | rfl | rfl | rfl | rfl | rfl
 ·exact ⟨eo,ho (Mbx.Acw l) rfl hT.symm⟩
 ·refine ⟨el,(Ame N v l n _ _ w H hn F).mono λe w' ⟨o1,h⟩=>⟨o1,?_⟩⟩;have hT:Mbx.Acw l n x y=T:=hT;unfold Mbx.Acw at hT;rcases h with ⟨h1,h2⟩ | ⟨z,q,h1,h2,h3⟩
  ·rw [h1] at hT;exact .inl ⟨hT.symm,h2⟩
  ·rw [h1] at hT;exact .inr ⟨h2,_,z,y,hT,Mbx.Ar4 hn h1,h3⟩
 ·exact ⟨eo,ho (Mbx.Acx l) rfl hT.symm⟩
 ·refine ⟨es,(Atv N v l n _ _ w H hn F).mono λe w' ⟨o1,h⟩=>⟨o1,?_⟩⟩;have hT:Mbx.Acx l n x y=T:=hT;unfold Mbx.Acx at hT;rcases h with ⟨h1,h2⟩ | ⟨h1,h2,h3⟩
  ·rw [if_neg (by rw [h1];decide)] at hT;exact .inl ⟨hT.symm,h2⟩
  ·rw [if_pos h1] at hT;obtain ⟨hlt,-⟩:=Mbx.Fc h1;exact .inr ⟨h2,_,x,y,hT,hlt,h3⟩
 ·exact ⟨eo,ho (Mbx.Acy l) rfl hT.symm⟩
 ·refine ⟨ed,(Agv N v l n _ _ w H hn F).mono λe w' ⟨o1,h⟩=>⟨o1,?_⟩⟩;have hT:Mbx.Acy l n x y=T:=hT;unfold Mbx.Acy at hT;rcases h with ⟨h1,h2⟩ | ⟨z,q,h1,h2,h3⟩
  ·rw [h1] at hT;exact .inl ⟨hT.symm,h2⟩
  ·rw [h1] at hT;exact .inr ⟨h2,_,x,z,hT,Mbx.Azn hn h1,h3⟩
 ·exact ⟨eo,ho (λn x y=>some (x,y,n)) rfl hT.symm⟩
theorem F0.up {N M:Nat} {v:Value} {l:List Mbx.S} {w:World} (H:F0 N v l w) (h:N<=M):F0 M v l w:=by
 obtain ⟨A,c,h1,h2,h3⟩:=H;refine ⟨A,c,h1,h2,λi hi=>?_⟩;obtain ⟨g,o,h4,h5,h6⟩:=h3 i hi;exact ⟨g,o,h4,jas h5 h,h6⟩
def Si (B:Nat) (v:Value) (w:World):World :=
 ((w.alloc (.cells #[.string ⟨#[]⟩,.string ⟨#[]⟩] 28)).alloc (.cells #[v,.int .i64 0,.string ⟨#[]⟩,.string ⟨#[]⟩] 104)).alloc (.cells #[.func (.func 64) #[.pointer (some ⟨B+1,0,none⟩)] #[],.func (.func 65) #[.pointer (some ⟨B+1,0,none⟩)] #[],.func (.func 64) #[.pointer (some ⟨B+1,0,none⟩)] #[],.func (.func 66) #[.pointer (some ⟨B+1,0,none⟩)] #[],.func (.func 64) #[.pointer (some ⟨B+1,0,none⟩)] #[],.func (.func 67) #[.pointer (some ⟨B+1,0,none⟩)] #[],.func (.func 64) #[.pointer (some ⟨B+1,0,none⟩)] #[]] 23)
theorem Ayt {B:Nat} {v:Value} {l:List Mbx.S} {w:World} (hB:w.heap.size=B) (hT:F0 B v l w) :
  Bb (B+1) v l 0 ⟨([]:List UInt8).toArray⟩ ⟨([]:List UInt8).toArray⟩ (Si B v w)/\(∀ i,i<7->(Si B v w).cell? ⟨B+1+1,i,none⟩=some (.func (.func (Mbx.Aiz i)) #[.pointer (some ⟨B+1,0,none⟩)] #[])) /\
   (Si B v w).heap[B]? = some (.cells #[.string ⟨#[]⟩,.string ⟨#[]⟩] 28 (0,0))/\Below B w (Si B v w)/\(Si B v w).heap.size=B+3:=by
 subst hB;obtain ⟨W1,h1⟩:∃ W1,W1=w.alloc (.cells #[.string ⟨#[]⟩,.string ⟨#[]⟩] 28):=⟨_,rfl⟩
 obtain ⟨W2,h2⟩:∃ W2,W2=W1.alloc (.cells #[v,.int .i64 0,.string ⟨#[]⟩,.string ⟨#[]⟩] 104):=⟨_,rfl⟩
 have s1:W1.heap.size=w.heap.size+1:=by rw [h1];simp
 have s2:W2.heap.size=w.heap.size+1+1:=by rw [h2];simp [s1]
 have e:Si w.heap.size v w=W2.alloc (.cells #[.func (.func 64) #[.pointer (some ⟨w.heap.size+1,0,none⟩)] #[],.func (.func 65) #[.pointer (some ⟨w.heap.size+1,0,none⟩)] #[],.func (.func 64) #[.pointer (some ⟨w.heap.size+1,0,none⟩)] #[],.func (.func 66) #[.pointer (some ⟨w.heap.size+1,0,none⟩)] #[],.func (.func 64) #[.pointer (some ⟨w.heap.size+1,0,none⟩)] #[],.func (.func 67) #[.pointer (some ⟨w.heap.size+1,0,none⟩)] #[],.func (.func 64) #[.pointer (some ⟨w.heap.size+1,0,none⟩)] #[]] 23):=by unfold Si;rw [h2,h1]
 rw [e];have b1:Below w.heap.size w W1:=by rw [h1];exact Ac _ _
 have b2:Below W1.heap.size W1 W2:=by rw [h2];exact Ac _ _
 have b3:=Ac W2 (.cells #[.func (.func 64) #[.pointer (some ⟨w.heap.size+1,0,none⟩)] #[],.func (.func 65) #[.pointer (some ⟨w.heap.size+1,0,none⟩)] #[],.func (.func 64) #[.pointer (some ⟨w.heap.size+1,0,none⟩)] #[],.func (.func 66) #[.pointer (some ⟨w.heap.size+1,0,none⟩)] #[],.func (.func 64) #[.pointer (some ⟨w.heap.size+1,0,none⟩)] #[],.func (.func 67) #[.pointer (some ⟨w.heap.size+1,0,none⟩)] #[],.func (.func 64) #[.pointer (some ⟨w.heap.size+1,0,none⟩)] #[]] 23);have k1:W1.heap[w.heap.size]? = some (.cells #[.string ⟨#[]⟩,.string ⟨#[]⟩] 28 (0,0)):=by rw [h1];exact heap_alloc_new w _
 have k2:W2.heap[w.heap.size+1]? = some (.cells #[v,.int .i64 0,.string ⟨#[]⟩,.string ⟨#[]⟩] 104 (0,0)):=by rw [h2,<- s1];exact heap_alloc_new W1 _
 refine ⟨⟨(b3.block _ jO).trans k2,(hT.Ae λk hk=>?_).up jO⟩,λi hi=>?_,(b3.block _ jO).trans ((b2.block _ jO).trans k1),b1.trans ((b2.mono jO).trans (b3.mono jO)),by simp [s2]⟩
 ·exact (b3.block _ jO).trans ((b2.block _ jO).trans (b1.block _ hk))
 ·rw [World.cell?_alloc_at _ _ _ _ s2.symm];rcases (by omega:i=0\/i=1\/i=2\/i=3\/i=4\/i=5\/i=6) with rfl | rfl | rfl | rfl | rfl | rfl | rfl<;>rfl
theorem Aj3 (v:Value) (l:List Mbx.S) (w:World) (hT:F0 w.heap.size v l w) (F:Few l) :
  Calls prog 41 #[v] w λe w'=>e=.returned (Mbx.Adi (Mbx.take l))/\Below w.heap.size w w':=by
 obtain ⟨T,hTT⟩:∃ T,T=Mbx.take l:=⟨_,rfl⟩
 rw [<- hTT];obtain ⟨B,hB⟩:∃ B,w.heap.size=B:=⟨_,rfl⟩
 rw [hB] at hT ⊢;obtain ⟨hW1,hW2,hW3,hW4,hW5⟩:=Ayt hB hT;have HTT:=jH (show Mbx.rest l 0 0 [] []=T by rw [hTT,Mbx.Atc]);have HF:=jH F;obtain ⟨A,c,rfl,-,-⟩:=hT;obtain ⟨W0,hW0⟩:∃ W0,W0=Si B (.slice A l.length c) w:=⟨_,rfl⟩
 rw [<- hW0] at hW1 hW2 hW3 hW4 hW5;have HW1:=jH hW1;have HW2:=jH hW2;have HW3:=jH hW3;have HW4:=jH hW4;have HW5:=jH hW5;have HW0:=jH hW0;clear hTT F hW1 hW2 hW3 hW4 hW5 hW0;go_enter func41,ntmps41;go_wp2;have EW:=HW0.out;unfold Si at EW;rw [<- EW];clear EW hB;go_loopg [7,19] 8 (λgk _ s19 wr=>∃ (i n:Nat) (x y:List UInt8),s19=.int .i64 i/\i<=7/\7 - i<gk/\Hid (Mbx.rest l i n x y=T/\n<=l.length/\Bb (B+1) (.slice A l.length c) l n ⟨x.toArray⟩ ⟨y.toArray⟩ wr/\Ay (B+1) W0 wr))
 case atStart=>exact ⟨0,0,[],[],rfl,by omega,by omega,jH ⟨HTT.out,Nat.zero_le _,HW1.out,Ay.refl _ _⟩⟩
 case round =>
  obtain ⟨i,n,x,y,rfl,hi,hg,I⟩:=hrel;by_cases h7:i<7
  ·have hz:(i:Int)<7:=jO
   have hcell:wr.cell? ⟨B+1+1,i,none⟩=_:=(World.cell?_of_block (w:=W0) (I.out.2.2.2.block (B+1+1) (by have:=HW5.out;omega) jO)).trans (HW2.out i h7);obtain ⟨eg,KP⟩:=Axl (B+1) i n (.slice A l.length c) l x y T wr HF.out h7 I.out.2.1 I.out.1 I.out.2.2.1;generalize Mbx.Aiz i=g at hcell eg KP;have KP:=jH KP;go_wp2_with fail;refine KP.out.mono ?_;rintro e w2 ⟨o1,⟨h1,rfl⟩ | ⟨rfl,n',x',y',h2,h3,h4⟩⟩
   ·have O2:=jH (I.out.2.2.2.trans o1);have HN:=jH h1;have hC:=jH (CAt.mk (C:=B) (u:=⟨#[]⟩) (v:=⟨#[]⟩) (W:=w2) ((O2.out.block B (by have:=HW5.out;omega) jO).trans HW3.out));have r0:=hC.out.c0;have r1:=hC.out.c1;have f0:=hC.out.fr 0;have f1:=hC.out.fr 1;clear o1 h1 hcell;go_wp2;refine bodyPost_ret (v:=.tuple #[.agg #[.string ⟨#[]⟩,.string ⟨#[]⟩],.int .i64 0,.bool false]) (by simp [results,results41,go_sem,r0,r1]) rfl ⟨by rw [HN.out];rfl,?_⟩;exact ((HW4.out.trans (O2.out.below (base:=B) (by have:=HW5.out;omega) jO)).setCell (p:=⟨B,0,none⟩) (jaa _) _).setCell (p:=⟨B,1,none⟩) (jaa _) _
   ·have I2:Hid (Mbx.rest l (i+1) n' x' y'=T/\n'<=l.length/\Bb (B+1) (.slice A l.length c) l n' ⟨x'.toArray⟩ ⟨y'.toArray⟩ w2/\Ay (B+1) W0 w2):=jH ⟨h2,h3,h4,I.out.2.2.2.trans o1⟩;clear o1 h2 h3 h4 hcell;go_wp2;go_roundg (7 - i)
    case measure=>omega
    case rel=>exact ⟨i+1,n',x',y',by go_num,by omega,by omega,I2⟩
  ·obtain rfl:i=7:=jO
   have HN:=jH (show T=some (x,y,n) from I.out.1.symm);have c1:wr.drew.cell? ⟨B+1,1,none⟩=some (.int .i64 n):=I.out.2.2.1.c1;have c2:wr.drew.cell? ⟨B+1,2,none⟩=some (.string ⟨x.toArray⟩):=I.out.2.2.1.c2;have c3:wr.drew.cell? ⟨B+1,3,none⟩=some (.string ⟨y.toArray⟩):=I.out.2.2.1.c3;have hC:=jH (CAt.mk (C:=B) (u:=⟨#[]⟩) (v:=⟨#[]⟩) (W:=wr) ((I.out.2.2.2.block B (by have:=HW5.out;omega) jO).trans HW3.out));have r0:wr.drew.cell? ⟨B,0,none⟩=some (.string ⟨#[]⟩):=hC.out.c0;have r1:wr.drew.cell? ⟨B,1,none⟩=some (.string ⟨#[]⟩):=hC.out.c1;have f0:wr.drew.frozen? ⟨B,0,none⟩=false:=hC.out.fr 0;have f1:wr.drew.frozen? ⟨B,1,none⟩=false:=hC.out.fr 1;have q1:=I.out.2.2.1.c1;have q2:=I.out.2.2.1.c2;have q3:=I.out.2.2.1.c3;have p0:=hC.out.c0;have p1:=hC.out.c1;have g0:=hC.out.fr 0;have g1:=hC.out.fr 1;go_wp2;go_region
   all_goals
    go_wp2;refine bodyPost_ret (v:=.tuple #[.agg #[.string ⟨x.toArray⟩,.string ⟨y.toArray⟩],.int .i64 n,.bool true]) (by simp [results,results41,go_sem,p0,p1]) rfl ⟨by rw [HN.out];rfl,?_⟩;exact ((HW4.out.trans (I.out.2.2.2.below (base:=B) (by have:=HW5.out;omega) jO)).drew.setCell (p:=⟨B,0,none⟩) (jaa _) _).setCell (p:=⟨B,1,none⟩) (jaa _) _
end
