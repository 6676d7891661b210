import Derived.Test.YtipkfalbepiphaaGreatDoorMbxTaker
import Derived.Test.YtipkfalbepiphaaGreatDoorMbxBox
set_option maxRecDepth 100000
set_option maxHeartbeats 4000000
namespace Go.Proofs.YtipkfalbepiphaaGreatDoor
open Tryz
section
open Go.RowKit Utf Go.Shelf
namespace Mbx
theorem Ej {l:List S} {n:Nat} (h:n<l.length):l.drop n=l[n]::l.drop (n+1):=List.drop_eq_getElem_cons h
theorem Lc {l:List S} {n:Nat} (h:l.length<=n):l.drop n=[]:=List.drop_of_length_le h
theorem Uk {l:List S} {n:Nat} (h:n<l.length) (q:Int):isK l n q=(l[n].1 == q):=by unfold isK;rw [List.getElem?_eq_getElem h]
theorem A3t {l:List S} {n:Nat} (h:l.length<=n) (q:Int):isK l n q=false:=by unfold isK;rw [List.getElem?_eq_none h]
theorem O9 {l:List S} {n:Nat} {q:Int} (h:isK l n q=true):∃ h:n<l.length,l[n].1=q:=by
 by_cases hn:n<l.length
 ·rw [Uk hn] at h;exact ⟨hn,by simpa using h⟩
 ·rw [A3t jO] at h;cases h
theorem W6 {l:List S} {n:Nat} {t:List UInt8} (h:isS l n t=true):∃ h:n<l.length,l[n]=(2,t):=by
 unfold isS at h;rw [decide_eq_true_eq] at h;obtain ⟨h1,h2⟩:=List.getElem?_eq_some_iff.1 h;exact ⟨h1,h2⟩
theorem Aln {l:List S} {n:Nat} (h:n<l.length) (hk:l[n].1=4\/l[n].1=3):skip (l.drop n)=skip (l.drop (n+1))+1:=by
 rw [Ej h,skip,if_pos (by unfold Bi;rcases hk with h | h<;>rw [h]<;>rfl)]
theorem A4q {l:List S} {n:Nat} (h4:isK l n 4=false) (h3:isK l n 3=false):skip (l.drop n)=0:=by
 by_cases hn:n<l.length
 ·rw [Uk hn] at h4 h3;rw [Ej hn,skip,if_neg (by unfold Bi;rw [h4,h3];decide)]
 ·rw [Lc jO];rfl
theorem Az5 {l:List S} {n:Nat} (h1:isS l n [46]=true) (h:n+1<l.length) (h2:l[n+1].1=0):more (l.drop n)=(46::(l[n+1].2 ++ (more (l.drop (n+2))).1),(more (l.drop (n+2))).2+2):=by
 obtain ⟨h3,h4⟩:=W6 h1;rw [Ej h3,Ej h,more,if_pos ⟨h4,h2⟩]
theorem Arv {l:List S} {n:Nat} (h:isS l n [46]=false\/isK l (n+1) 0=false):more (l.drop n)=([],0):=by
 by_cases hn:n<l.length
 ·by_cases hn1:n+1<l.length
  ·rw [Ej hn,Ej hn1,more,if_neg];rintro ⟨e1,e2⟩;rcases h with h | h
   ·unfold isS at h;rw [List.getElem?_eq_getElem hn,e1] at h;simp at h
   ·rw [Uk hn1,e2] at h;cases h
  ·rw [Ej hn,Lc (n:=n+1) jO];rfl
 ·rw [Lc jO];rfl
theorem Axc {l:List S} {n:Nat} (h:n<l.length) (hk:l[n].1=0):words (l.drop n)=some (l[n].2 ++ (more (l.drop (n+1))).1,(more (l.drop (n+1))).2+1):=by
 rw [Ej h,words,if_pos hk]
theorem A2k {l:List S} {n:Nat} (h:isK l n 0=false):words (l.drop n)=none:=by
 by_cases hn:n<l.length
 ·rw [Uk hn] at h;rw [Ej hn,words,if_neg (by simpa using h)]
 ·rw [Lc jO];rfl
theorem Aua {l:List S} {n:Nat} (h:n<l.length) (hk:l[n].1=1):Cn (l.drop n)=some (l[n].2,1):=by
 rw [Ej h,Cn,if_pos hk]
theorem Azv {l:List S} {n:Nat} (h:isK l n 1=false):Cn (l.drop n)=words (l.drop n):=by
 by_cases hn:n<l.length
 ·rw [Uk hn] at h;rw [Ej hn,Cn,if_neg (by simpa using h)]
 ·rw [Lc jO];rfl
theorem A3a {l:List S} {n:Nat} (h:n<l.length) (hk:l[n].1=5):I7 (l.drop n)=some (Lex.Co 5 l[n].2,1):=by
 rw [Ej h,I7,if_pos hk]
theorem A5v {l:List S} {n:Nat} (h:isK l n 5=false):I7 (l.drop n)=words (l.drop n):=by
 by_cases hn:n<l.length
 ·rw [Uk hn] at h;rw [Ej hn,I7,if_neg (by simpa using h)]
 ·rw [Lc jO];rfl
end Mbx
abbrev Bld (B:Nat) (z:List UInt8) (w:World):Prop:=Lib.IsBuilder (Hz.t 72) (Hz.t 5) B B (Lib.byteCells z) w
theorem X5 {B N:Nat} {p:Value} {z:List UInt8} {w w':World} (h:Lib.BuilderAt (Hz.t 72) (Hz.t 5) B B p (Lib.byteCells z) w) (hN:N<B) (ho:Az N w w'):Lib.BuilderAt (Hz.t 72) (Hz.t 5) B B p (Lib.byteCells z) w':=by
 have hlt:=h.lt;obtain ⟨hB,v,hb,hown,hne⟩:=h;refine ⟨hB,v,(ho.block B hlt jO).trans hb,⟨hown.1,?_⟩,hne⟩;rcases hown.2 with h0 | ⟨g,cap,cur,rfl,h1,hg,h2⟩
 · exact .inl h0
 · exact .inr ⟨g,cap,cur,rfl,h1,(ho.block g (Array.getElem?_eq_some_iff.1 hg).1 jO).trans hg,h2⟩
theorem Bld.only {B N:Nat} {z:List UInt8} {w w':World} (h:Bld B z w) (hN:N<B) (ho:Az N w w'):Bld B z w':=by
 rcases h with h | h
 · exact .inl (X5 h hN ho)
 · exact .inr (X5 h hN ho)
theorem Tu (B:Nat) (z x:List UInt8) (W:World) (h:Bld B z W) (hl:z.length+x.length<=140737488355328) (hBw:B<=W.heap.size) :
  Calls prog 47 #[.pointer (some ⟨B,0,none⟩),.string ⟨x.toArray⟩] W λe w'=>(∃ n:Int,e=.returned (.tuple #[.int .i64 n,.nilIface]))/\Bld B (z ++ x) w'/\Below B W w':=by
 have hx:(⟨x.toArray⟩:ByteArray).size=x.length:=by simp [ByteArray.size]
 have K:=Any.Builder_WriteString { Un with } Qu B B (Lib.byteCells z) ⟨x.toArray⟩ W h (by rw [Lib.byteCells_length,hx];exact hl) hBw;refine Calls.mono K ?_;rintro e w' ⟨rfl,h1,h2⟩;refine ⟨⟨_,rfl⟩,.inr ?_,h2⟩;rw [Lib.byteCells_append];exact h1
theorem X7 (B:Nat) (z:List UInt8) (W:World) (h:Bld B z W) (hBw:B<=W.heap.size) :
  Calls prog 49 #[.pointer (some ⟨B,0,none⟩)] W λe w'=>e=.returned (.string ⟨z.toArray⟩)/\Below B W w' :=
 Any.Builder_String_any { Un with } Qu B B z W h hBw
theorem Aly (k p:Int) (u:ByteArray) (W:World):(Instr.field 83 (.agg #[.int .i64 k,.string u,.int .i64 p]) 1).run prog W=.ok (.string u) W:=by kernel_rfl
structure Few (l:List Mbx.S):Prop where
 len:l.length<=100000
 text:∀ k ∈ l,k.2.length<=100000
theorem Few.at {l:List Mbx.S} (F:Few l) {n:Nat} (h:n<l.length):l[n].2.length<=100000:=F.text _ (List.getElem_mem h)
theorem Aoy (N:Nat) (v:Value) (l:List Mbx.S) (n:Nat) (x y:ByteArray) (w:World) (H:Bd N v l n x y w) (hn:n<=l.length) (F:Few l) :
  Calls prog 164 #[.pointer (some ⟨N,0,none⟩)] w λe w'=>e=.returned (.bool true)/\Bd N v l (n+Mbx.skip (l.drop n)) x y w'/\Az N w w':=by
 have hl:=F.len;obtain ⟨T,hT⟩:∃ T,T=n+Mbx.skip (l.drop n):=⟨_,rfl⟩
 rw [<- hT];have HT:=jH hT;have HH:=jH H;clear hT F H;go_enter func164,ntmps164;go_wp2;go_loopg [3] (l.length+1) (λgk _ wr=>∃ m:Nat,m<=l.length/\l.length - m<gk/\Hid (m+Mbx.skip (l.drop m)=T/\Bd N v l m x y wr/\Az N w wr))
 case atStart=>exact ⟨n,hn,by omega,jH ⟨HT.out.symm,HH.out,Az.refl _ _⟩⟩
 case round =>
  obtain ⟨m,hm,hg,I⟩:=hrel;have K4:=Mj N v l m x y wr I.out.2.1 0 4 jO jO;rw [Nat.add_zero] at K4;cases h4:Mbx.isK l m 4
  ·rw [h4] at K4;have K4:=jH K4;have K3:Hid (∀ W,Below wr.heap.size wr W->Calls prog 195 #[.pointer (some ⟨N,0,none⟩),.int .i64 0,.int .i64 3] W λe w'=>e=.returned (.bool (Mbx.isK l m 3))/\Below W.heap.size W w'):=jH λW hW=>by
    have:=Mj N v l m x y W (I.out.2.1.Ac hW) 0 3 jO jO;rwa [Nat.add_zero] at this
   cases h3:Mbx.isK l m 3
   ·rw [h3] at K3;have E:=jH (show m=T by have:=I.out.1;rwa [Mbx.A4q h4 h3] at this);clear h3 h4;go_wp2_with fail;refine K4.out.mono ?_;rintro e w1 ⟨rfl,hb1⟩;have B1:=jH hb1;clear hb1;go_wp2_with fail;refine (K3.out w1 B1.out).mono ?_;rintro e w2 ⟨rfl,hb2⟩;have B2:=jH (Aa B1.out hb2);clear hb2;go_wp2;go_ret;have:=E.out;subst this;exact ⟨rfl,I.out.2.1.Ac B2.out,I.out.2.2.then (B2.out.mono I.out.2.2.size)⟩
   ·rw [h3] at K3;obtain ⟨hlt,hk⟩:=Mbx.O9 h3;have E:=jH (show m+1+Mbx.skip (l.drop (m+1))=T by have:=I.out.1;rw [Mbx.Aln hlt (.inr hk)] at this;omega);clear h3 h4 hk;go_wp2_with fail;refine K4.out.mono ?_;rintro e w1 ⟨rfl,hb1⟩;have B1:=jH hb1;clear hb1;go_wp2_with fail;refine (K3.out w1 B1.out).mono ?_;rintro e w2 ⟨rfl,hb2⟩;have B2:=jH (Aa B1.out hb2);clear hb2;go_wp2_with fail;refine (Gj N v l m x y w2 (I.out.2.1.Ac B2.out) hlt jO).mono ?_;rintro e w3 ⟨⟨p,rfl⟩,h3,o3⟩;have I2:Hid (m+1+Mbx.skip (l.drop (m+1))=T/\Bd N v l (m+1) x y w3/\Az N w w3):=jH ⟨E.out,h3,(I.out.2.2.then (B2.out.mono I.out.2.2.size)).trans o3⟩;clear h3 o3;go_wp2;go_roundg (l.length - m)
    case measure=>omega
    case rel=>exact ⟨m+1,by omega,by omega,I2⟩
  ·rw [h4] at K4;have K4:=jH K4;obtain ⟨hlt,hk⟩:=Mbx.O9 h4;have E:=jH (show m+1+Mbx.skip (l.drop (m+1))=T by have:=I.out.1;rw [Mbx.Aln hlt (.inl hk)] at this;omega);clear h4 hk;go_wp2_with fail;refine K4.out.mono ?_;rintro e w2 ⟨rfl,hb2⟩;have B2:=jH hb2;clear hb2;go_wp2_with fail;refine (Gj N v l m x y w2 (I.out.2.1.Ac B2.out) hlt jO).mono ?_;rintro e w3 ⟨⟨p,rfl⟩,h3,o3⟩;have I2:Hid (m+1+Mbx.skip (l.drop (m+1))=T/\Bd N v l (m+1) x y w3/\Az N w w3):=jH ⟨E.out,h3,(I.out.2.2.then (B2.out.mono I.out.2.2.size)).trans o3⟩;clear h3 o3;go_wp2;go_roundg (l.length - m)
   case measure=>omega
   case rel=>exact ⟨m+1,by omega,by omega,I2⟩
theorem Aa6 (N:Nat) (v:Value) (l:List Mbx.S) (n:Nat) (x y:ByteArray) (w:World) (H:Bd N v l n x y w) (hn:n<=l.length) (F:Few l) :
  Calls prog 197 #[.pointer (some ⟨N,0,none⟩)] w λe w'=>Az N w w'/\((Mbx.words (l.drop n)=none/\e=.returned (.tuple #[.string ⟨#[]⟩,.bool false])/\Bd N v l n x y w')\/∃ z q,Mbx.words (l.drop n)=some (z,q)/\e=.returned (.tuple #[.string ⟨z.toArray⟩,.bool true])/\Bd N v l (n+q) x y w'):=by
 have hl:=F.len;have HF:=jH F;clear F;have K0:=Mj N v l n x y w H 0 0 jO jO;rw [Nat.add_zero] at K0;cases h0:Mbx.isK l n 0
 ·rw [h0] at K0;have K0:=jH K0;have E:=jH (Mbx.A2k h0);have HH:=jH H;clear h0 H;go_enter func197,ntmps197;go_wp2_with fail;refine K0.out.mono ?_;rintro e w1 ⟨rfl,hb1⟩;have B1:=jH hb1;clear hb1;go_wp2;go_ret2;exact ⟨Az.of B1.out,.inl ⟨E.out,rfl,HH.out.Ac B1.out⟩⟩
 ·rw [h0] at K0;have K0:=jH K0;obtain ⟨hlt,hk⟩:=Mbx.O9 h0;obtain ⟨Z,hZ⟩:∃ Z,Z=l[n].2 ++ (Mbx.more (l.drop (n+1))).1:=⟨_,rfl⟩
  obtain ⟨M,hM⟩:∃ M,M=n+1+(Mbx.more (l.drop (n+1))).2:=⟨_,rfl⟩
  have E:=jH (show Mbx.words (l.drop n)=some (Z,(Mbx.more (l.drop (n+1))).2+1) by rw [Mbx.Axc hlt hk,hZ]);have EM:=jH (show n+((Mbx.more (l.drop (n+1))).2+1)=M by rw [hM];omega);have HZ:=jH hZ;have HM:=jH hM;have HH:=jH H;have hx0:l[n].2.length<=100000:=HF.out.at hlt;have hNl:=H.lt;clear h0 H hZ hM hk;go_enter func197,ntmps197;go_wp2_with fail;refine K0.out.mono ?_;rintro e w1 ⟨rfl,hb1⟩;have B1:=jH hb1;have hs1:=hb1.size;have fld:=Aly;have hF1:=Lib.fresh_isBuilder (Hz.t 72) (Hz.t 5) w1;have hT1:=(HH.out.Ac hb1).Ac (Ab w1 (.cells #[.pointer none,.slice none 0 0] 86));have hO1:Az N w (w1.alloc (.cells #[.pointer none,.slice none 0 0] 86)):=Az.of (Aa hb1 (Ab _ _));obtain ⟨W1,hW1⟩:∃ W1,W1=w1.alloc (.cells #[.pointer none,.slice none 0 0] 86):=⟨_,rfl⟩
  have hz1:w1.heap.size<W1.heap.size:=by rw [hW1];simp
  rw [<- hW1] at hT1 hO1;have hF1:Bld w1.heap.size [] W1:=by rw [hW1];exact hF1
  have HF1:=jH hF1;have HT1:=jH hT1;have HO1:=jH hO1;clear hb1 hF1 hT1 hO1;go_wp2_with fail;rw [<- hW1];clear hW1;refine (Gj N v l n x y W1 HT1.out hlt jO).mono ?_;rintro e w2 ⟨⟨p,rfl⟩,hT2,hO2⟩;have HF2:=jH (HF1.out.only (show N<w1.heap.size by omega) hO2);have HT2:=jH hT2;have HO2:=jH (HO1.out.trans hO2);have hs2:=hO2.size;clear hT2 hO2;go_wp2_with fail;refine (Tu w1.heap.size [] l[n].2 w2 HF2.out (by simp;omega) jO).mono ?_;rintro e w3 ⟨⟨p3,rfl⟩,hF3,hb3⟩;rw [List.nil_append] at hF3;have HF3:=jH hF3;have HT3:=jH (HT2.out.kept λk hk=>hb3.block k jO);have HO3:=jH (HO2.out.then (hb3.mono hs1));have hs3:=hb3.size;clear hF3 hb3;go_wp2;go_loopg [12] (l.length+1) (λgk _ wr=>∃ (m:Nat) (z:List UInt8),m<=l.length/\l.length - m<gk/\Hid (z ++ (Mbx.more (l.drop m)).1=Z/\m+(Mbx.more (l.drop m)).2=M/\z.length<=100001*m/\Bd N v l m x y wr/\Az N w wr/\Bld w1.heap.size z wr/\w1.heap.size<=wr.heap.size))
  case atStart=>exact ⟨n+1,l[n].2,by omega,by omega,jH ⟨HZ.out.symm,HM.out.symm,by omega,HT3.out,HO3.out,HF3.out,by omega⟩⟩
  case round =>
   obtain ⟨m,z,hm,hg,I⟩:=hrel;have KS:=Y0 N v l m x y wr I.out.2.2.2.1 [46] ⟨#[46]⟩ rfl jO jO;have K1:Hid (∀ W,Below wr.heap.size wr W->Calls prog 195 #[.pointer (some ⟨N,0,none⟩),.int .i64 1,.int .i64 0] W λe w'=>e=.returned (.bool (Mbx.isK l (m+1) 0))/\Below W.heap.size W w'):=jH λW hW=>Mj N v l m x y W (I.out.2.2.2.1.Ac hW) 1 0 jO jO;cases hS:Mbx.isS l m [46]
   ·rw [hS] at KS;have KS:=jH KS;have E2:=jH (show z=Z/\m=M by
     have h1:=I.out.1;have h2:=I.out.2.1;rw [Mbx.Arv (.inl hS)] at h1 h2;exact ⟨by simpa using h1,h2⟩)
    clear hS;go_wp2_with fail;refine KS.out.mono ?_;rintro e w4 ⟨rfl,hb4⟩;have B4:=jH hb4;have hs4:=hb4.size;have hw4:=I.out.2.2.2.2.2.2;clear hb4;go_wp2_with fail;refine (X7 w1.heap.size z w4 (I.out.2.2.2.2.2.1.only (show N<w1.heap.size by omega) (Az.of B4.out)) jO).mono ?_;rintro e w5 ⟨rfl,hb5⟩;have B5:=jH hb5;clear hb5;go_wp2;go_ret2;obtain ⟨rfl,rfl⟩:=E2.out;refine ⟨(I.out.2.2.2.2.1.then (B4.out.mono I.out.2.2.2.2.1.size)).then (B5.out.mono hs1),.inr ⟨z,_,E.out,rfl,?_⟩⟩;rw [EM.out];exact (I.out.2.2.2.1.Ac B4.out).kept λk hk=>B5.out.block k jO
   ·rw [hS] at KS;have KS:=jH KS;cases hK:Mbx.isK l (m+1) 0
    ·rw [hK] at K1;have E2:=jH (show z=Z/\m=M by
      have h1:=I.out.1;have h2:=I.out.2.1;rw [Mbx.Arv (.inr hK)] at h1 h2;exact ⟨by simpa using h1,h2⟩)
     clear hS hK;go_wp2_with fail;refine KS.out.mono ?_;rintro e w4 ⟨rfl,hb4⟩;have B4:=jH hb4;clear hb4;go_wp2_with fail;refine (K1.out w4 B4.out).mono ?_;rintro e w6 ⟨rfl,hb6⟩;have B6:=jH (Aa B4.out hb6);have hs6:=B6.out.size;have hw6:=I.out.2.2.2.2.2.2;clear hb6;go_wp2_with fail;refine (X7 w1.heap.size z w6 (I.out.2.2.2.2.2.1.only (show N<w1.heap.size by omega) (Az.of B6.out)) jO).mono ?_;rintro e w5 ⟨rfl,hb5⟩;have B5:=jH hb5;clear hb5;go_wp2;go_ret2;obtain ⟨rfl,rfl⟩:=E2.out;refine ⟨(I.out.2.2.2.2.1.then (B6.out.mono I.out.2.2.2.2.1.size)).then (B5.out.mono hs1),.inr ⟨z,_,E.out,rfl,?_⟩⟩;rw [EM.out];exact (I.out.2.2.2.1.Ac B6.out).kept λk hk=>B5.out.block k jO
    ·rw [hK] at K1;obtain ⟨hlt1,hk1⟩:=Mbx.O9 hK;obtain ⟨hlt0,hk0⟩:=Mbx.W6 hS;have hm2:=Mbx.Az5 hS hlt1 hk1;have hx1:l[m+1].2.length<=100000:=HF.out.at hlt1;have ht0:=jH (show l[m].2=[46] by rw [hk0]);have E2:=jH (show (z ++ [46] ++ l[m+1].2) ++ (Mbx.more (l.drop (m+2))).1=Z/\m+2+(Mbx.more (l.drop (m+2))).2=M/\(z ++ [46] ++ l[m+1].2).length<=100001*(m+2) by
      have h1:=I.out.1;have h2:=I.out.2.1;have h3:=I.out.2.2.1;rw [hm2] at h1 h2;refine ⟨by rw [<- h1];simp,by omega,?_⟩;simp only [jab,jac,List.length_nil];omega)
     have hzl:=I.out.2.2.1;clear hS hK hm2 hk1 hk0;go_wp2_with fail;refine KS.out.mono ?_;rintro e w4 ⟨rfl,hb4⟩;have B4:=jH hb4;clear hb4;go_wp2_with fail;refine (K1.out w4 B4.out).mono ?_;rintro e w6 ⟨rfl,hb6⟩;have B6:=jH (Aa B4.out hb6);have hs6:=B6.out.size;have hw6:=I.out.2.2.2.2.2.2;clear hb6;go_wp2_with fail;refine (Gj N v l m x y w6 (I.out.2.2.2.1.Ac B6.out) hlt0 jO).mono ?_;rintro e w7 ⟨⟨p7,rfl⟩,hT7,hO7⟩;have HF7:=jH ((I.out.2.2.2.2.2.1.only (show N<w1.heap.size by omega) (Az.of B6.out)).only (show N<w1.heap.size by omega) hO7);have HT7:=jH hT7;have HO7:=jH ((I.out.2.2.2.2.1.then (B6.out.mono I.out.2.2.2.2.1.size)).trans hO7);have hs7:=hO7.size;clear hT7 hO7;go_wp2_with fail;refine (Tu w1.heap.size z l[m].2 w7 HF7.out (by rw [ht0.out];simp;omega) jO).mono ?_;rintro e w8 ⟨⟨p8,rfl⟩,hF8,hb8⟩;rw [ht0.out] at hF8;have HF8:=jH hF8;have HT8:=jH (HT7.out.kept λk hk=>hb8.block k jO);have HO8:=jH (HO7.out.then (hb8.mono hs1));have hs8:=hb8.size;clear hF8 hb8;go_wp2_with fail;refine (Gj N v l (m+1) x y w8 HT8.out hlt1 jO).mono ?_;rintro e w9 ⟨⟨p9,rfl⟩,hT9,hO9⟩;have HF9:=jH (HF8.out.only (show N<w1.heap.size by omega) hO9);have HT9:=jH hT9;have HO9:=jH (HO8.out.trans hO9);have hs9:=hO9.size;clear hT9 hO9;go_wp2_with fail;refine (Tu w1.heap.size (z ++ [46]) l[m+1].2 w9 HF9.out (by simp;omega) jO).mono ?_;rintro e wa ⟨⟨pa,rfl⟩,hFa,hba⟩;have I2:Hid ((z ++ [46] ++ l[m+1].2) ++ (Mbx.more (l.drop (m+2))).1=Z/\m+2+(Mbx.more (l.drop (m+2))).2=M/\(z ++ [46] ++ l[m+1].2).length<=100001*(m+2)/\Bd N v l (m+2) x y wa/\Az N w wa/\Bld w1.heap.size (z ++ [46] ++ l[m+1].2) wa/\w1.heap.size<=wa.heap.size) :=
      jH ⟨E2.out.1,E2.out.2.1,E2.out.2.2,HT9.out.kept λk hk=>hba.block k jO,HO9.out.then (hba.mono hs1),hFa,by have:=hba.size;omega⟩
     clear hFa hba;go_wp2;go_roundg (l.length - m)
     case measure=>omega
     case rel=>exact ⟨m+2,_,by omega,by omega,I2⟩
theorem Aoa (N:Nat) (v:Value) (l:List Mbx.S) (n:Nat) (x y:ByteArray) (w:World) (H:Bd N v l n x y w) (hn:n<=l.length) (F:Few l) :
  Calls prog 165 #[.pointer (some ⟨N,0,none⟩)] w λe w'=>Az N w w'/\((Mbx.Cn (l.drop n)=none/\e=.returned (.bool false))\/∃ z q,Mbx.Cn (l.drop n)=some (z,q)/\e=.returned (.bool true)/\Bd N v l (n+q) ⟨z.toArray⟩ y w'):=by
 have hl:=F.len;have K0:=Mj N v l n x y w H 0 1 jO jO;rw [Nat.add_zero] at K0;cases h0:Mbx.isK l n 1
 ·rw [h0] at K0;have K0:=jH K0;have E:=jH (Mbx.Azv h0);have KW:=jH (λW h=>Aa6 N v l n x y W h hn F);have HH:=jH H;clear h0 H F;go_enter func165,ntmps165;go_wp2_with fail;refine K0.out.mono ?_;rintro e w1 ⟨rfl,hb1⟩;have B1:=jH hb1;clear hb1;go_wp2_with fail;refine (KW.out w1 (HH.out.Ac B1.out)).mono ?_;rintro e w2 ⟨ho,⟨h1,rfl,hT⟩ | ⟨z,q,h1,rfl,hT⟩⟩
  ·have O2:=jH ((Az.of B1.out).trans ho);have pc:=hT.c2;have pf:=hT.fr 2;have HT:=jH hT;have H1:=jH h1;clear ho hT h1;go_wp2;go_ret;exact ⟨O2.out.set 2 _,.inl ⟨E.out.trans H1.out,rfl⟩⟩
  ·have O2:=jH ((Az.of B1.out).trans ho);have pc:=hT.c2;have pf:=hT.fr 2;have HT:=jH hT;have H1:=jH h1;clear ho hT h1;go_wp2;go_ret;exact ⟨O2.out.set 2 _,.inr ⟨z,q,E.out.trans H1.out,rfl,HT.out.A4n _⟩⟩
 ·rw [h0] at K0;have K0:=jH K0;obtain ⟨hlt,hk⟩:=Mbx.O9 h0;have E:=jH (Mbx.Aua hlt hk);have hx0:l[n].2.length<=100000:=F.at hlt;have HH:=jH H;have KC:=jH (λW=>De ⟨l[n].2.toArray⟩ W (by simpa [ByteArray.size] using hx0));have fld:=Aly;clear h0 H F hk;go_enter func165,ntmps165;go_wp2_with fail;refine K0.out.mono ?_;rintro e w1 ⟨rfl,hb1⟩;have B1:=jH hb1;clear hb1;go_wp2_with fail;refine (Gj N v l n x y w1 (HH.out.Ac B1.out) hlt jO).mono ?_;rintro e w2 ⟨⟨p,rfl⟩,hT2,hO2⟩;have HT2:=jH hT2;have HO2:=jH ((Az.of B1.out).trans hO2);clear hT2 hO2;go_wp2_with fail;refine (KC.out w2).mono ?_;rintro e w3 ⟨rfl,hb3⟩;have hT3:=HT2.out.Ac hb3;have HO3:=jH (HO2.out.then (hb3.mono HO2.out.size));have pc:=hT3.c2;have pf:=hT3.fr 2;have HT3:=jH hT3;clear hb3 hT3;go_wp2;go_ret;exact ⟨HO3.out.set 2 _,.inr ⟨_,_,E.out,rfl,HT3.out.A4n _⟩⟩
theorem Awe (N:Nat) (v:Value) (l:List Mbx.S) (n:Nat) (x y:ByteArray) (w:World) (H:Bd N v l n x y w) (hn:n<=l.length) (F:Few l) :
  Calls prog 166 #[.pointer (some ⟨N,0,none⟩)] w λe w'=>Az N w w'/\((Mbx.isS l n [64]=false/\e=.returned (.bool false))\/(Mbx.isS l n [64]=true/\e=.returned (.bool true)/\Bd N v l (n+1) x y w')):=by
 have hl:=F.len;have K0:=Y0 N v l n x y w H [64] ⟨#[64]⟩ rfl jO jO;obtain ⟨b,h0⟩:∃ b,Mbx.isS l n [64]=b:=⟨_,rfl⟩
 have H0:=jH h0;rw [h0] at K0;cases b
 ·have K0:=jH K0;clear h0 H F;go_enter func166,ntmps166;go_wp2_with fail;refine K0.out.mono ?_;rintro e w1 ⟨rfl,hb1⟩;have B1:=jH hb1;clear hb1;go_wp2;go_ret;exact ⟨Az.of B1.out,.inl ⟨H0.out,rfl⟩⟩
 ·have K0:=jH K0;obtain ⟨hlt,hk⟩:=Mbx.W6 h0;have HH:=jH H;clear h0 H F hk;go_enter func166,ntmps166;go_wp2_with fail;refine K0.out.mono ?_;rintro e w1 ⟨rfl,hb1⟩;have B1:=jH hb1;clear hb1;go_wp2_with fail;refine (Gj N v l n x y w1 (HH.out.Ac B1.out) hlt jO).mono ?_;rintro e w2 ⟨⟨p,rfl⟩,hT2,hO2⟩;have HT2:=jH hT2;have HO2:=jH ((Az.of B1.out).trans hO2);clear hT2 hO2;go_wp2;go_ret;exact ⟨HO2.out,.inr ⟨H0.out,rfl,HT2.out⟩⟩
theorem Aiq (N:Nat) (v:Value) (l:List Mbx.S) (n:Nat) (x y:ByteArray) (w:World) (H:Bd N v l n x y w) (hn:n<=l.length) (F:Few l) :
  Calls prog 167 #[.pointer (some ⟨N,0,none⟩)] w λe w'=>Az N w w'/\((Mbx.I7 (l.drop n)=none/\e=.returned (.bool false))\/∃ z q,Mbx.I7 (l.drop n)=some (z,q)/\e=.returned (.bool true)/\Bd N v l (n+q) x ⟨z.toArray⟩ w'):=by
 have hl:=F.len;have K0:=Mj N v l n x y w H 0 5 jO jO;rw [Nat.add_zero] at K0;cases h0:Mbx.isK l n 5
 ·rw [h0] at K0;have K0:=jH K0;have E:=jH (Mbx.A5v h0);have KW:=jH (λW h=>Aa6 N v l n x y W h hn F);have HH:=jH H;clear h0 H F;go_enter func167,ntmps167;go_wp2_with fail;refine K0.out.mono ?_;rintro e w1 ⟨rfl,hb1⟩;have B1:=jH hb1;clear hb1;go_wp2_with fail;refine (KW.out w1 (HH.out.Ac B1.out)).mono ?_;rintro e w2 ⟨ho,⟨h1,rfl,hT⟩ | ⟨z,q,h1,rfl,hT⟩⟩
  ·have O2:=jH ((Az.of B1.out).trans ho);have pc:=hT.c3;have pf:=hT.fr 3;have HT:=jH hT;have H1:=jH h1;clear ho hT h1;go_wp2;go_ret;exact ⟨O2.out.set 3 _,.inl ⟨E.out.trans H1.out,rfl⟩⟩
  ·have O2:=jH ((Az.of B1.out).trans ho);have pc:=hT.c3;have pf:=hT.fr 3;have HT:=jH hT;have H1:=jH h1;clear ho hT h1;go_wp2;go_ret;exact ⟨O2.out.set 3 _,.inr ⟨z,q,E.out.trans H1.out,rfl,HT.out.Aae _⟩⟩
 ·rw [h0] at K0;have K0:=jH K0;obtain ⟨hlt,hk⟩:=Mbx.O9 h0;have E:=jH (Mbx.A3a hlt hk);have hx0:l[n].2.length<=100000:=F.at hlt;have HH:=jH H;have KC:=jH (λp W=>Arl.source 5 p ⟨l[n].2.toArray⟩ W (by simpa [ByteArray.size] using hx0));have HK:=jH hk;clear h0 H F hk;go_enter func167,ntmps167;go_wp2_with fail;refine K0.out.mono ?_;rintro e w1 ⟨rfl,hb1⟩;have B1:=jH hb1;clear hb1;go_wp2_with fail;refine (Gj N v l n x y w1 (HH.out.Ac B1.out) hlt jO).mono ?_;rintro e w2 ⟨⟨p,rfl⟩,hT2,hO2⟩;have HT2:=jH hT2;have HO2:=jH ((Az.of B1.out).trans hO2);clear hT2 hO2;rw [HK.out];go_wp2_with fail;refine (KC.out p w2).mono ?_;rintro e w3 ⟨rfl,hb3⟩;have hT3:=HT2.out.Ac hb3;have HO3:=jH (HO2.out.then (hb3.mono HO2.out.size));have pc:=hT3.c3;have pf:=hT3.fr 3;have HT3:=jH hT3;clear hb3 hT3;go_wp2;go_ret;exact ⟨HO3.out.set 3 _,.inr ⟨_,_,E.out,rfl,HT3.out.Aae _⟩⟩
end
section
open Go.RowKit Utf Go.Shelf
namespace Mbx
abbrev Res:=Option (List UInt8 × List UInt8 × Nat)
def A47 (l:List S) (n:Nat) (x y:List UInt8):Res:=some (x,y,n+skip (l.drop n))
def Ad9 (l:List S) (n:Nat) (x _y:List UInt8):Res:=match I7 (l.drop n) with
 | none=>none
 | some (z,q)=>A47 l (n+q) x z
def A08 (l:List S) (n:Nat) (x y:List UInt8):Res:=Ad9 l (n+skip (l.drop n)) x y
def Ad8 (l:List S) (n:Nat) (x y:List UInt8):Res:=if isS l n [64]=true then A08 l (n+1) x y else none
def Ar4 (l:List S) (n:Nat) (x y:List UInt8):Res:=Ad8 l (n+skip (l.drop n)) x y
def Ad7 (l:List S) (n:Nat) (_x y:List UInt8):Res:=match Cn (l.drop n) with
 | none=>none
 | some (z,q)=>Ar4 l (n+q) z y
def A07 (l:List S) (n:Nat) (x y:List UInt8):Res:=Ad7 l (n+skip (l.drop n)) x y
def rest (l:List S) (i n:Nat) (x y:List UInt8):Res :=
 if i=0 then A07 l n x y else if i=1 then Ad7 l n x y else if i=2 then Ar4 l n x y else if i=3 then Ad8 l n x y
 else if i=4 then A08 l n x y else if i=5 then Ad9 l n x y else if i=6 then A47 l n x y else some (x,y,n)
theorem Avt (l:List S):rest l 0 0 [] []=take l:=by
 show A07 l 0 [] []=take l;unfold A07 Ad7 take;rw [List.drop_zero,Nat.zero_add];cases Cn (l.drop (skip l)) with
 | none=>rfl
 | some p =>
  obtain ⟨z,q⟩:=p;show Ar4 l (skip l+q) z []=Ll l z (skip l+q+skip (l.drop (skip l+q)));unfold Ar4 Ad8 Ll;generalize skip l+q+skip (l.drop (skip l+q))=b;have e:(isS l b [64]=true)=((l.drop b).head? = some (2,[64])):=by
   unfold isS;rw [decide_eq_true_eq,List.head?_drop]
  by_cases h:(l.drop b).head? = some (2,[64])
  ·rw [if_pos (by rw [e];exact h),if_pos h];unfold A08 Ad9;cases I7 (l.drop (b+1+skip (l.drop (b+1)))) with
   | none=>rfl
   | some r=>rfl
  ·rw [if_neg (by rw [e];exact h),if_neg h]
theorem A1s {l:List S} {n:Nat} (h:n<=l.length):n+skip (l.drop n)<=l.length:=by
 have:=Aai (l.drop n);rw [jaj] at this;omega
theorem At8 {l:List S} {n q:Nat} {z:List UInt8} (hn:n<=l.length) (h:Cn (l.drop n)=some (z,q)):n+q<=l.length:=by
 have:=(Aob h).1;rw [jaj] at this;omega
theorem A28 {l:List S} {n q:Nat} {z:List UInt8} (hn:n<=l.length) (h:I7 (l.drop n)=some (z,q)):n+q<=l.length:=by
 have:=(Aq7 h).2.1;rw [jaj] at this;omega
def A14:Res->Value
 | none=>.tuple #[.agg #[.string ⟨#[]⟩,.string ⟨#[]⟩],.int .i64 0,.bool false]
 | some (x,y,n)=>.tuple #[.agg #[.string ⟨x.toArray⟩,.string ⟨y.toArray⟩],.int .i64 (n:Int),.bool true]
def Akt (i:Nat):Nat:=if i=1 then 165 else if i=3 then 166 else if i=5 then 167 else 164
end Mbx
def Aho (N i:Nat) (v:Value) (l:List Mbx.S) (T:Mbx.Res) (w:World) (e:Ending) (w':World):Prop :=
 Az N w w'/\((T=none/\e=.returned (.bool false))\/(e=.returned (.bool true)/\∃ (n':Nat) (x' y':List UInt8),Mbx.rest l (i+1) n' x' y'=T/\n'<=l.length/\Bd N v l n' ⟨x'.toArray⟩ ⟨y'.toArray⟩ w'))
theorem A0u (N i n:Nat) (v:Value) (l:List Mbx.S) (x y:List UInt8) (T:Mbx.Res) (w:World) (F:Few l) (hi:i<7) (hn:n<=l.length) (hT:Mbx.rest l i n x y=T) (H:Bd N v l n ⟨x.toArray⟩ ⟨y.toArray⟩ w) :
  (∀ args w,(callFunc (Mbx.Akt i) args).run prog w=.ok (.enter (Mbx.Akt i) args) w)/\Calls prog (Mbx.Akt i) #[.pointer (some ⟨N,0,none⟩)] w (Aho N i v l T w):=by
 have eo:∀ args w,(callFunc 164 args).run prog w=.ok (.enter 164 args) w:=enters_of func164 jK rfl;have el:∀ args w,(callFunc 165 args).run prog w=.ok (.enter 165 args) w:=enters_of func165 jK rfl;have es:∀ args w,(callFunc 166 args).run prog w=.ok (.enter 166 args) w:=enters_of func166 jK rfl;have ed:∀ args w,(callFunc 167 args).run prog w=.ok (.enter 167 args) w:=enters_of func167 jK rfl;have ho:∀ R:Nat->List UInt8->List UInt8->Mbx.Res,Mbx.rest l (i+1)=R->T=R (n+Mbx.skip (l.drop n)) x y->Calls prog 164 #[.pointer (some ⟨N,0,none⟩)] w (Aho N i v l T w):=λR h1 h2 =>
  (Aoy N v l n _ _ w H hn F).mono λe w' ⟨e1,t1,o1⟩=>⟨o1,.inr ⟨e1,_,x,y,by rw [h1,h2],Mbx.A1s hn,t1⟩⟩
 rcases (by omega:i=0\/i=1\/i=2\/i=3\/i=4\/i=5\/i=6) with rfl | rfl | rfl | rfl | rfl | rfl | rfl
 ·exact ⟨eo,ho (Mbx.Ad7 l) rfl hT.symm⟩
 ·refine ⟨el,(Aoa N v l n _ _ w H hn F).mono λe w' ⟨o1,h⟩=>⟨o1,?_⟩⟩;have hT:Mbx.Ad7 l n x y=T:=hT;unfold Mbx.Ad7 at hT;rcases h with ⟨h1,h2⟩ | ⟨z,q,h1,h2,h3⟩
  ·rw [h1] at hT;exact .inl ⟨hT.symm,h2⟩
  ·rw [h1] at hT;exact .inr ⟨h2,_,z,y,hT,Mbx.At8 hn h1,h3⟩
 ·exact ⟨eo,ho (Mbx.Ad8 l) rfl hT.symm⟩
 ·refine ⟨es,(Awe N v l n _ _ w H hn F).mono λe w' ⟨o1,h⟩=>⟨o1,?_⟩⟩;have hT:Mbx.Ad8 l n x y=T:=hT;unfold Mbx.Ad8 at hT;rcases h with ⟨h1,h2⟩ | ⟨h1,h2,h3⟩
  ·rw [if_neg (by rw [h1];decide)] at hT;exact .inl ⟨hT.symm,h2⟩
  ·rw [if_pos h1] at hT;obtain ⟨hlt,-⟩:=Mbx.W6 h1;exact .inr ⟨h2,_,x,y,hT,hlt,h3⟩
 ·exact ⟨eo,ho (Mbx.Ad9 l) rfl hT.symm⟩
 ·refine ⟨ed,(Aiq N v l n _ _ w H hn F).mono λe w' ⟨o1,h⟩=>⟨o1,?_⟩⟩;have hT:Mbx.Ad9 l n x y=T:=hT;unfold Mbx.Ad9 at hT;rcases h with ⟨h1,h2⟩ | ⟨z,q,h1,h2,h3⟩
  ·rw [h1] at hT;exact .inl ⟨hT.symm,h2⟩
  ·rw [h1] at hT;exact .inr ⟨h2,_,x,z,hT,Mbx.A28 hn h1,h3⟩
 ·exact ⟨eo,ho (λn x y=>some (x,y,n)) rfl hT.symm⟩
theorem Ft.up {N M:Nat} {v:Value} {l:List Mbx.S} {w:World} (H:Ft N v l w) (h:N<=M):Ft M v l w:=by
 obtain ⟨A,c,h1,h2,h3⟩:=H;refine ⟨A,c,h1,h2,λi hi=>?_⟩;obtain ⟨g,o,h4,h5,h6⟩:=h3 i hi;exact ⟨g,o,h4,jas h5 h,h6⟩
def Tk (B:Nat) (v:Value) (w:World):World :=
 ((w.alloc (.cells #[.string ⟨#[]⟩,.string ⟨#[]⟩] 23)).alloc (.cells #[v,.int .i64 0,.string ⟨#[]⟩,.string ⟨#[]⟩] 231)).alloc (.cells #[.func (.func 164) #[.pointer (some ⟨B+1,0,none⟩)] #[],.func (.func 165) #[.pointer (some ⟨B+1,0,none⟩)] #[],.func (.func 164) #[.pointer (some ⟨B+1,0,none⟩)] #[],.func (.func 166) #[.pointer (some ⟨B+1,0,none⟩)] #[],.func (.func 164) #[.pointer (some ⟨B+1,0,none⟩)] #[],.func (.func 167) #[.pointer (some ⟨B+1,0,none⟩)] #[],.func (.func 164) #[.pointer (some ⟨B+1,0,none⟩)] #[]] 28)
theorem A15 {B:Nat} {v:Value} {l:List Mbx.S} {w:World} (hB:w.heap.size=B) (hT:Ft B v l w) :
  Bd (B+1) v l 0 ⟨([]:List UInt8).toArray⟩ ⟨([]:List UInt8).toArray⟩ (Tk B v w)/\(∀ i,i<7->(Tk B v w).cell? ⟨B+1+1,i,none⟩=some (.func (.func (Mbx.Akt i)) #[.pointer (some ⟨B+1,0,none⟩)] #[])) /\
   (Tk B v w).heap[B]? = some (.cells #[.string ⟨#[]⟩,.string ⟨#[]⟩] 23 (0,0))/\Below B w (Tk B v w)/\(Tk B v w).heap.size=B+3:=by
 subst hB;obtain ⟨W1,h1⟩:∃ W1,W1=w.alloc (.cells #[.string ⟨#[]⟩,.string ⟨#[]⟩] 23):=⟨_,rfl⟩
 obtain ⟨W2,h2⟩:∃ W2,W2=W1.alloc (.cells #[v,.int .i64 0,.string ⟨#[]⟩,.string ⟨#[]⟩] 231):=⟨_,rfl⟩
 have s1:W1.heap.size=w.heap.size+1:=by rw [h1];simp
 have s2:W2.heap.size=w.heap.size+1+1:=by rw [h2];simp [s1]
 have e:Tk w.heap.size v w=W2.alloc (.cells #[.func (.func 164) #[.pointer (some ⟨w.heap.size+1,0,none⟩)] #[],.func (.func 165) #[.pointer (some ⟨w.heap.size+1,0,none⟩)] #[],.func (.func 164) #[.pointer (some ⟨w.heap.size+1,0,none⟩)] #[],.func (.func 166) #[.pointer (some ⟨w.heap.size+1,0,none⟩)] #[],.func (.func 164) #[.pointer (some ⟨w.heap.size+1,0,none⟩)] #[],.func (.func 167) #[.pointer (some ⟨w.heap.size+1,0,none⟩)] #[],.func (.func 164) #[.pointer (some ⟨w.heap.size+1,0,none⟩)] #[]] 28):=by unfold Tk;rw [h2,h1]
 rw [e];have b1:Below w.heap.size w W1:=by rw [h1];exact Ab _ _
 have b2:Below W1.heap.size W1 W2:=by rw [h2];exact Ab _ _
 have b3:=Ab W2 (.cells #[.func (.func 164) #[.pointer (some ⟨w.heap.size+1,0,none⟩)] #[],.func (.func 165) #[.pointer (some ⟨w.heap.size+1,0,none⟩)] #[],.func (.func 164) #[.pointer (some ⟨w.heap.size+1,0,none⟩)] #[],.func (.func 166) #[.pointer (some ⟨w.heap.size+1,0,none⟩)] #[],.func (.func 164) #[.pointer (some ⟨w.heap.size+1,0,none⟩)] #[],.func (.func 167) #[.pointer (some ⟨w.heap.size+1,0,none⟩)] #[],.func (.func 164) #[.pointer (some ⟨w.heap.size+1,0,none⟩)] #[]] 28);have k1:W1.heap[w.heap.size]? = some (.cells #[.string ⟨#[]⟩,.string ⟨#[]⟩] 23 (0,0)):=by rw [h1];exact heap_alloc_new w _
 have k2:W2.heap[w.heap.size+1]? = some (.cells #[v,.int .i64 0,.string ⟨#[]⟩,.string ⟨#[]⟩] 231 (0,0)):=by rw [h2,<- s1];exact heap_alloc_new W1 _
 refine ⟨⟨(b3.block _ jO).trans k2,(hT.Ac λk hk=>?_).up jO⟩,λi hi=>?_,(b3.block _ jO).trans ((b2.block _ jO).trans k1),b1.trans ((b2.mono jO).trans (b3.mono jO)),by simp [s2]⟩
 ·exact (b3.block _ jO).trans ((b2.block _ jO).trans (b1.block _ hk))
 ·rw [World.cell?_alloc_at _ _ _ _ s2.symm];rcases (by omega:i=0\/i=1\/i=2\/i=3\/i=4\/i=5\/i=6) with rfl | rfl | rfl | rfl | rfl | rfl | rfl<;>rfl
theorem A16 (v:Value) (l:List Mbx.S) (w:World) (hT:Ft w.heap.size v l w) (F:Few l) :
  Calls prog 138 #[v] w λe w'=>e=.returned (Mbx.A14 (Mbx.take l))/\Below w.heap.size w w':=by
 obtain ⟨T,hTT⟩:∃ T,T=Mbx.take l:=⟨_,rfl⟩
 rw [<- hTT];obtain ⟨B,hB⟩:∃ B,w.heap.size=B:=⟨_,rfl⟩
 rw [hB] at hT ⊢;obtain ⟨hW1,hW2,hW3,hW4,hW5⟩:=A15 hB hT;have HTT:=jH (show Mbx.rest l 0 0 [] []=T by rw [hTT,Mbx.Avt]);have HF:=jH F;obtain ⟨A,c,rfl,-,-⟩:=hT;obtain ⟨W0,hW0⟩:∃ W0,W0=Tk B (.slice A l.length c) w:=⟨_,rfl⟩
 rw [<- hW0] at hW1 hW2 hW3 hW4 hW5;have HW1:=jH hW1;have HW2:=jH hW2;have HW3:=jH hW3;have HW4:=jH hW4;have HW5:=jH hW5;have HW0:=jH hW0;clear hTT F hW1 hW2 hW3 hW4 hW5 hW0;go_enter func138,ntmps138;go_wp2;have EW:=HW0.out;unfold Tk at EW;rw [<- EW];clear EW hB;go_loopg [7,19] 8 (λgk _ s19 wr=>∃ (i n:Nat) (x y:List UInt8),s19=.int .i64 i/\i<=7/\7 - i<gk/\Hid (Mbx.rest l i n x y=T/\n<=l.length/\Bd (B+1) (.slice A l.length c) l n ⟨x.toArray⟩ ⟨y.toArray⟩ wr/\Az (B+1) W0 wr))
 case atStart=>exact ⟨0,0,[],[],rfl,by omega,by omega,jH ⟨HTT.out,Nat.zero_le _,HW1.out,Az.refl _ _⟩⟩
 case round =>
  obtain ⟨i,n,x,y,rfl,hi,hg,I⟩:=hrel;by_cases h7:i<7
  ·have hz:(i:Int)<7:=jO
   have hcell:wr.cell? ⟨B+1+1,i,none⟩=_:=(World.cell?_of_block (w:=W0) (I.out.2.2.2.block (B+1+1) (by have:=HW5.out;omega) jO)).trans (HW2.out i h7);obtain ⟨eg,KP⟩:=A0u (B+1) i n (.slice A l.length c) l x y T wr HF.out h7 I.out.2.1 I.out.1 I.out.2.2.1;generalize Mbx.Akt i=g at hcell eg KP;have KP:=jH KP;go_wp2_with fail;refine KP.out.mono ?_;rintro e w2 ⟨o1,⟨h1,rfl⟩ | ⟨rfl,n',x',y',h2,h3,h4⟩⟩
   ·have O2:=jH (I.out.2.2.2.trans o1);have HN:=jH h1;have hC:=jH (CAt.mk (C:=B) (u:=⟨#[]⟩) (v:=⟨#[]⟩) (W:=w2) ((O2.out.block B (by have:=HW5.out;omega) jO).trans HW3.out));have r0:=hC.out.c0;have r1:=hC.out.c1;have f0:=hC.out.fr 0;have f1:=hC.out.fr 1;clear o1 h1 hcell;go_wp2;refine bodyPost_ret (v:=.tuple #[.agg #[.string ⟨#[]⟩,.string ⟨#[]⟩],.int .i64 0,.bool false]) (by simp [results,results138,go_sem,r0,r1]) rfl ⟨by rw [HN.out];rfl,?_⟩;exact ((HW4.out.trans (O2.out.below (base:=B) (by have:=HW5.out;omega) jO)).setCell (p:=⟨B,0,none⟩) (jaa _) _).setCell (p:=⟨B,1,none⟩) (jaa _) _
   ·have I2:Hid (Mbx.rest l (i+1) n' x' y'=T/\n'<=l.length/\Bd (B+1) (.slice A l.length c) l n' ⟨x'.toArray⟩ ⟨y'.toArray⟩ w2/\Az (B+1) W0 w2):=jH ⟨h2,h3,h4,I.out.2.2.2.trans o1⟩;clear o1 h2 h3 h4 hcell;go_wp2;go_roundg (7 - i)
    case measure=>omega
    case rel=>exact ⟨i+1,n',x',y',by go_num,by omega,by omega,I2⟩
  ·obtain rfl:i=7:=jO
   have HN:=jH (show T=some (x,y,n) from I.out.1.symm);have c1:wr.drew.cell? ⟨B+1,1,none⟩=some (.int .i64 n):=I.out.2.2.1.c1;have c2:wr.drew.cell? ⟨B+1,2,none⟩=some (.string ⟨x.toArray⟩):=I.out.2.2.1.c2;have c3:wr.drew.cell? ⟨B+1,3,none⟩=some (.string ⟨y.toArray⟩):=I.out.2.2.1.c3;have hC:=jH (CAt.mk (C:=B) (u:=⟨#[]⟩) (v:=⟨#[]⟩) (W:=wr) ((I.out.2.2.2.block B (by have:=HW5.out;omega) jO).trans HW3.out));have r0:wr.drew.cell? ⟨B,0,none⟩=some (.string ⟨#[]⟩):=hC.out.c0;have r1:wr.drew.cell? ⟨B,1,none⟩=some (.string ⟨#[]⟩):=hC.out.c1;have f0:wr.drew.frozen? ⟨B,0,none⟩=false:=hC.out.fr 0;have f1:wr.drew.frozen? ⟨B,1,none⟩=false:=hC.out.fr 1;have q1:=I.out.2.2.1.c1;have q2:=I.out.2.2.1.c2;have q3:=I.out.2.2.1.c3;have p0:=hC.out.c0;have p1:=hC.out.c1;have g0:=hC.out.fr 0;have g1:=hC.out.fr 1;go_wp2;go_region
   all_goals
    go_wp2;refine bodyPost_ret (v:=.tuple #[.agg #[.string ⟨x.toArray⟩,.string ⟨y.toArray⟩],.int .i64 n,.bool true]) (by simp [results,results138,go_sem,p0,p1]) rfl ⟨by rw [HN.out];rfl,?_⟩;exact ((HW4.out.trans (I.out.2.2.2.below (base:=B) (by have:=HW5.out;omega) jO)).drew.setCell (p:=⟨B,0,none⟩) (jaa _) _).setCell (p:=⟨B,1,none⟩) (jaa _) _
end
