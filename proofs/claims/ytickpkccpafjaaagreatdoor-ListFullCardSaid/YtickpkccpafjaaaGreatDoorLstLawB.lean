import Derived.Test.YtickpkccpafjaaaGreatDoorLstSmall
namespace Go.Proofs.YtickpkccpafjaaaGreatDoor
open Tryz
open Go.RowKit Utf
namespace Lst
open Mbx (S)
def As5:Nat->List UInt8
 | 0=>[]
 | n+1=>rep n
def full (g:Bool) (n:Nat):List UInt8:=if g then 103::58::(rep n ++ [59]) else rep n
def Ht (g:Bool) (n:Nat):List Ent:=if g then [⟨true,[103],List.replicate (n+1) It⟩] else List.replicate (n+1) ⟨false,[],[It]⟩
theorem Azw (g:Bool) {n:Nat} (h:n<=300):Cx (full g n)=if 100<n+1 then (2,[]) else (0,Ht g n):=by
 cases g with
 | true=>exact Ahg n h
 | false=>exact Alz n h
theorem Ahf (g:Bool) (n:Nat):(full g n).length<=4*n+6:=by
 cases g<;>simp only [full,Bool.false_eq_true,if_false,if_true,jac,jab,List.length_nil,Me]<;>omega
theorem Av9 (g:Bool) (n:Nat) (h:n<=300):(Ht g n).length<=1000/\∀ e ∈ Ht g n,e.name.length<=400/\e.boxes.length<=1000/\∀ m ∈ e.boxes,m.1.length<=400/\m.2.length<=400:=by
 cases g with
 | true =>
  refine ⟨by simp [Ht],λe he=>?_⟩;rw [show Ht true n=[⟨true,[103],List.replicate (n+1) It⟩] from rfl,List.mem_singleton] at he;subst he;refine ⟨by simp,by simp;omega,λm hm=>?_⟩;rw [List.eq_of_mem_replicate hm];decide
 | false =>
  refine ⟨by simp [Ht];omega,λe he=>?_⟩;rw [show Ht false n=List.replicate (n+1) ⟨false,[],[It]⟩ from rfl] at he;rw [List.eq_of_mem_replicate he];decide
theorem Arj (g:Bool) (n:Nat) (h:n<=300) {ts:List Lex.Tok} {es:List Ent} (hl:Lex.Fm (full g n)=(0,0,ts)) (he:Dg (ts.length+1) (ts.map Lex.Cy)=some es):es=Ht g n:=by
 have hlow:∀ b ∈ full g n,b.toNat<128:=by
  cases g with
  | false=>exact Rx n
  | true =>
   intro b hb;rw [show full true n=103::58::(rep n ++ [59]) from rfl] at hb;simp only [jal,jap,List.not_mem_nil,or_false] at hb;rcases hb with rfl | rfl | hb | rfl
   · decide
   · decide
   · exact Rx n b hb
   · decide
 have hlen:=Ahf g n;obtain ⟨us,c,hf⟩:∃ ts:List Lex.Tok,Lex.Cuts 0 (full g n) ts/\∀ f,ts.length<f->Dg f (ts.map Lex.Cy)=some (Ht g n):=by
  cases g with
  | true=>exact Xq n
  | false=>exact Ab4 n
 have hx:=Mbx.Qz jO (Lex.Cs hlow) c;rw [hx] at hl;injection hl with _ hl
 injection hl with _ hl
 subst hl;rw [hf _ jO] at he;injection he with he
 exact he.symm
theorem Arh (g:Bool) (n:Nat):(flat (Ht g n)).length=n+1:=by
 cases g with
 | true=>rw [show flat (Ht true n)=List.replicate (n+1) It by unfold flat Ht;simp,List.length_replicate]
 | false=>rw [show Ht false n=List.replicate (n+1) ⟨false,[],[It]⟩ from rfl,Aje,List.length_replicate]
theorem Ari (g:Bool) (n:Nat):(Ht g n).length=if g then 1 else n+1:=by
 cases g with
 | true=>rfl
 | false=>rw [show Ht false n=List.replicate (n+1) ⟨false,[],[It]⟩ from rfl,List.length_replicate];rfl
end Lst
set_option maxHeartbeats 16000000 in
set_option maxRecDepth 100000 in
theorem Ahe (z:Int) (gr:Bool) (w:World):Calls prog 6 #[.int .i64 z,.bool gr] w λe w'=>e=.returned (.bool true)/\Below w.heap.size w w':=by
 by_cases h1:z<1
 ·have e1:decide (z<1)=true:=decide_eq_true h1;have BB:=jH (jan w.heap.size w);go_enter func6,ntmps6;go_wp2_with fail;refine (E8 _).mono ?_;rintro e w1 ⟨rfl,hb⟩;replace BB:=jH (Aa BB.out hb);clear hb;go_wp2;go_ret;exact ⟨rfl,BB.out⟩
 have e1:decide (z<1)=false:=decide_eq_false h1;by_cases h2:130<z
 ·have e2:decide (130<z)=true:=decide_eq_true h2;have BB:=jH (jan w.heap.size w);go_enter func6,ntmps6;go_wp2_with fail;refine (E8 _).mono ?_;rintro e w1 ⟨rfl,hb⟩;replace BB:=jH (Aa BB.out hb);clear hb;go_wp2;go_ret;exact ⟨rfl,BB.out⟩
 have e2:decide (130<z)=false:=decide_eq_false h2;obtain ⟨m,rfl⟩:∃ m:Nat,z=((m+1:Nat):Int):=⟨(z - 1).toNat,by omega⟩
 have hm:m<=129:=jO
 obtain ⟨n,hn⟩:∃ n,n=m+1:=⟨_,rfl⟩
 rw [<- hn] at e1 e2 ⊢;have HN:=jH hn;have hn1:1<=n:=jO
 have hn2:n<=130:=jO
 clear h1 h2 hn hm;have BB:=jH (jan w.heap.size w);go_enter func6,ntmps6;go_wp2_with fail;refine (E8 _).mono ?_;rintro e w1 ⟨rfl,hb⟩;replace BB:=jH (Aa BB.out hb);clear hb;go_wp2;go_loopg [6,7] (n+1) (λgk s6 s7 wr=>∃ (k:Nat) (T:ByteArray),k<=n/\n - k<gk/\s7=.int .i64 k/\s6=.string T/\T.size<=4*k/\Hid (T=⟨(Lst.As5 k).toArray⟩)/\Hid (Below w.heap.size w wr))
 case atStart=>exact ⟨0,⟨#[]⟩,by omega,by omega,rfl,rfl,jaa _,rfl,BB.out⟩
 case round =>
  clear BB;obtain ⟨k,T,hk,hg,rfl,rfl,hT,HT,BB⟩:=hrel;by_cases hlt:k<n
  ·have hkz:(k:Int)<(n:Int):=jO
   rcases k with _ | k
   ·obtain ⟨T1,hT1⟩:∃ T1,T1=T ++ (⟨#[97,64,98]⟩:ByteArray):=⟨_,rfl⟩
    have H1:=jH (show T1=⟨(Lst.As5 1).toArray⟩ by rw [hT1,HT.out];rfl);have s1:T1.size<=4:=by rw [H1.out];decide
    have HT1:=jH hT1.symm;clear hT1;go_wp2;rw [HT1.out];go_roundg (n - 0)
    case measure=>omega
    case rel=>exact ⟨1,T1,by omega,by omega,rfl,rfl,by omega,H1.out,BB.out⟩
   ·have hk0:(0:Int)<((k+1:Nat):Int):=jO
    obtain ⟨T1,hT1⟩:∃ T1,T1=T ++ (⟨#[44]⟩:ByteArray) ++ (⟨#[97,64,98]⟩:ByteArray):=⟨_,rfl⟩
    have H1:=jH (show T1=⟨(Lst.As5 (k+2)).toArray⟩ by
     rw [hT1,HT.out,show (⟨#[44]⟩:ByteArray)=⟨[44].toArray⟩ from rfl,show (⟨#[97,64,98]⟩:ByteArray)=⟨[97,64,98].toArray⟩ from rfl,Lex.Gv,Lex.Gv];show _=(⟨(Lst.rep (k+1)).toArray⟩:ByteArray)
     rw [Lst.rep,show Lst.As5 (k+1)=Lst.rep k from rfl,jaq];rfl)
    have s1:T1.size<=4*(k+2):=by
     rw [H1.out,show Lst.As5 (k+2)=Lst.rep (k+1) from rfl,Li,Lst.Me];omega
    have HT1:=jH hT1.symm;obtain ⟨j,hj⟩:∃ j,j=k+1:=⟨_,rfl⟩
    rw [show k+2=j+1 by omega] at s1 H1;rw [<- hj] at hT hk hg hlt hkz hk0 ⊢;clear hT1 hj HT;go_wp2;rw [HT1.out];go_roundg (n - j)
    case measure=>omega
    case rel=>exact ⟨j+1,T1,by omega,by omega,by go_num,rfl,by omega,H1.out,BB.out⟩
  ·have hkz:¬ (k:Int)<(n:Int):=jO
   obtain rfl:k=n:=jO
   obtain ⟨U,hU⟩:∃ U,U=(if gr then (⟨#[103,58]⟩:ByteArray) ++ T ++ ⟨#[59]⟩ else T):=⟨_,rfl⟩
   have eU:U=⟨(Lst.full gr (k - 1)).toArray⟩:=by
    rw [hU,HT.out];obtain ⟨j,rfl⟩:∃ j,k=j+1:=⟨k - 1,by omega⟩
    cases gr with
    | true =>
     rw [if_pos rfl,show (⟨#[103,58]⟩:ByteArray)=⟨[103,58].toArray⟩ from rfl,show (⟨#[59]⟩:ByteArray)=⟨[59].toArray⟩ from rfl,Lex.Gv,Lex.Gv];simp [Lst.full,Lst.As5]
    | false=>rfl
   have hfl:=Lst.Ahf gr (k - 1);have sU:U.size<=100000:=by rw [eU,Li];omega
   have hp:Lst.Cx U.data.toList=if 100<k then (2,[]) else (0,Lst.Ht gr (k - 1)):=by
    rw [eU,Lh,Lst.Azw gr jO,show k - 1+1=k by omega]
   have hfit:=Lst.Av9 gr (k - 1) jO;have KP:=jH (λ(t:Value) (W:World) (hT:Table W t) {E:Int} {es:List Lst.Ent} (h:Lst.Cx U.data.toList=(E,es))=>Yu t U W hT sU (λts es' hl he=>by
    rw [eU,Lh] at hl;have:=Lst.Arj gr (k - 1) jO hl he;subst this;exact ⟨by omega,λe h1=>⟨by have:=(hfit.2 e h1).2.1;omega,λm hm=>⟨by have:=((hfit.2 e h1).2.2 m hm).1;omega,Yh ((hfit.2 e h1).2.2 m hm).2⟩⟩⟩) h)
   have hfl2:=Lst.Arh gr (k - 1);have hmany:=Lst.Ari gr (k - 1);rw [show k - 1+1=k by omega] at hfl2 hmany;generalize Lst.Ht gr (k - 1)=es at hp hfit hfl2 hmany;have HF:=jH hfit;have HL:=jH hfl2;clear eU hfl hfit hfl2 HT;by_cases h100:100<k
   ·rw [if_pos h100] at hp;have hcz:(100:Int)<(k:Int):=jO
    have HP:=jH hp;clear hp hmany;cases gr
    case false =>
     rw [if_neg jD] at hU;subst hU;go_wp2_with fail;refine (Oi _).mono ?_;rintro e w2 ⟨tt,rfl,hT2,hb2⟩;have B2:=jH (Aa BB.out hb2);have KK:=KP.out tt w2 hT2 HP.out;clear KP HP;go_wp2_with fail;refine KK.mono ?_;rintro e w3 ⟨v,rfl,o3,hb3⟩;have B3:=jH (Aa B2.out hb3);obtain ⟨A3,k3,rfl⟩:=o3.slice;clear o3 hb3 hT2 hb2;go_wp2;go_ret;exact ⟨rfl,B3.out⟩
    case true =>
     rw [if_pos rfl] at hU;have HU:=jH hU.symm;clear hU;go_wp2_with fail;refine (Oi _).mono ?_;rintro e w2 ⟨tt,rfl,hT2,hb2⟩;have B2:=jH (Aa BB.out hb2);have KK:=KP.out tt w2 hT2 HP.out;clear KP HP;go_wp2_with fail;rw [HU.out];refine KK.mono ?_;rintro e w3 ⟨v,rfl,o3,hb3⟩;have B3:=jH (Aa B2.out hb3);obtain ⟨A3,k3,rfl⟩:=o3.slice;clear o3 hb3 hT2 hb2;go_wp2;go_ret;exact ⟨rfl,B3.out⟩
   ·rw [if_neg h100] at hp;have hcz:¬ (100:Int)<(k:Int):=jO
    have HP:=jH hp;clear hp;cases gr
    case false =>
     rw [if_neg jD] at hU;subst hU;go_wp2_with fail;refine (Oi _).mono ?_;rintro e w2 ⟨tt,rfl,hT2,hb2⟩;have B2:=jH (Aa BB.out hb2);have KK:=KP.out tt w2 hT2 HP.out;clear KP HP;go_wp2_with fail;refine KK.mono ?_;rintro e w3 ⟨v,rfl,o3,hb3⟩;have B3:=jH (Aa B2.out hb3);have O3:=jH o3;obtain ⟨A3,k3,rfl⟩:=o3.slice;clear o3 hb3 hT2 hb2;go_wp2_with fail;have KB:=W6 _ es w3 O3.out.Dg HF.out.1 (λe he=>(HF.out.2 e he).2.1) (λe he m hm=>by have:=(HF.out.2 e he).2.2 m hm;exact ⟨by omega,by omega⟩);clear HF O3;rw [if_neg jD] at hmany;rw [hmany] at KB;refine KB.mono ?_;rintro e w4 ⟨vb,rfl,o4,hb4⟩;have B4:=jH (Aa B3.out hb4);obtain ⟨A4,k4,rfl⟩:=o4.slice;rw [HL.out];clear o4 hb4;go_wp2;go_ret;exact ⟨by first | rfl | (by_cases h1:k=1<;>simp [h1]),B4.out⟩
    case true =>
     rw [if_pos rfl] at hU;have HU:=jH hU.symm;clear hU;go_wp2_with fail;refine (Oi _).mono ?_;rintro e w2 ⟨tt,rfl,hT2,hb2⟩;have B2:=jH (Aa BB.out hb2);have KK:=KP.out tt w2 hT2 HP.out;clear KP HP;go_wp2_with fail;rw [HU.out];refine KK.mono ?_;rintro e w3 ⟨v,rfl,o3,hb3⟩;have B3:=jH (Aa B2.out hb3);have O3:=jH o3;obtain ⟨A3,k3,rfl⟩:=o3.slice;clear o3 hb3 hT2 hb2;go_wp2_with fail;have KB:=W6 _ es w3 O3.out.Dg HF.out.1 (λe he=>(HF.out.2 e he).2.1) (λe he m hm=>by have:=(HF.out.2 e he).2.2 m hm;exact ⟨by omega,by omega⟩);clear HF O3;rw [if_pos trivial] at hmany;rw [hmany] at KB;refine KB.mono ?_;rintro e w4 ⟨vb,rfl,o4,hb4⟩;have B4:=jH (Aa B3.out hb4);obtain ⟨A4,k4,rfl⟩:=o4.slice;rw [HL.out];clear o4 hb4;go_wp2;go_ret;exact ⟨by first | rfl | (by_cases h1:k=1<;>simp [h1]),B4.out⟩
