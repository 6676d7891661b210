import Derived.Test.YtipkfalbepiphaaGreatDoorLexA
import Derived.Laws.Runes
import Derived.Laws.RangeAny
import Derived.Lib.OthersKept
import Derived.Test.YtipkfalbepiphaaGreatDoorMbxPl
set_option maxRecDepth 100000
set_option maxHeartbeats 4000000
namespace Go.Proofs.YtipkfalbepiphaaGreatDoor
open Tryz
open Go.RowKit Utf
namespace Mbx
def Oa (r:Int):Bool:=decide (32<r) && (r != 127)
def Amy (r:Int):Bool:=(r != 32) && (r != 9) && !Oa r
def Amx (r:Int):Bool:=!Oa r || (decide (91<=r) && decide (r<=93))
theorem Ach {r:Int} (h:128<=r):Amy r=false:=by
 have e1:decide (32<r)=true:=decide_eq_true jO;have e2:(r != 127)=true:=by simpa using (by omega:¬ r=127)
 unfold Amy Oa;rw [e1,e2];simp
theorem Acg {r:Int} (h:128<=r):Amx r=false:=by
 have e1:decide (32<r)=true:=decide_eq_true jO;have e2:(r != 127)=true:=by simpa using (by omega:¬ r=127)
 have e3:decide (r<=93)=false:=decide_eq_false jO;unfold Amx Oa;rw [e1,e2,e3];simp
theorem Aci:∀ n:Nat,n<256->(Amy ((n:Nat):Int) == !Lex.Ai3 n && Amx ((n:Nat):Int) == !(Lex.Em n && n != 91 && n != 92 && n != 93))=true:=by decide +kernel
theorem Afm {n b0 b1 b2 b3:Nat} (hn:0<n) (h:¬ b0<128) :
  128<=(Lib.decodeN n b0 b1 b2 b3).1/\1<=(Lib.decodeN n b0 b1 b2 b3).2/\(Lib.decodeN n b0 b1 b2 b3).2<=n/\(Lib.decodeN n b0 b1 b2 b3).2<=4/\(1<(Lib.decodeN n b0 b1 b2 b3).2->128<=b1)/\(2<(Lib.decodeN n b0 b1 b2 b3).2->128<=b2)/\(3<(Lib.decodeN n b0 b1 b2 b3).2->128<=b3) /\
   ((Lib.decodeN n b0 b1 b2 b3).1<55296\/(57343<(Lib.decodeN n b0 b1 b2 b3).1/\(Lib.decodeN n b0 b1 b2 b3).1<=1114111)):=by
 unfold Lib.decodeN;rw [if_neg h]
 repeat' split
 all_goals simp only []
 all_goals omega
theorem decode_high {s:ByteArray} {k:Nat} (h:k<s.size) (hb:¬ s[k].toNat<128) :
  128<=(Utf8.decode s k).1/\1<=(Utf8.decode s k).2/\k+(Utf8.decode s k).2<=s.size/\(∀ j (hj:j<s.size),k<=j->j<k+(Utf8.decode s k).2->128<=s[j].toNat)/\((Utf8.decode s k).1<55296\/(57343<(Utf8.decode s k).1/\(Utf8.decode s k).1<=1114111)):=by
 have e:∀ j (hj:j<s.size),s.get! j=s[j]:=λj hj=>by simp [ByteArray.get!,getElem!_pos,hj];rfl
 rw [Lib.decode_at];have hb':¬ (s.get! k).toNat<128:=by rw [e k h];exact hb
 obtain ⟨h1,h2,h3,h4,h5,h6,h7,h8⟩:=Afm (n:=s.size - k) (b1:=(s.get! (k+1)).toNat) (b2:=(s.get! (k+2)).toNat) (b3:=(s.get! (k+3)).toNat) jO hb';refine ⟨h1,h2,by omega,λj hj hj1 hj2=>?_,h8⟩;rw [<- e j hj];rcases (by omega:j=k\/j=k+1\/j=k+2\/j=k+3) with rfl | rfl | rfl | rfl
 ·omega
 ·exact h5 jO
 ·exact h6 jO
 ·exact h7 jO
end Mbx
theorem Sj (r:Int) (w:World):Calls prog 99 #[.int .i32 r] w λe w'=>e=.returned (.bool (Mbx.Oa r))/\w=w':=by
 unfold Mbx.Oa;cases h1:decide (32<r)<;>cases h2:(r != 127)
 all_goals
  go_enter func99,ntmps99;go_wp2;go_ret;exact ⟨rfl,rfl⟩
theorem Axz (r:Int) (w:World):Calls prog 72 #[.int .i32 r] w λe w'=>e=.returned (.bool (Mbx.Amy r))/\w=w':=by
 have K:=jH (Sj r w);unfold Mbx.Amy;generalize Mbx.Oa r=p at K ⊢;cases h1:(r != 32)<;>cases h2:(r != 9)<;>cases p
 all_goals
  go_enter func72,ntmps72;go_wp2_with (go_at_call 99;with_reducible refine K.out.mono ?_;rintro e w1 ⟨rfl,rfl⟩);go_ret;exact ⟨rfl,rfl⟩
theorem Ab1 (r:Int) (w:World) (h:(0<=r/\r<55296)\/(57343<r/\r<=1114111)):Calls prog 190 #[.int .i32 r] w λe w'=>e=.returned (.bool true)/\w=w':=by
 rcases h with ⟨h1,h2⟩ | ⟨h1,h2⟩
 ·have d1:decide (0<=r)=true:=decide_eq_true h1;have d2:decide (r<55296)=true:=decide_eq_true h2;go_enter func190,ntmps190;go_wp2;go_ret;exact ⟨rfl,rfl⟩
 ·have d1:decide (0<=r)=true:=decide_eq_true jO;have d2:decide (r<55296)=false:=decide_eq_false jO;have d3:decide (57343<r)=true:=decide_eq_true h1;have d4:decide (r<=1114111)=true:=decide_eq_true h2;go_enter func190,ntmps190;go_wp2;go_ret;exact ⟨rfl,rfl⟩
theorem Ajt (r:Int) (w:World) (h0:0<=r) (h1:r<128):Calls prog 157 #[.string ⟨#[91,92,93]⟩,.int .i32 r] w λe w'=>∃ z:Int,e=.returned (.int .i64 z)/\decide (0<=z)=(decide (91<=r) && decide (r<=93))/\w=w':=by
 have hc0:=h0;obtain ⟨c,hc⟩:∃ c:UInt8,(c.toNat:Int)=r:=⟨UInt8.ofNat r.toNat,by rw [UInt8.toNat_ofNat',Nat.mod_eq_of_lt (by show r.toNat<256;omega)];omega⟩
 subst hc;have K:=jH (Hy ⟨#[91,92,93]⟩ c w);have hz:decide (0<=Lib.indexByte (⟨#[91,92,93]⟩:ByteArray).data.toList c)=(decide (91<=(c.toNat:Int)) && decide ((c.toNat:Int)<=93)):=by
  rw [Lex.I9];have:=Lex.Dl (p:=λc=>[91,92,93].contains c == (decide (91<=(c.toNat:Int)) && decide ((c.toNat:Int)<=93))) (by decide +kernel) c;simpa using this
 have HZ:=jH hz;clear hz;clear hc0;go_enter func157,ntmps157;go_wp2_with fail;refine K.out.mono ?_;rintro e w1 ⟨rfl,rfl⟩;go_wp2;go_ret;exact ⟨_,rfl,HZ.out,rfl⟩
theorem Ajx {c:UInt8} (h:128<=c.toNat):∀ X:List UInt8,(∀ b ∈ X,b.toNat<128)->Lib.indexByte X c=-1
 | [],_=>rfl
 | b::X,hx=>by
  have ih:=Ajx h X (λb hb=>hx b (by simp [hb]));have hb:=hx b jS;have:(b == c)=false:=by rw [beq_eq_false_iff_ne];rintro rfl;omega
  rw [show Lib.indexByte (b::X) c=if b == c then 0 else if Lib.indexByte X c == -1 then -1 else Lib.indexByte X c+1 from rfl,this,ih];rfl
theorem Ajs (w:World):Calls prog 157 #[.string ⟨#[91,92,93]⟩,.int .i32 65533] w λe w'=>e=.returned (.int .i64 (-1))/\Below w.heap.size w w':=by
 obtain ⟨s,hs⟩:∃ s:ByteArray,s=⟨#[91,92,93]⟩:=⟨_,rfl⟩
 have hsz:s.size=3:=by rw [hs];rfl
 have hlow:∀ k (h:k<s.size),s[k].toNat<128:=λk h=>by
  have h':k<3:=jO
  subst hs;rcases (by omega:k=0\/k=1\/k=2) with rfl | rfl | rfl
  ·show (91:UInt8).toNat<128;decide
  ·show (92:UInt8).toNat<128;decide
  ·show (93:UInt8).toNat<128;decide
 rw [<- hs];have HL:=jH hlow;clear hlow hs hsz;go_enter func157,ntmps157;go_wp2;go_loopg [5,6] (s.size+1) (λgk _ _ wr=>∃ k:Nat,k<=s.size/\s.size - k<gk/\wr=w.iter s k)
 case atStart=>exact ⟨0,Nat.zero_le _,by omega,rfl⟩
 case round =>
  obtain ⟨k,hk,hg,rfl⟩:=hrel;have hB:=jH (show Below w.heap.size w (w.iter s k) from (jan _ w).alloc (jaa _) _);by_cases hlt:k<s.size
  ·have hnx:=λty=>run_next_ascii (P:=prog) w s k ty hlt (HL.out k hlt);have hlo:=HL.out k hlt;have hq:((s[k].toNat:Int) == 65533)=false:=by simpa using (by omega:¬ (s[k].toNat:Int)=65533)
   go_wp2;go_roundg (s.size - k)
   case measure=>omega
   case rel=>exact ⟨k+1,by omega,by omega,rfl⟩
  ·obtain rfl:k=s.size:=jO
   have hnx:=λty=>run_next_end (P:=prog) w s s.size ty hlt;go_wp2;go_ret;exact ⟨rfl,hB.out⟩
theorem Vs (w:World):∀ n,Below w.heap.size w (w.drewN n)
 | 0=>jan _ _
 | n+1=>(Vs w n).drew
theorem Af5 (r:Int) (w:World) (h128:128<=r) (hne:r ≠ 65533) (hv:r<55296\/(57343<r/\r<=1114111)):Calls prog 157 #[.string ⟨#[91,92,93]⟩,.int .i32 r] w λe w'=>e=.returned (.int .i64 (-1))/\Below w.heap.size w w':=by
 have hvv:Utf8.valid r=true:=by rw [validRune_eq];unfold validRune;rw [decide_eq_true_eq];omega
 obtain ⟨e1,e2,e3⟩:=encode_facts r hvv h128;have KV:=jH (Ab1 r w jO);obtain ⟨E,hE⟩:∃ E,E=Utf8.encode r:=⟨_,rfl⟩
 rw [<- hE] at e1 e2 e3;have hlast:E.size - 1<E.size:=jO
 have hc:=e3 hlast;have d0:decide ((0:Int)<=r)=true:=decide_eq_true jO;have d1:decide (r<128)=false:=decide_eq_false jO;have d2:(r == 65533)=false:=by simpa using hne
 obtain ⟨S,hS⟩:∃ S:ByteArray,S=⟨#[91,92,93]⟩:=⟨_,rfl⟩
 have hss:S.size=3:=by rw [hS];rfl
 have hlow:∀ k (h:k<S.size),S[k].toNat<128:=λk h=>by
  have h':k<3:=jO
  subst hS;rcases (by omega:k=0\/k=1\/k=2) with rfl | rfl | rfl
  ·show (91:UInt8).toNat<128;decide
  ·show (92:UInt8).toNat<128;decide
  ·show (93:UInt8).toNat<128;decide
 have hex:∀ i j,∀ b ∈ (S.extract i j).data.toList,b.toNat<128:=λi j b hb=>by
  rw [ByteArray.data_extract,Array.toList_extract,List.extract_eq_take_drop] at hb;obtain ⟨k,hk,rfl⟩:=List.getElem_of_mem (List.mem_of_mem_drop (List.mem_of_mem_take hb));have hk':k<S.size:=by simpa using hk
  have:=hlow k hk';rwa [show S.data.toList[k]=S[k] by simp;rfl]
 rw [<- hS];obtain ⟨m,hm⟩:∃ m,E.size=m+1:=⟨E.size - 1,by omega⟩
 have hmE:m<E.size:=jO
 have hc':128<=E[m].toNat:=by
  have e:E.size - 1=m:=jO
  simp only [e] at hc;exact hc
 have hmz:(m:Int)<(E.size:Int):=jO
 have HW:Hid (wrap64 ((E.size:Int) - 1)=(m:Int)):=jH (by rw [show (E.size:Int) - 1=(m:Int) by omega];exact IntWalk.wrap64_in (m:Int) ⟨by omega,by omega⟩);have h0z:(0:Int)<=(m:Int):=jO
 have hb2:=Dq E[m];have HE:=jH hE.symm;by_cases hm2:m<=2
 ·have hmS:m<S.size:=jO
  have hmSz:(m:Int)<(S.size:Int):=jO
  have hm1:(m:Int)+1<=(S.size:Int):=jO
  have hmw:IntKind.i64.wrap ((m:Int)+1)=(m:Int)+1:=by have:=wrap_small ((m:Int)+1) jO jO;exact this
  have hlo:=hlow m hmS;have q:((S[m].toNat:Int) != (E[m].toNat:Int))=true:=by simpa using (by omega:¬ (S[m].toNat:Int)=(E[m].toNat:Int))
  have KI:=λi j W=>Hy (S.extract i j) E[m] W;have hin:∀ i j,Lib.indexByte (S.extract i j).data.toList E[m]=-1:=λi j=>Ajx hc' _ (hex i j);simp only [hin] at KI;have KI:=jH KI;clear e1 e2 e3 hne hv hvv hlast hc hE hex hlow hin hm hS hc' hm2 hss;go_enter func157,ntmps157;go_wp2_with fail;refine KV.out.mono ?_;rintro e w1 ⟨rfl,rfl⟩;go_wp2;go_step3;go_wp2;rw [HE.out,HW.out];go_wp2;go_loopg [9] 2 (λgk s9 wr=>s9=.int .i64 m/\0<gk/\w=wr)
  case atStart=>exact ⟨rfl,by omega,rfl⟩
  case round =>
   obtain ⟨rfl,hg,rfl⟩:=hrel;go_wp2;go_step3;go_wp2;go_quiet (fail);go_wp2;go_region_with (first | (go_at_call 142;(with_reducible refine (KI.out _ _ _).mono ?_);rintro e w1 ⟨rfl,rfl⟩))
   all_goals
    go_wp2;simp only [Exit.noGoto,Exit.inBlock,Exit.then];go_ret;exact ⟨rfl,(Vs _ _).drew⟩
 ·have hmS:¬ (m:Int)<(S.size:Int):=jO
  clear e1 e2 e3 hne hv hvv hlast hc hE hex hlow hm hS hc' hm2 hss;go_enter func157,ntmps157;go_wp2_with fail;refine KV.out.mono ?_;rintro e w1 ⟨rfl,rfl⟩;go_wp2;go_step3;go_wp2;rw [HE.out,HW.out];go_wp2;go_loopg [9] 2 (λgk s9 wr=>s9=.int .i64 m/\0<gk/\w=wr)
  case atStart=>exact ⟨rfl,by omega,rfl⟩
  case round =>
   obtain ⟨rfl,hg,rfl⟩:=hrel;go_wp2;rw [Exit.noGoto_ret];go_ret;exact ⟨rfl,jan _ _⟩
def Mbx.X9 (r:Int):Prop:=(0<=r/\r<55296)\/(57343<r/\r<=1114111)
theorem Js {hi:Bool} (g:Nat) (ok:UInt8->Bool) (p:Int->Bool) (hlow:∀ c:UInt8,c.toNat<128->p (c.toNat:Int)=!ok c) (hhigh:∀ r:Int,128<=r->p r=hi) (hok:∀ c:UInt8,¬ c.toNat<128->ok c=!hi) (s:ByteArray) (w:World)
  (eg:∀ args w,(callFunc g args).run prog w=.ok (.enter g args) w) (hp:∀ (W:World) (r:Int),Mbx.X9 r->Below w.heap.size w W->Calls prog g #[.int .i32 r] W λe W'=>e=.returned (.bool (p r))/\Below W.heap.size W W') :
  Calls prog 70 #[.string s,.func (.func g) #[] #[],.bool true] w λe w'=>∃ z:Int,e=.returned (.int .i64 z)/\decide (0<=z)=!(s.data.toList.all ok)/\Below w.heap.size w w':=by
 have hsl:s.data.toList.length=s.size:=by simp
 obtain ⟨R,hR⟩:∃ R,R=s.data.toList.all ok:=⟨_,rfl⟩
 have hno:∀ k (h:k<s.size),ok s[k]=false->R=false:=λk h e=>by
  rw [hR,<- Bool.not_eq_true,jar];intro hall;have:=hall _ (List.getElem_mem (show k<s.data.toList.length by omega));rw [show s.data.toList[k]=s[k] by simp;rfl,e] at this;cases this
 have hyes:(∀ k (h:k<s.size),ok s[k]=true)->R=true:=λh=>by
  rw [hR,jar];intro c hc;obtain ⟨k,hk,rfl⟩:=List.getElem_of_mem hc;exact h k jO
 rw [<- hR];have HN:=jH hno;have HY:=jH hyes;have HP:=jH hp;have hit0:∀ pos:Nat,decide (0<=((pos:Nat):Int))=true:=λpos=>decide_eq_true jO;have HIT:=jH hit0;have HLO:=jH hlow;have HHI:=jH hhigh;have HOK:=jH hok;clear hR hno hyes hsl hp hit0 hlow hhigh hok;go_enter func70,ntmps70;go_wp2;go_loopg [] (s.size+1) (λgk wr=>∃ k:Nat,k<=s.size/\s.size - k<gk/\Hid (wr.heap[w.heap.size]? = some (.stringIter s k)/\Below w.heap.size w wr/\∀ j (h:j<s.size),j<k->ok s[j]=true))
 case atStart=>exact ⟨0,Nat.zero_le _,by omega,jH ⟨World.iter_heap w s 0,(jan _ w).alloc (jaa _) _,λj _ hj=>absurd hj (Nat.not_lt_zero _)⟩⟩
 case round =>
  obtain ⟨k,hk,hg,I⟩:=hrel;by_cases hlt:k<s.size
  ·have hnx:∀ ty,(Instr.next (.pointer (some ⟨w.heap.size,0,none⟩)) true ty).run prog wr=_:=λty=>Lib.run_next_any_at wr w.heap.size s k ty I.out.1 hlt;have hit2:=λK=>Lib.iterAt_heap wr w.heap.size s k (k+K) I.out.1;have hbw2:=λK=>Lib.below_iterAt I.out.2.1 (k:=w.heap.size) (jaa _) s (k+K);have hfacts:∃ (x n:Nat),Utf8.decode s k=(x,n)/\1<=n/\k+n<=s.size/\Mbx.X9 (x:Int)/\((p (x:Int)=true/\ok s[k]=false)\/(p (x:Int)=false/\∀ j (h:j<s.size),k<=j->j<k+n->ok s[j]=true)):=by
    by_cases ha:s[k].toNat<128
    ·have hd:=decode_ascii s k hlt ha;refine ⟨s[k].toNat,1,hd,jaa _,by omega,.inl ⟨by omega,by omega⟩,?_⟩;rw [HLO.out s[k] ha];cases ho:ok s[k]
     ·exact .inl ⟨rfl,rfl⟩
     ·refine .inr ⟨rfl,λj hj h1 h2=>?_⟩;obtain rfl:j=k:=jO
      exact ho
    ·obtain ⟨h1,h2,h3,h4,h5⟩:=Mbx.decode_high hlt ha;have hch:Mbx.X9 ((Utf8.decode s k).1:Int):=by unfold Mbx.X9;omega
     cases hi
     ·exact ⟨(Utf8.decode s k).1,(Utf8.decode s k).2,rfl,h2,h3,hch,.inr ⟨HHI.out _ jO,λj hj h6 h7=>HOK.out _ (by have h8:=h4 j hj h6 h7;omega)⟩⟩
     ·exact ⟨(Utf8.decode s k).1,(Utf8.decode s k).2,rfl,h2,h3,hch,.inl ⟨HHI.out _ jO,HOK.out _ ha⟩⟩
   obtain ⟨x,n,hxn,hn1,hkn,hch,hcs⟩:=hfacts;rw [hxn] at hnx;have hit2:=hit2 n;have hbw2:=hbw2 n;simp only at hnx;obtain ⟨W,hWd⟩:∃ W,wr.iterAt w.heap.size s (k+n)=W:=⟨_,rfl⟩
   rw [hWd] at hnx hit2 hbw2;have hltW:w.heap.size<W.heap.size:=(Array.getElem?_eq_some_iff.1 hit2).1;have KC:=HP.out W (x:Int) hch hbw2;rcases hcs with ⟨h1,h2⟩ | ⟨h1,h2⟩
   ·rw [h1] at KC;have KC:=jH KC;have E:=jH (HN.out k hlt h2);have BW:=jH hbw2;clear h1 h2 hxn hch hbw2 hit2 hWd;go_wp2_with fail;refine KC.out.mono ?_;rintro e w3 ⟨rfl,hb⟩;have B3:=jH (BW.out.trans (hb.mono BW.out.size));clear hb;go_wp2;go_ret;exact ⟨_,rfl,by rw [E.out];exact HIT.out _,B3.out⟩
   ·rw [h1] at KC;have KC:=jH KC;have I2:Hid (∀ w3,Below W.heap.size W w3->w3.heap[w.heap.size]? = some (.stringIter s (k+n))/\Below w.heap.size w w3/\∀ j (h:j<s.size),j<k+n->ok s[j]=true):=jH λw3 hb =>
     ⟨(
      hb.block _ hltW).trans hit2,hbw2.trans (hb.mono hbw2.size),λj hj h3=>by
      by_cases h4:j<k
      · exact I.out.2.2 j hj h4
      · exact h2 j hj jO h3⟩
    clear h1 h2 hxn hch hbw2 hit2 hWd;go_wp2_with fail;refine KC.out.mono ?_;rintro e w3 ⟨rfl,hb⟩;have I3:=jH (I2.out w3 hb);clear hb I2;go_wp2;go_roundg (s.size - k)
    case measure=>omega
    case rel=>exact ⟨k+n,by omega,by omega,I3⟩
  ·obtain rfl:k=s.size:=jO
   have hnx:∀ ty,(Instr.next (.pointer (some ⟨w.heap.size,0,none⟩)) true ty).run prog wr=_:=λty=>Lib.run_next_end_at wr w.heap.size s s.size ty I.out.1 hlt;have E:=jH (HY.out λj hj=>I.out.2.2 j hj hj);go_wp2;go_ret;exact ⟨_,rfl,by rw [E.out];rfl,I.out.2.1⟩
theorem Ajr (r:Int) (w:World) (h:Mbx.X9 r):Calls prog 157 #[.string ⟨#[91,92,93]⟩,.int .i32 r] w λe w'=>∃ z:Int,e=.returned (.int .i64 z)/\decide (0<=z)=(decide (91<=r) && decide (r<=93))/\Below w.heap.size w w':=by
 unfold Mbx.X9 at h;by_cases h1:r<128
 ·exact (Ajt r w jO h1).mono λe w' ⟨z,e1,e2,e3⟩=>⟨z,e1,e2,e3 ▸ jan _ _⟩
 ·have e2:(decide (91<=r) && decide (r<=93))=false:=by rw [decide_eq_false (show ¬ r<=93 by omega),Bool.and_false]
  rw [e2];by_cases h3:r=65533
  ·subst h3;exact (Ajs w).mono λe w' ⟨e1,hb⟩=>⟨-1,e1,rfl,hb⟩
  ·exact (Af5 r w jO h3 jO).mono λe w' ⟨e1,hb⟩=>⟨-1,e1,rfl,hb⟩
theorem Axy (r:Int) (w:World) (h:Mbx.X9 r):Calls prog 103 #[.int .i32 r] w λe w'=>e=.returned (.bool (Mbx.Amx r))/\Below w.heap.size w w':=by
 have K:=jH (Sj r w);have KL:=jH (Ajr r w h);unfold Mbx.Amx;generalize Mbx.Oa r=p at K ⊢;generalize (decide (91<=r) && decide (r<=93))=q at KL ⊢;cases p
 ·go_enter func103,ntmps103;go_wp2_with fail;refine K.out.mono ?_;rintro e w1 ⟨rfl,rfl⟩;go_wp2;go_ret;exact ⟨by cases q<;>rfl,jan _ _⟩
 ·cases q
  all_goals
   go_enter func103,ntmps103;go_wp2_with fail;refine K.out.mono ?_;rintro e w1 ⟨rfl,rfl⟩;go_wp2_with (go_at_call 133;go_in);refine KL.out.mono ?_;rintro e w2 ⟨z,rfl,hz,hb⟩;have HB:=jH hb;clear hb;go_wp2;go_ret;exact ⟨rfl,HB.out⟩
theorem Abh (s:ByteArray) (w:World) (_hs:s.size<=100000):Calls prog 34 #[.string s,.func (.func 72) #[] #[]] w λe w'=>e=.returned (.bool (!(s.data.toList.all Lex.Aw)))/\Below w.heap.size w w':=by
 have hbar:∀ c:UInt8,Mbx.Amy (c.toNat:Int)=!Lex.Aw c:=λc=>by
  have:=Mbx.Aci c.toNat (Dq c);rw [jag,beq_iff_eq] at this;exact this.1
 have K:=jH (Js 72 Lex.Aw Mbx.Amy (λc _=>hbar c) (λr h=>Mbx.Ach h) (λc h=>by have:=hbar c;rw [Mbx.Ach (show (128:Int)<=(c.toNat:Int) by omega)] at this;simpa using this.symm) s w
  (enters_of func72 jK rfl) (λW r _ _=>(Axz r W).mono λe w' ⟨h1,h2⟩=>⟨h1,h2 ▸ jan _ _⟩))
 generalize s.data.toList.all Lex.Aw=p at K ⊢;cases p
 all_goals
  go_enter func34,ntmps34;go_wp2_with (go_at_call 52;go_in);refine K.out.mono ?_;rintro e w3 ⟨z,rfl,hz,hb⟩;have HB:=jH hb;clear hb;go_wp2;go_ret;exact ⟨rfl,HB.out⟩
theorem Abg (s:ByteArray) (w:World) (_hs:s.size<=100000):Calls prog 34 #[.string s,.func (.func 103) #[] #[]] w λe w'=>e=.returned (.bool (!(s.data.toList.all Mbx.Nt)))/\Below w.heap.size w w':=by
 have hbar:∀ c:UInt8,Mbx.Amx (c.toNat:Int)=!Mbx.Nt c:=λc=>by
  have:=Mbx.Aci c.toNat (Dq c);rw [jag,beq_iff_eq,beq_iff_eq] at this;exact this.2
 have K:=jH (Js 103 Mbx.Nt Mbx.Amx (λc _=>hbar c) (λr h=>Mbx.Acg h) (λc h=>by have:=hbar c;rw [Mbx.Acg (show (128:Int)<=(c.toNat:Int) by omega)] at this;simpa using this.symm) s w
  (enters_of func103 jK rfl) (λW r h _=>Axy r W h))
 generalize s.data.toList.all Mbx.Nt=p at K ⊢;cases p
 all_goals
  go_enter func34,ntmps34;go_wp2_with (go_at_call 52;go_in);refine K.out.mono ?_;rintro e w3 ⟨z,rfl,hz,hb⟩;have HB:=jH hb;clear hb;go_wp2;go_ret;exact ⟨rfl,HB.out⟩
