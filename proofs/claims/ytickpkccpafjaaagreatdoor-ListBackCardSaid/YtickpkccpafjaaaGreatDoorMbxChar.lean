import Derived.Test.YtickpkccpafjaaaGreatDoorLexA
import Derived.Laws.Runes
import Derived.Laws.RangeAny
import Derived.Lib.OthersKept
import Derived.Test.YtickpkccpafjaaaGreatDoorMbxPl
set_option maxRecDepth 100000
set_option maxHeartbeats 4000000
namespace Go.Proofs.YtickpkccpafjaaaGreatDoor
open Tryz
open Go.RowKit Utf
namespace Mbx
def Nj (r:Int):Bool:=decide (32<r) && (r != 127)
def Akz (r:Int):Bool:=(r != 32) && (r != 9) && !Nj r
def Aky (r:Int):Bool:=!Nj r || (decide (91<=r) && decide (r<=93))
theorem Abb {r:Int} (h:128<=r):Akz r=false:=by
 have e1:decide (32<r)=true:=decide_eq_true jO;have e2:(r != 127)=true:=by simpa using (by omega:¬ r=127)
 unfold Akz Nj;rw [e1,e2];simp
theorem Aba {r:Int} (h:128<=r):Aky r=false:=by
 have e1:decide (32<r)=true:=decide_eq_true jO;have e2:(r != 127)=true:=by simpa using (by omega:¬ r=127)
 have e3:decide (r<=93)=false:=decide_eq_false jO;unfold Aky Nj;rw [e1,e2,e3];simp
theorem Abc:∀ n:Nat,n<256->(Akz ((n:Nat):Int) == !Lex.Ab0 n && Aky ((n:Nat):Int) == !(Lex.G9 n && n != 91 && n != 92 && n != 93))=true:=by decide +kernel
theorem Aed {n b0 b1 b2 b3:Nat} (hn:0<n) (h:¬ b0<128) :
  128<=(Lib.decodeN n b0 b1 b2 b3).1/\1<=(Lib.decodeN n b0 b1 b2 b3).2/\(Lib.decodeN n b0 b1 b2 b3).2<=n/\(Lib.decodeN n b0 b1 b2 b3).2<=4/\(1<(Lib.decodeN n b0 b1 b2 b3).2->128<=b1)/\(2<(Lib.decodeN n b0 b1 b2 b3).2->128<=b2)/\(3<(Lib.decodeN n b0 b1 b2 b3).2->128<=b3) /\
   ((Lib.decodeN n b0 b1 b2 b3).1<55296\/(57343<(Lib.decodeN n b0 b1 b2 b3).1/\(Lib.decodeN n b0 b1 b2 b3).1<=1114111)):=by
 unfold Lib.decodeN;rw [if_neg h]
 repeat' split
 all_goals simp only []
 all_goals omega
theorem decode_high {s:ByteArray} {k:Nat} (h:k<s.size) (hb:¬ s[k].toNat<128) :
  128<=(Utf8.decode s k).1/\1<=(Utf8.decode s k).2/\k+(Utf8.decode s k).2<=s.size/\(∀ j (hj:j<s.size),k<=j->j<k+(Utf8.decode s k).2->128<=s[j].toNat)/\((Utf8.decode s k).1<55296\/(57343<(Utf8.decode s k).1/\(Utf8.decode s k).1<=1114111)):=by
 have e:∀ j (hj:j<s.size),s.get! j=s[j]:=λj hj=>by simp [ByteArray.get!,getElem!_pos,hj];rfl
 rw [Lib.decode_at];have hb':¬ (s.get! k).toNat<128:=by rw [e k h];exact hb
 obtain ⟨h1,h2,h3,h4,h5,h6,h7,h8⟩:=Aed (n:=s.size - k) (b1:=(s.get! (k+1)).toNat) (b2:=(s.get! (k+2)).toNat) (b3:=(s.get! (k+3)).toNat) jO hb';refine ⟨h1,h2,by omega,λj hj hj1 hj2=>?_,h8⟩;rw [<- e j hj];rcases (by omega:j=k\/j=k+1\/j=k+2\/j=k+3) with rfl | rfl | rfl | rfl
 ·omega
 ·exact h5 jO
 ·exact h6 jO
 ·exact h7 jO
end Mbx
theorem Rl (r:Int) (w:World):Calls prog 71 #[.int .i32 r] w λe w'=>e=.returned (.bool (Mbx.Nj r))/\w=w':=by
 unfold Mbx.Nj;cases h1:decide (32<r)<;>cases h2:(r != 127)
 all_goals
  go_enter func71,ntmps71;go_wp2;go_ret;exact ⟨rfl,rfl⟩
theorem Au6 (r:Int) (w:World):Calls prog 48 #[.int .i32 r] w λe w'=>e=.returned (.bool (Mbx.Akz r))/\w=w':=by
 have K:=jH (Rl r w);unfold Mbx.Akz;generalize Mbx.Nj r=p at K ⊢;cases h1:(r != 32)<;>cases h2:(r != 9)<;>cases p
 all_goals
  go_enter func48,ntmps48;go_wp2_with (go_at_call 71;with_reducible refine K.out.mono ?_;rintro e w1 ⟨rfl,rfl⟩);go_ret;exact ⟨rfl,rfl⟩
theorem Aax (r:Int) (w:World) (h:(0<=r/\r<55296)\/(57343<r/\r<=1114111)):Calls prog 167 #[.int .i32 r] w λe w'=>e=.returned (.bool true)/\w=w':=by
 rcases h with ⟨h1,h2⟩ | ⟨h1,h2⟩
 ·have d1:decide (0<=r)=true:=decide_eq_true h1;have d2:decide (r<55296)=true:=decide_eq_true h2;go_enter func167,ntmps167;go_wp2;go_ret;exact ⟨rfl,rfl⟩
 ·have d1:decide (0<=r)=true:=decide_eq_true jO;have d2:decide (r<55296)=false:=decide_eq_false jO;have d3:decide (57343<r)=true:=decide_eq_true h1;have d4:decide (r<=1114111)=true:=decide_eq_true h2;go_enter func167,ntmps167;go_wp2;go_ret;exact ⟨rfl,rfl⟩
theorem Ah8 (r:Int) (w:World) (h0:0<=r) (h1:r<128):Calls prog 138 #[.string ⟨#[91,92,93]⟩,.int .i32 r] w λe w'=>∃ z:Int,e=.returned (.int .i64 z)/\decide (0<=z)=(decide (91<=r) && decide (r<=93))/\w=w':=by
 have hc0:=h0;obtain ⟨c,hc⟩:∃ c:UInt8,(c.toNat:Int)=r:=⟨UInt8.ofNat r.toNat,by rw [UInt8.toNat_ofNat',Nat.mod_eq_of_lt (by show r.toNat<256;omega)];omega⟩
 subst hc;have K:=jH (Hj ⟨#[91,92,93]⟩ c w);have hz:decide (0<=Lib.indexByte (⟨#[91,92,93]⟩:ByteArray).data.toList c)=(decide (91<=(c.toNat:Int)) && decide ((c.toNat:Int)<=93)):=by
  rw [Lex.Iq];have:=Lex.Sz (p:=λc=>[91,92,93].contains c == (decide (91<=(c.toNat:Int)) && decide ((c.toNat:Int)<=93))) (by decide +kernel) c;simpa using this
 have HZ:=jH hz;clear hz;clear hc0;go_enter func138,ntmps138;go_wp2_with fail;refine K.out.mono ?_;rintro e w1 ⟨rfl,rfl⟩;go_wp2;go_ret;exact ⟨_,rfl,HZ.out,rfl⟩
theorem Aib {c:UInt8} (h:128<=c.toNat):∀ X:List UInt8,(∀ b ∈ X,b.toNat<128)->Lib.indexByte X c=-1
 | [],_=>rfl
 | b::X,hx=>by
  have ih:=Aib h X (λb hb=>hx b (by simp [hb]));have hb:=hx b jS;have:(b == c)=false:=by rw [beq_eq_false_iff_ne];rintro rfl;omega
  rw [show Lib.indexByte (b::X) c=if b == c then 0 else if Lib.indexByte X c == -1 then -1 else Lib.indexByte X c+1 from rfl,this,ih];rfl
theorem Ah7 (w:World):Calls prog 138 #[.string ⟨#[91,92,93]⟩,.int .i32 65533] w λe w'=>e=.returned (.int .i64 (-1))/\Below w.heap.size w w':=by
 obtain ⟨s,hs⟩:∃ s:ByteArray,s=⟨#[91,92,93]⟩:=⟨_,rfl⟩
 have hsz:s.size=3:=by rw [hs];rfl
 have hlow:∀ k (h:k<s.size),s[k].toNat<128:=λk h=>by
  have h':k<3:=jO
  subst hs;rcases (by omega:k=0\/k=1\/k=2) with rfl | rfl | rfl
  ·show (91:UInt8).toNat<128;decide
  ·show (92:UInt8).toNat<128;decide
  ·show (93:UInt8).toNat<128;decide
 rw [<- hs];have HL:=jH hlow;clear hlow hs hsz;go_enter func138,ntmps138;go_wp2;go_loopg [5,6] (s.size+1) (λgk _ _ wr=>∃ k:Nat,k<=s.size/\s.size - k<gk/\wr=w.iter s k)
 case atStart=>exact ⟨0,Nat.zero_le _,by omega,rfl⟩
 case round =>
  obtain ⟨k,hk,hg,rfl⟩:=hrel;have hB:=jH (show Below w.heap.size w (w.iter s k) from (jan _ w).alloc (jaa _) _);by_cases hlt:k<s.size
  ·have hnx:=λty=>run_next_ascii (P:=prog) w s k ty hlt (HL.out k hlt);have hlo:=HL.out k hlt;have hq:((s[k].toNat:Int) == 65533)=false:=by simpa using (by omega:¬ (s[k].toNat:Int)=65533)
   go_wp2;go_roundg (s.size - k)
   case measure=>omega
   case rel=>exact ⟨k+1,by omega,by omega,rfl⟩
  ·obtain rfl:k=s.size:=jO
   have hnx:=λty=>run_next_end (P:=prog) w s s.size ty hlt;go_wp2;go_ret;exact ⟨rfl,hB.out⟩
theorem Ai8 {P:Program} {f:FuncId} {args:Array Value} {w:World} {n:Nat} {v:Value} (h:Calls P f args (w.drewN n) λe w'=>e=.returned v/\w.drewN n=w') :
 Calls P f args (w.drewN n) λe w'=>e=.returned v/\∃ m,w'=w.drewN m:=h.mono λ_ _ ⟨he,hw⟩=>⟨he,n,hw.symm⟩
theorem Jt (w:World):∀ n,Below w.heap.size w (w.drewN n)
 | 0=>jan _ _
 | n+1=>(Jt w n).drew
theorem Aev (r:Int) (w:World) (h128:128<=r) (hne:r ≠ 65533) (hv:r<55296\/(57343<r/\r<=1114111)):Calls prog 138 #[.string ⟨#[91,92,93]⟩,.int .i32 r] w λe w'=>e=.returned (.int .i64 (-1))/\Below w.heap.size w w':=by
 have hvv:Utf8.valid r=true:=by rw [validRune_eq];unfold validRune;rw [decide_eq_true_eq];omega
 obtain ⟨e1,e2,e3⟩:=encode_facts r hvv h128;have KV:=jH (Aax r w jO);obtain ⟨E,hE⟩:∃ E,E=Utf8.encode r:=⟨_,rfl⟩
 rw [<- hE] at e1 e2 e3;have hlast:E.size - 1<E.size:=jO
 have hc:=e3 hlast;have d0:decide ((0:Int)<=r)=true:=decide_eq_true jO;have d1:decide (r<128)=false:=decide_eq_false jO;have d2:(r == 65533)=false:=by simpa using hne
 obtain ⟨S,hS⟩:∃ S:ByteArray,S=⟨#[91,92,93]⟩:=⟨_,rfl⟩
 have hss:S.size=3:=by rw [hS];rfl
 have hlow:∀ k (h:k<S.size),S[k].toNat<128:=λk h=>by
  have h':k<3:=jO
  subst hS;rcases (by omega:k=0\/k=1\/k=2) with rfl | rfl | rfl
  ·show (91:UInt8).toNat<128;decide
  ·show (92:UInt8).toNat<128;decide
  ·show (93:UInt8).toNat<128;decide
 have hex:∀ i j,∀ b ∈ (S.extract i j).data.toList,b.toNat<128:=λi j b hb=>by
  rw [ByteArray.data_extract,Array.toList_extract,List.extract_eq_take_drop] at hb;obtain ⟨k,hk,rfl⟩:=List.getElem_of_mem (List.mem_of_mem_drop (List.mem_of_mem_take hb));have hk':k<S.size:=by simpa using hk
  have:=hlow k hk';rwa [show S.data.toList[k]=S[k] by simp;rfl]
 rw [<- hS];obtain ⟨m,hm⟩:∃ m,E.size=m+1:=⟨E.size - 1,by omega⟩
 have hmE:m<E.size:=jO
 have hc':128<=E[m].toNat:=by
  have e:E.size - 1=m:=jO
  simp only [e] at hc;exact hc
 have hmz:(m:Int)<(E.size:Int):=jO
 have HW:Hid (wrap64 ((E.size:Int) - 1)=(m:Int)):=jH (by rw [show (E.size:Int) - 1=(m:Int) by omega];exact IntWalk.wrap64_in (m:Int) ⟨by omega,by omega⟩);have h0z:(0:Int)<=(m:Int):=jO
 have hb2:=C5 E[m];have HE:=jH hE.symm;by_cases hm2:m<=2
 ·have hmS:m<S.size:=jO
  have hmSz:(m:Int)<(S.size:Int):=jO
  have hm1:(m:Int)+1<=(S.size:Int):=jO
  have hmw:IntKind.i64.wrap ((m:Int)+1)=(m:Int)+1:=by have:=wrap_small ((m:Int)+1) jO jO;exact this
  have hlo:=hlow m hmS;have q:((S[m].toNat:Int) != (E[m].toNat:Int))=true:=by simpa using (by omega:¬ (S[m].toNat:Int)=(E[m].toNat:Int))
  have KI:=λi j W=>Hj (S.extract i j) E[m] W;have hin:∀ i j,Lib.indexByte (S.extract i j).data.toList E[m]=-1:=λi j=>Aib hc' _ (hex i j);simp only [hin] at KI;have KI:=jH KI;clear e1 e2 e3 hne hv hvv hlast hc hE hex hlow hin hm hS hc' hm2 hss;go_enter func138,ntmps138;go_wp2_with fail;refine KV.out.mono ?_;rintro e w1 ⟨rfl,rfl⟩;go_wp2;go_step3;go_wp2;rw [HE.out,HW.out];go_wp2;go_loopg [9] 2 (λgk s9 wr=>s9=.int .i64 m/\0<gk/\w=wr)
  case atStart=>exact ⟨rfl,by omega,rfl⟩
  case round =>
   obtain ⟨rfl,hg,rfl⟩:=hrel;go_wp2;go_step3;go_wp2;go_quiet (fail);go_wp2;go_region_with (first | (go_at_call 124;(with_reducible refine (KI.out _ _ _).mono ?_);rintro e w1 ⟨rfl,rfl⟩))
   all_goals
    go_wp2;simp only [Exit.noGoto,Exit.inBlock,Exit.then];go_ret;exact ⟨rfl,(Jt _ _).drew⟩
 ·have hmS:¬ (m:Int)<(S.size:Int):=jO
  clear e1 e2 e3 hne hv hvv hlast hc hE hex hlow hm hS hc' hm2 hss;go_enter func138,ntmps138;go_wp2_with fail;refine KV.out.mono ?_;rintro e w1 ⟨rfl,rfl⟩;go_wp2;go_step3;go_wp2;rw [HE.out,HW.out];go_wp2;go_loopg [9] 2 (λgk s9 wr=>s9=.int .i64 m/\0<gk/\w=wr)
  case atStart=>exact ⟨rfl,by omega,rfl⟩
  case round =>
   obtain ⟨rfl,hg,rfl⟩:=hrel;go_wp2;rw [Exit.noGoto_ret];go_ret;exact ⟨rfl,jan _ _⟩
def Mbx.Abg (r:Int):Prop:=(0<=r/\r<55296)\/(57343<r/\r<=1114111)
theorem Ji (g:Nat) (ok:UInt8->Bool) (p:Int->Bool) (hlow:∀ c:UInt8,c.toNat<128->p (c.toNat:Int)=!ok c) (hhigh:∀ r:Int,128<=r->p r=false) (hok:∀ c:UInt8,¬ c.toNat<128->ok c=true) (s:ByteArray) (w:World)
  (eg:∀ args w,(callFunc g args).run prog w=.ok (.enter g args) w) (hp:∀ (W:World) (r:Int),Mbx.Abg r->Below w.heap.size w W->Calls prog g #[.int .i32 r] W λe W'=>e=.returned (.bool (p r))/\Below W.heap.size W W') :
  Calls prog 104 #[.string s,.func (.func g) #[] #[],.bool true] w λe w'=>∃ z:Int,e=.returned (.int .i64 z)/\decide (0<=z)=!(s.data.toList.all ok)/\Below w.heap.size w w':=by
 have hsl:s.data.toList.length=s.size:=by simp
 obtain ⟨R,hR⟩:∃ R,R=s.data.toList.all ok:=⟨_,rfl⟩
 have hno:∀ k (h:k<s.size),ok s[k]=false->R=false:=λk h e=>by
  rw [hR,<- Bool.not_eq_true,jar];intro hall;have:=hall _ (List.getElem_mem (show k<s.data.toList.length by omega));rw [show s.data.toList[k]=s[k] by simp;rfl,e] at this;cases this
 have hyes:(∀ k (h:k<s.size),ok s[k]=true)->R=true:=λh=>by
  rw [hR,jar];intro c hc;obtain ⟨k,hk,rfl⟩:=List.getElem_of_mem hc;exact h k jO
 rw [<- hR];have HN:=jH hno;have HY:=jH hyes;have HP:=jH hp;have hit0:∀ pos:Nat,decide (0<=((pos:Nat):Int))=true:=λpos=>decide_eq_true jO;have HIT:=jH hit0;have HLO:=jH hlow;have HHI:=jH hhigh;have HOK:=jH hok;clear hR hno hyes hsl hp hit0 hlow hhigh hok;go_enter func104,ntmps104;go_wp2;go_loopg [] (s.size+1) (λgk wr=>∃ k:Nat,k<=s.size/\s.size - k<gk/\Hid (wr.heap[w.heap.size]? = some (.stringIter s k)/\Below w.heap.size w wr/\∀ j (h:j<s.size),j<k->ok s[j]=true))
 case atStart=>exact ⟨0,Nat.zero_le _,by omega,jH ⟨World.iter_heap w s 0,(jan _ w).alloc (jaa _) _,λj _ hj=>absurd hj (Nat.not_lt_zero _)⟩⟩
 case round =>
  obtain ⟨k,hk,hg,I⟩:=hrel;by_cases hlt:k<s.size
  ·have hnx:∀ ty,(Instr.next (.pointer (some ⟨w.heap.size,0,none⟩)) true ty).run prog wr=_:=λty=>Lib.run_next_any_at wr w.heap.size s k ty I.out.1 hlt;have hit2:=λK=>Lib.iterAt_heap wr w.heap.size s k (k+K) I.out.1;have hbw2:=λK=>Lib.below_iterAt I.out.2.1 (k:=w.heap.size) (jaa _) s (k+K);have hfacts:∃ (x n:Nat),Utf8.decode s k=(x,n)/\1<=n/\k+n<=s.size/\Mbx.Abg (x:Int)/\((p (x:Int)=true/\ok s[k]=false)\/(p (x:Int)=false/\∀ j (h:j<s.size),k<=j->j<k+n->ok s[j]=true)):=by
    by_cases ha:s[k].toNat<128
    ·have hd:=decode_ascii s k hlt ha;refine ⟨s[k].toNat,1,hd,jaa _,by omega,.inl ⟨by omega,by omega⟩,?_⟩;rw [HLO.out s[k] ha];cases ho:ok s[k]
     ·exact .inl ⟨rfl,rfl⟩
     ·refine .inr ⟨rfl,λj hj h1 h2=>?_⟩;obtain rfl:j=k:=jO
      exact ho
    ·obtain ⟨h1,h2,h3,h4,h5⟩:=Mbx.decode_high hlt ha;refine ⟨(Utf8.decode s k).1,(Utf8.decode s k).2,rfl,h2,h3,?_,.inr ⟨HHI.out _ jO,λj hj h6 h7=>?_⟩⟩
     ·unfold Mbx.Abg;omega
     ·have h8:=h4 j hj h6 h7;exact HOK.out _ jO
   obtain ⟨x,n,hxn,hn1,hkn,hch,hcs⟩:=hfacts;rw [hxn] at hnx;have hit2:=hit2 n;have hbw2:=hbw2 n;simp only at hnx;obtain ⟨W,hWd⟩:∃ W,wr.iterAt w.heap.size s (k+n)=W:=⟨_,rfl⟩
   rw [hWd] at hnx hit2 hbw2;have hltW:w.heap.size<W.heap.size:=(Array.getElem?_eq_some_iff.1 hit2).1;have KC:=HP.out W (x:Int) hch hbw2;rcases hcs with ⟨h1,h2⟩ | ⟨h1,h2⟩
   ·rw [h1] at KC;have KC:=jH KC;have E:=jH (HN.out k hlt h2);have BW:=jH hbw2;clear h1 h2 hxn hch hbw2 hit2 hWd;go_wp2_with fail;refine KC.out.mono ?_;rintro e w3 ⟨rfl,hb⟩;have B3:=jH (BW.out.trans (hb.mono BW.out.size));clear hb;go_wp2;go_ret;exact ⟨_,rfl,by rw [E.out];exact HIT.out _,B3.out⟩
   ·rw [h1] at KC;have KC:=jH KC;have I2:Hid (∀ w3,Below W.heap.size W w3->w3.heap[w.heap.size]? = some (.stringIter s (k+n))/\Below w.heap.size w w3/\∀ j (h:j<s.size),j<k+n->ok s[j]=true):=jH λw3 hb =>
     ⟨(
      hb.block _ hltW).trans hit2,hbw2.trans (hb.mono hbw2.size),λj hj h3=>by
      by_cases h4:j<k
      · exact I.out.2.2 j hj h4
      · exact h2 j hj jO h3⟩
    clear h1 h2 hxn hch hbw2 hit2 hWd;go_wp2_with fail;refine KC.out.mono ?_;rintro e w3 ⟨rfl,hb⟩;have I3:=jH (I2.out w3 hb);clear hb I2;go_wp2;go_roundg (s.size - k)
    case measure=>omega
    case rel=>exact ⟨k+n,by omega,by omega,I3⟩
  ·obtain rfl:k=s.size:=jO
   have hnx:∀ ty,(Instr.next (.pointer (some ⟨w.heap.size,0,none⟩)) true ty).run prog wr=_:=λty=>Lib.run_next_end_at wr w.heap.size s s.size ty I.out.1 hlt;have E:=jH (HY.out λj hj=>I.out.2.2 j hj hj);go_wp2;go_ret;exact ⟨_,rfl,by rw [E.out];rfl,I.out.2.1⟩
theorem Ah6 (r:Int) (w:World) (h:Mbx.Abg r):Calls prog 138 #[.string ⟨#[91,92,93]⟩,.int .i32 r] w λe w'=>∃ z:Int,e=.returned (.int .i64 z)/\decide (0<=z)=(decide (91<=r) && decide (r<=93))/\Below w.heap.size w w':=by
 unfold Mbx.Abg at h;by_cases h1:r<128
 ·exact (Ah8 r w jO h1).mono λe w' ⟨z,e1,e2,e3⟩=>⟨z,e1,e2,e3 ▸ jan _ _⟩
 ·have e2:(decide (91<=r) && decide (r<=93))=false:=by rw [decide_eq_false (show ¬ r<=93 by omega),Bool.and_false]
  rw [e2];by_cases h3:r=65533
  ·subst h3;exact (Ah7 w).mono λe w' ⟨e1,hb⟩=>⟨-1,e1,rfl,hb⟩
  ·exact (Aev r w jO h3 jO).mono λe w' ⟨e1,hb⟩=>⟨-1,e1,rfl,hb⟩
theorem Au5 (r:Int) (w:World) (h:Mbx.Abg r):Calls prog 75 #[.int .i32 r] w λe w'=>e=.returned (.bool (Mbx.Aky r))/\Below w.heap.size w w':=by
 have K:=jH (Rl r w);have KL:=jH (Ah6 r w h);unfold Mbx.Aky;generalize Mbx.Nj r=p at K ⊢;generalize (decide (91<=r) && decide (r<=93))=q at KL ⊢;cases p
 ·go_enter func75,ntmps75;go_wp2_with fail;refine K.out.mono ?_;rintro e w1 ⟨rfl,rfl⟩;go_wp2;go_ret;exact ⟨by cases q<;>rfl,jan _ _⟩
 ·cases q
  all_goals
   go_enter func75,ntmps75;go_wp2_with fail;refine K.out.mono ?_;rintro e w1 ⟨rfl,rfl⟩;go_wp2_with (go_at_call 111;go_in);refine KL.out.mono ?_;rintro e w2 ⟨z,rfl,hz,hb⟩;have HB:=jH hb;clear hb;go_wp2;go_ret;exact ⟨rfl,HB.out⟩
theorem Aag (s:ByteArray) (w:World) (_hs:s.size<=100000):Calls prog 45 #[.string s,.func (.func 48) #[] #[]] w λe w'=>e=.returned (.bool (!(s.data.toList.all Lex.Ao)))/\Below w.heap.size w w':=by
 have hbar:∀ c:UInt8,Mbx.Akz (c.toNat:Int)=!Lex.Ao c:=λc=>by
  have:=Mbx.Abc c.toNat (C5 c);rw [jag,beq_iff_eq] at this;exact this.1
 have K:=jH (Ji 48 Lex.Ao Mbx.Akz (λc _=>hbar c) (λr h=>Mbx.Abb h) (λc h=>by have:=hbar c;rw [Mbx.Abb (show (128:Int)<=(c.toNat:Int) by omega)] at this;simpa using this.symm) s w
  (enters_of func48 jK rfl) (λW r _ _=>(Au6 r W).mono λe w' ⟨h1,h2⟩=>⟨h1,h2 ▸ jan _ _⟩))
 generalize s.data.toList.all Lex.Ao=p at K ⊢;cases p
 all_goals
  go_enter func45,ntmps45;go_wp2_with (go_at_call 70;go_in);refine K.out.mono ?_;rintro e w3 ⟨z,rfl,hz,hb⟩;have HB:=jH hb;clear hb;go_wp2;go_ret;exact ⟨rfl,HB.out⟩
theorem Aaf (s:ByteArray) (w:World) (_hs:s.size<=100000):Calls prog 45 #[.string s,.func (.func 75) #[] #[]] w λe w'=>e=.returned (.bool (!(s.data.toList.all Mbx.M8)))/\Below w.heap.size w w':=by
 have hbar:∀ c:UInt8,Mbx.Aky (c.toNat:Int)=!Mbx.M8 c:=λc=>by
  have:=Mbx.Abc c.toNat (C5 c);rw [jag,beq_iff_eq,beq_iff_eq] at this;exact this.2
 have K:=jH (Ji 75 Mbx.M8 Mbx.Aky (λc _=>hbar c) (λr h=>Mbx.Aba h) (λc h=>by have:=hbar c;rw [Mbx.Aba (show (128:Int)<=(c.toNat:Int) by omega)] at this;simpa using this.symm) s w
  (enters_of func75 jK rfl) (λW r h _=>Au5 r W h))
 generalize s.data.toList.all Mbx.M8=p at K ⊢;cases p
 all_goals
  go_enter func45,ntmps45;go_wp2_with (go_at_call 70;go_in);refine K.out.mono ?_;rintro e w3 ⟨z,rfl,hz,hb⟩;have HB:=jH hb;clear hb;go_wp2;go_ret;exact ⟨rfl,HB.out⟩
