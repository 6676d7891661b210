import Derived.Test.YtipkfalbepiphaaGreatDoorCmdMid
set_option maxRecDepth 100000
set_option maxHeartbeats 8000000
namespace Go.Proofs.YtipkfalbepiphaaGreatDoor
open Tryz
section
open Go.RowKit Utf
theorem params17 (v:Int) (nm:ByteArray) (k:Bool) (x y:ByteArray) (z:Int) (e d:Bool) (w:World) (hC:Ha w) (hz:-9223372036854775808<=z/\z<=9223372036854775807) :
  Calls prog 21 #[.agg #[.int .i64 v,.string nm,.bool k,.string x,.string y,.int .i64 z,.bool e,.bool d]] w λr w'=>r=.returned (.string ⟨(Cmd.extras ⟨v,nm.data.toList,k,x.data.toList,y.data.toList,z,e,d⟩).toArray⟩)/\Below w.heap.size w w':=by
 obtain ⟨C,hCc⟩:∃ C,C=(⟨v,nm.data.toList,k,x.data.toList,y.data.toList,z,e,d⟩:Cmd.Com):=⟨_,rfl⟩
 have hlen:=Cmd.Azi hz.1 hz.2;have KU:∀ S:ByteArray,S.data.toList=Cmd.N7 C->∀ W,Calls prog 33 #[.string S] W λr w'=>r=.returned (.string ⟨(Cmd.extras C).toArray⟩)/\Below W.heap.size W w':=λS hS W=>by
  rw [<- Cmd.A0r,<- hS];refine A4w S W ?_ (by rw [hS];exact Cmd.Auy C);have h1:S.data.toList.length=S.size:=by simp
  rw [<- h1,hS,hCc];unfold Cmd.N7;simp only;have h2:(if z=-1 then ([]:List UInt8) else [32,115,105,122,101,61] ++ Lib.itoa z).length<=28:=by
   split
   · simp
   · rw [jab];simp only [jac,List.length_nil];omega
  rw [jab,jab];have h3:(if e=true then (32::Cmd.Vt:List UInt8) else []).length<=14:=by split<;>simp [Cmd.Vt]
  have h4:(if d=true then (32::Cmd.Kn:List UInt8) else []).length<=9:=by split<;>simp [Cmd.Kn]
  omega
 rw [<- hCc];have B0:=Ab w (.cells #[.int .i64 v,.string nm,.bool k,.string x,.string y,.int .i64 z,.bool e,.bool d] 27);have KI:=jH (A56 z (w.alloc (.cells #[.int .i64 v,.string nm,.bool k,.string x,.string y,.int .i64 z,.bool e,.bool d] 27)) (hC.Ac B0).tabs hz.1 hz.2);obtain ⟨T,hT⟩:∃ T:ByteArray,T=⟨(Lib.itoa z).toArray⟩:=⟨_,rfl⟩
 rw [<- hT] at KI;have hTl:T.data.toList=Lib.itoa z:=by rw [hT]
 have hTs:T.size<=22:=by
  have h1:T.data.toList.length=T.size:=by simp
  rw [<- h1,hTl];exact hlen
 have CA:=jH (Ai.new w v nm k x y z e d);have BB:=jH B0;by_cases h1:z=-1
 ·subst h1;have HC:=jH hCc;replace KU:=jH KU;clear hlen hT hTl hTs hCc B0 hC hz KI;cases e<;>cases d
  all_goals
   go_enter func21,ntmps21;go_wp2_with fail;refine (KU.out _ (by rw [HC.out];rfl) _).mono ?_;rintro r w1 ⟨rfl,hb⟩;replace BB:=jH (Aa BB.out hb);clear hb;go_wp2;go_ret;exact ⟨rfl,BB.out⟩
 ·have h1':(z != -1)=true:=by simpa using h1
  obtain ⟨A1,hA1⟩:∃ S:ByteArray,S=(⟨#[32,115,105,122,101,61]⟩:ByteArray) ++ T:=⟨_,rfl⟩
  obtain ⟨A2,hA2⟩:∃ S:ByteArray,S=A1 ++ (⟨#[32,98,111,100,121,61,56,98,105,116,109,105,109,101]⟩:ByteArray):=⟨_,rfl⟩
  obtain ⟨A3,hA3⟩:∃ S:ByteArray,S=A1 ++ (⟨#[32,115,109,116,112,117,116,102,56]⟩:ByteArray):=⟨_,rfl⟩
  obtain ⟨A4,hA4⟩:∃ S:ByteArray,S=A2 ++ (⟨#[32,115,109,116,112,117,116,102,56]⟩:ByteArray):=⟨_,rfl⟩
  have s1:A1.size=6+T.size:=by rw [hA1,ByteArray.size_append];rfl
  have s2:A2.size=A1.size+14:=by rw [hA2,ByteArray.size_append];rfl
  have a0:∀ W,(Op.stringOp .add ⟨#[32,115,105,122,101,61]⟩ T).run prog W=.ok (.string A1) W:=λW=>by rw [hA1];exact run_string_add_sum W _ _ (by show 6+T.size<=_;omega)
  have a1:∀ W,(Op.stringOp .add ⟨#[]⟩ A1).run prog W=.ok (.string A1) W:=λW=>by
   have h:=run_string_add_sum (P:=prog) W ⟨#[]⟩ A1 (by show 0+A1.size<=_;omega);rwa [show (⟨#[]⟩:ByteArray) ++ A1=A1 from ByteArray.ext (by simp [ByteArray.data_append])] at h
  have a2:∀ W,(Op.stringOp .add A1 ⟨#[32,98,111,100,121,61,56,98,105,116,109,105,109,101]⟩).run prog W=.ok (.string A2) W:=λW=>by rw [hA2];exact run_string_add_sum W _ _ (by show A1.size+14<=_;omega)
  have a3:∀ W,(Op.stringOp .add A1 ⟨#[32,115,109,116,112,117,116,102,56]⟩).run prog W=.ok (.string A3) W:=λW=>by rw [hA3];exact run_string_add_sum W _ _ (by show A1.size+9<=_;omega)
  have a4:∀ W,(Op.stringOp .add A2 ⟨#[32,115,109,116,112,117,116,102,56]⟩).run prog W=.ok (.string A4) W:=λW=>by rw [hA4];exact run_string_add_sum W _ _ (by show A2.size+9<=_;omega)
  have HF:=jH (show ((if e then (if d then A4 else A2) else (if d then A3 else A1)):ByteArray).data.toList=Cmd.N7 C by
   rw [hCc];unfold Cmd.N7;simp only;rw [if_neg h1,<- hTl];cases e<;>cases d<;>simp [hA4,hA3,hA2,hA1,ByteArray.data_append,Cmd.Vt,Cmd.Kn])
  replace KU:=jH KU;clear hlen hT hTl hTs hCc B0 hC hz h1 hA1 hA2 hA3 hA4 s1 s2;cases e<;>cases d
  all_goals
   go_enter func21,ntmps21;go_wp2_with fail;refine KI.out.mono ?_;rintro r w1 ⟨rfl,hb⟩;replace BB:=jH (Aa BB.out hb);obtain ⟨c0,c1,c2,c3,c4,c5,c6,c7⟩:=(CA.out.Ac hb).all;clear hb;go_wp2_with fail;refine (KU.out _ HF.out _).mono ?_;rintro r w2 ⟨rfl,hb⟩;replace BB:=jH (Aa BB.out hb);clear hb c0 c1 c2 c3 c4 c5 c6 c7;go_wp2;go_ret;exact ⟨rfl,BB.out⟩
theorem A4b (v:Int) (nm:ByteArray) (k:Bool) (x y:ByteArray) (z:Int) (e d:Bool) (w:World) (hC:Ha w) (hn:nm.size<=1000) (hx:x.size<=1000) (hy:y.size<=1000) (hz:-9223372036854775808<=z/\z<=9223372036854775807) :
  Calls prog 9 #[.agg #[.int .i64 v,.string nm,.bool k,.string x,.string y,.int .i64 z,.bool e,.bool d]] w λr w'=>r=.returned (.string ⟨(Cmd.print ⟨v,nm.data.toList,k,x.data.toList,y.data.toList,z,e,d⟩).toArray⟩)/\Below w.heap.size w w':=by
 obtain ⟨R,hR⟩:∃ R:ByteArray,R=⟨(Cmd.print ⟨v,nm.data.toList,k,x.data.toList,y.data.toList,z,e,d⟩).toArray⟩:=⟨_,rfl⟩
 rw [<- hR];have hRl:R.data.toList=Cmd.print ⟨v,nm.data.toList,k,x.data.toList,y.data.toList,z,e,d⟩:=by rw [hR]
 obtain ⟨W0,hW0⟩:∃ W0,W0=w.alloc (.cells #[.int .i64 v,.string nm,.bool k,.string x,.string y,.int .i64 z,.bool e,.bool d] 27):=⟨_,rfl⟩
 have C0:=Ai.new w v nm k x y z e d;have B0:=Ab w (.cells #[.int .i64 v,.string nm,.bool k,.string x,.string y,.int .i64 z,.bool e,.bool d] 27);rw [<- hW0] at C0 B0;obtain ⟨B,hB⟩:∃ B,w.heap.size=B:=⟨_,rfl⟩
 rw [hB] at C0;have HW0:=jH hW0.symm;obtain ⟨T,hT⟩:∃ T:ByteArray,T=⟨(Cmd.word v).toArray⟩:=⟨_,rfl⟩
 obtain ⟨P,hP⟩:∃ P:ByteArray,P=⟨(Pth.A9 k x.data.toList y.data.toList).toArray⟩:=⟨_,rfl⟩
 obtain ⟨Q,hQ⟩:∃ Q:ByteArray,Q=⟨(Cmd.extras ⟨v,nm.data.toList,k,x.data.toList,y.data.toList,z,e,d⟩).toArray⟩:=⟨_,rfl⟩
 have hTs:T.size<=4:=by
  rw [hT];show (Cmd.word v).toArray.size<=_;rw [List.size_toArray];exact Cmd.Axb v
 have hPs:P.size<=10000:=by
  rw [hP];show (Pth.A9 k x.data.toList y.data.toList).toArray.size<=_;rw [List.size_toArray];have h1:=Cmd.Zx k x.data.toList y.data.toList;have h2:x.data.toList.length=x.size:=by simp
  have h3:y.data.toList.length=y.size:=by simp
  omega
 have hQs:Q.size<=100:=by
  rw [hQ];show (Cmd.extras _).toArray.size<=_;rw [List.size_toArray];exact Cmd.Anr _ hz.1 hz.2
 have KW:=Aqi v W0 (hC.Ac B0);have KP:=λW=>Agl k x y W jO jO rfl;have KQ:=λW (h:Below w.heap.size w W)=>params17 v nm k x y z e d W (hC.Ac h) hz;rw [<- hT] at KW;simp only [<- hP] at KP;simp only [<- hQ] at KQ;have hTl:T.data.toList=Cmd.word v:=by rw [hT]
 have hPl:P.data.toList=Pth.A9 k x.data.toList y.data.toList:=by rw [hP]
 have hQl:Q.data.toList=Cmd.extras ⟨v,nm.data.toList,k,x.data.toList,y.data.toList,z,e,d⟩:=by rw [hQ]
 have KW:=jH KW;have KP:=jH KP;have KQ:=jH KQ;have CA:=jH C0;have BB:=jH B0;have HL:=jH (And.intro hTl (And.intro hPl (And.intro hQl hRl)));clear hT hP hQ hR hC hz hx hy C0 B0 hW0 hTl hPl hQl hRl;by_cases h01:v=0\/v=1
 ·have hh:Cmd.Iv v=true:=by unfold Cmd.Iv;simpa using h01
  have HR:=jH (show R=T ++ ((⟨#[32]⟩:ByteArray) ++ nm) from ByteArray.ext (Array.toList_inj.1 (by
   rw [HL.out.2.2.2];unfold Cmd.print;simp only;rw [if_pos hh,<- HL.out.1];simp [ByteArray.data_append])))
  obtain ⟨A1,hA1⟩:∃ S:ByteArray,S=(⟨#[32]⟩:ByteArray) ++ nm:=⟨_,rfl⟩
  have s1:A1.size=1+nm.size:=by rw [hA1,ByteArray.size_append];rfl
  have a0:∀ W,(Op.stringOp .add ⟨#[32]⟩ nm).run prog W=.ok (.string A1) W:=λW=>by rw [hA1];exact run_string_add_sum W _ _ (by show 1+nm.size<=_;omega)
  have a1:∀ W,(Op.stringOp .add T A1).run prog W=.ok (.string R) W:=λW=>by rw [HR.out,<- hA1];exact run_string_add_sum W _ _ jO
  clear hh HL KP KQ hA1 s1 hn;have h02:v=0\/(v ≠ 0/\v=1):=jO
  clear h01;rcases h02 with rfl | ⟨hv0,rfl⟩
  all_goals
   go_enter func9,ntmps9;go_wp2_with fail;rw [HW0.out];refine KW.out.mono ?_;rintro r w1 ⟨rfl,rfl⟩;obtain ⟨c0,c1,c2,c3,c4,c5,c6,c7⟩:=CA.out.all;go_wp2;go_ret;exact ⟨rfl,BB.out⟩
 have hh:Cmd.Iv v=false:=by unfold Cmd.Iv;simpa using h01
 have h0:v ≠ 0:=λh=>h01 (.inl h);have h1:v ≠ 1:=λh=>h01 (.inr h);by_cases h2:v=2
 ·subst h2;obtain ⟨S1,hS1⟩:∃ S:ByteArray,S=(⟨#[32,70,82,79,77,58]⟩:ByteArray) ++ P:=⟨_,rfl⟩
  obtain ⟨S2,hS2⟩:∃ S:ByteArray,S=S1 ++ Q:=⟨_,rfl⟩
  have HR:=jH (show R=T ++ S2 from ByteArray.ext (Array.toList_inj.1 (by
   rw [HL.out.2.2.2,hS2,hS1];unfold Cmd.print;simp only;rw [if_neg (by simp [Cmd.Iv]),if_pos trivial,<- HL.out.1,<- HL.out.2.1,<- HL.out.2.2.1];simp [ByteArray.data_append,Cmd.Nq])))
  have s1:S1.size=6+P.size:=by rw [hS1,ByteArray.size_append];rfl
  have s2:S2.size=S1.size+Q.size:=by rw [hS2,ByteArray.size_append]
  have a1:∀ W,(Op.stringOp .add ⟨#[32,70,82,79,77,58]⟩ P).run prog W=.ok (.string S1) W:=λW=>by rw [hS1];exact run_string_add_sum W _ _ (by show 6+P.size<=_;omega)
  have a2:∀ W,(Op.stringOp .add S1 Q).run prog W=.ok (.string S2) W:=λW=>by rw [hS2];exact run_string_add_sum W _ _ jO
  have a3:∀ W,(Op.stringOp .add T S2).run prog W=.ok (.string R) W:=λW=>by rw [HR.out];exact run_string_add_sum W _ _ jO
  clear h01 hh HL hS1 hS2 s1 s2 hn hTs hPs hQs h0 h1;go_enter func9,ntmps9;go_wp2_with fail;rw [HW0.out];refine KW.out.mono ?_;rintro r w1 ⟨rfl,rfl⟩;obtain ⟨c0,c1,c2,c3,c4,c5,c6,c7⟩:=CA.out.all;go_upto_region 7 with (fail)
  go_region_held3 (λw'=>w'.cell? ⟨B,0,none⟩=some (.int .i64 2)/\w'.cell? ⟨B,1,none⟩=some (.string nm)/\w'.cell? ⟨B,2,none⟩=some (.bool k)/\w'.cell? ⟨B,3,none⟩=some (.string x)/\w'.cell? ⟨B,4,none⟩=some (.string y)/\w'.cell? ⟨B,5,none⟩=some (.int .i64 z)/\w'.cell? ⟨B,6,none⟩=some (.bool e)/\w'.cell? ⟨B,7,none⟩=some (.bool d)) (go_keep) (first
   | (go_at_call 20;(with_reducible refine (KP.out _).mono ?_);rintro r w5 ⟨rfl,hb5⟩;have hB5:=Ag hb5;have CA5:=jH (CA.out.Ac hB5);have BB5:=jH (Aa BB.out hB5);obtain ⟨d0,d1,d2,d3,d4,d5,d6,d7⟩:=CA5.out.all;clear hb5 hB5)
   | (go_at_call 21;(with_reducible refine (KQ.out _ BB5.out).mono ?_);rintro r w6 ⟨rfl,hb6⟩;have CA6:=jH (CA5.out.Ac hb6);have BB6:=jH (Aa BB5.out hb6);obtain ⟨m0,m1,m2,m3,m4,m5,m6,m7⟩:=CA6.out.all;clear hb6))
  go_wp2;go_ret;exact ⟨rfl,BB6.out⟩
 by_cases h3:v=3
 ·subst h3;obtain ⟨S1,hS1⟩:∃ S:ByteArray,S=(⟨#[32,84,79,58]⟩:ByteArray) ++ P:=⟨_,rfl⟩
  have HR:=jH (show R=T ++ S1 from ByteArray.ext (Array.toList_inj.1 (by
   rw [HL.out.2.2.2,hS1];unfold Cmd.print;simp only;rw [if_neg (by simp [Cmd.Iv]),if_neg jD,if_pos trivial,<- HL.out.1,<- HL.out.2.1];simp [ByteArray.data_append,Cmd.toT])))
  have s1:S1.size=4+P.size:=by rw [hS1,ByteArray.size_append];rfl
  have a1:∀ W,(Op.stringOp .add ⟨#[32,84,79,58]⟩ P).run prog W=.ok (.string S1) W:=λW=>by rw [hS1];exact run_string_add_sum W _ _ (by show 4+P.size<=_;omega)
  have a2:∀ W,(Op.stringOp .add T S1).run prog W=.ok (.string R) W:=λW=>by rw [HR.out];exact run_string_add_sum W _ _ jO
  clear h01 hh HL hS1 s1 hn hTs hPs hQs h0 h1 h2 KQ;go_enter func9,ntmps9;go_wp2_with fail;rw [HW0.out];refine KW.out.mono ?_;rintro r w1 ⟨rfl,rfl⟩;obtain ⟨c0,c1,c2,c3,c4,c5,c6,c7⟩:=CA.out.all;go_wp2_with fail;refine (KP.out _).mono ?_;rintro r w2 ⟨rfl,hb⟩;replace BB:=jH (Aa BB.out hb);clear hb c0 c1 c2 c3 c4 c5 c6 c7;go_wp2;go_ret;exact ⟨rfl,BB.out⟩
 ·have HR:=jH (show R=T from ByteArray.ext (Array.toList_inj.1 (by
   rw [HL.out.2.2.2];unfold Cmd.print;simp only;rw [if_neg (by simp [hh]),if_neg h2,if_neg h3,<- HL.out.1])))
  clear h01 hh HL hn hTs hPs hQs KQ KP;go_enter func9,ntmps9;go_wp2_with fail;rw [HW0.out];refine KW.out.mono ?_;rintro r w1 ⟨rfl,rfl⟩;obtain ⟨c0,c1,c2,c3,c4,c5,c6,c7⟩:=CA.out.all;go_wp2;go_ret;exact ⟨by rw [HR.out];rfl,BB.out⟩
end
section
open Go.RowKit Utf
structure Vn (w:World) (B b0 b1 b2 b3:Nat) (W:World):Prop where
 box:TAt B b0 b1 b2 b3 W
 ans:Ai (B+1) 0 ⟨#[]⟩ false ⟨#[]⟩ ⟨#[]⟩ 0 false false W
 below:Below w.heap.size w W
theorem Vn.Ac {w:World} {B b0 b1 b2 b3:Nat} {W W':World} (h:Vn w B b0 b1 b2 b3 W) (hb:Below W.heap.size W W'):Vn w B b0 b1 b2 b3 W':=⟨h.box.Ac hb,h.ans.Ac hb,Aa h.below hb⟩
theorem Vn.only {w:World} {B b0 b1 b2 b3 C:Nat} {W W':World} (h:Vn w B b0 b1 b2 b3 W) (ho:Az C W W') (hC:B+1<C) (hB:w.heap.size=B):Vn w B b0 b1 b2 b3 W' :=
 ⟨⟨(ho.block B h.box.lt jO).trans h.box.blk⟩,⟨(ho.block (B+1) h.ans.lt jO).trans h.ans.blk⟩,h.below.trans (ho.below h.below.size jO)⟩
theorem A0s (t:Value) (s:ByteArray) (w:World) (hT:D3 w t) (hs:s.size<=510) (n:Nat) (S:ByteArray) (hw:Cmd.Abi s.data.toList=.tuple #[.int .i64 (n:Int),.string S,.bool true]) (g:Nat) (r:Int × Cmd.Com)
  (hix:∀ W,(Instr.index 59 (.agg #[.func (.func 38) #[] #[],.func (.func 38) #[] #[],.func (.func 39) #[] #[],.func (.func 40) #[] #[],.func (.func 41) #[] #[],.func (.func 41) #[] #[],.func (.func 42) #[] #[],.func (.func 41) #[] #[]]) (.int .i64 (n:Int))).run prog W=.ok (.func (.func g) #[] #[]) W)
  (hg:∀ (C:Nat) (W:World),Table W t->CI C { Cmd.zero with verb:=n } W->Calls prog g #[t,.pointer (some ⟨C,0,none⟩),.string S] W (G9 C r W))
  (eg:∀ args w,(callFunc g args).run prog w=.ok (.enter g args) w) :
  Calls prog 12 #[t,.string s] w λe w'=>e=.returned (if r.1=0 then .tuple #[.agg #[.int .i64 r.2.verb,.string ⟨r.2.name.toArray⟩,.bool r.2.null,.string ⟨r.2.loc.toArray⟩,.string ⟨r.2.dom.toArray⟩,.int .i64 r.2.size,.bool r.2.eight,.bool r.2.wide],.int .i64 0] else .tuple #[.agg #[.int .i64 0,.string ⟨#[]⟩,.bool false,.string ⟨#[]⟩,.string ⟨#[]⟩,.int .i64 (-1),.bool false,.bool false],.int .i64 r.1])/\Below w.heap.size w w':=by
 obtain ⟨V,hV⟩:∃ V:Value,V=(if r.1=0 then .tuple #[.agg #[.int .i64 r.2.verb,.string ⟨r.2.name.toArray⟩,.bool r.2.null,.string ⟨r.2.loc.toArray⟩,.string ⟨r.2.dom.toArray⟩,.int .i64 r.2.size,.bool r.2.eight,.bool r.2.wide],.int .i64 0] else .tuple #[.agg #[.int .i64 0,.string ⟨#[]⟩,.bool false,.string ⟨#[]⟩,.string ⟨#[]⟩,.int .i64 (-1),.bool false,.bool false],.int .i64 r.1]):=⟨_,rfl⟩
 rw [<- hV];have HV:=jH hV;clear hV;have hT0:=hT.1;obtain ⟨b0,b1,b2,b3,rfl,-,-,-,-⟩:=hT0;obtain ⟨B,hB⟩:∃ B,w.heap.size=B:=⟨_,rfl⟩
 obtain ⟨W0,hW0⟩:∃ W0,W0=(w.alloc (.cells #[.slice (some ⟨b0,0,none⟩) 74 74,.slice (some ⟨b1,0,none⟩) 10 10,.slice (some ⟨b2,0,none⟩) 11 11,.slice (some ⟨b3,0,none⟩) 42 42] 35)).alloc (.cells #[.int .i64 0,.string ⟨#[]⟩,.bool false,.string ⟨#[]⟩,.string ⟨#[]⟩,.int .i64 0,.bool false,.bool false] 27):=⟨_,rfl⟩
 obtain ⟨T0,A0,B0⟩:=Afj hB b0 b1 b2 b3 0 ⟨#[]⟩ false ⟨#[]⟩ ⟨#[]⟩ 0 false false hW0;have HW0:=jH hW0.symm;have K:=jH (show Vn w B b0 b1 b2 b3 W0 from ⟨T0,A0,B0⟩);have KW:=Acq s W0 (hT.2.Ac B0);rw [hw] at KW;have KW:=jH KW;have KN:=jH (λW=>A0e W);have KR:=jH (λW=>Avn W);have hsz:¬ (510:Int)<(s.size:Int):=jO
 have HG:=jH (λC W (h:Below w.heap.size w W) hc=>hg C W (hT.1.below h) hc);clear hT hs hw T0 A0 B0 hW0 hg;go_enter func12,ntmps12;go_wp2_with fail;rw [HW0.out];refine KW.out.mono ?_;rintro e w1 ⟨rfl,hb⟩;replace K:=jH (K.out.Ac hb);clear hb;go_wp2_with fail;refine (KN.out _).mono ?_;rintro e w2 ⟨rfl,hb⟩;replace K:=jH (K.out.Ac hb);clear hb;obtain ⟨C,hC⟩:∃ C,w2.heap.size=C:=⟨_,rfl⟩
 have hBC:B+1<C:=by have:=K.out.ans.lt;omega
 obtain ⟨W3,hW3⟩:∃ W3,W3=w2.alloc (.cells #[.int .i64 (n:Int),.string ⟨#[]⟩,.bool false,.string ⟨#[]⟩,.string ⟨#[]⟩,.int .i64 (-1),.bool false,.bool false] 27):=⟨_,rfl⟩
 have C3:CI C { Cmd.zero with verb:=n } W3:=by rw [hW3,<- hC];exact Ai.new w2 n ⟨#[]⟩ false ⟨#[]⟩ ⟨#[]⟩ (-1) false false
 have hb3:=Ab w2 (.cells #[.int .i64 (n:Int),.string ⟨#[]⟩,.bool false,.string ⟨#[]⟩,.string ⟨#[]⟩,.int .i64 (-1),.bool false,.bool false] 27);rw [<- hW3] at hb3;replace K:=jH (K.out.Ac hb3);have CC:=jH C3;have HW3:=jH hW3.symm;clear hW3 hb3 C3;obtain ⟨t0,t1,t2,t3⟩:=K.out.box.all;go_upto_region 6 with (fail)
 rw [HW3.out];go_region_held3 (λw'=>w'.cell? ⟨B,0,none⟩=some (.slice (some ⟨b0,0,none⟩) 74 74)/\w'.cell? ⟨B,1,none⟩=some (.slice (some ⟨b1,0,none⟩) 10 10)/\w'.cell? ⟨B,2,none⟩=some (.slice (some ⟨b2,0,none⟩) 11 11)/\w'.cell? ⟨B,3,none⟩=some (.slice (some ⟨b3,0,none⟩) 42 42)) (go_keep) (first
  | (go_at_call 27;(with_reducible refine (KR.out _).mono ?_);rintro e w5 ⟨rfl,hb5⟩;have hB5:=Ag hb5;have K5:=jH (K.out.Ac hB5);have CC5:=jH (show CI C { Cmd.zero with verb:=n } w5 from Ai.Ac CC.out hB5);obtain ⟨d0,d1,d2,d3⟩:=K5.out.box.all;clear hb5 hB5)
  | ((with_reducible refine (HG.out C _ K5.out.below CC5.out).mono ?_);rintro e w6 ⟨rfl,ho6,hc6⟩;have K6:=jH (K5.out.only ho6 hBC hB);have CC6:=jH hc6;obtain ⟨m0,m1,m2,m3⟩:=K6.out.box.all;clear ho6 hc6))
 by_cases hr:r.1=0
 case neg =>
  have hrz:(r.1 != 0)=true:=by simpa using hr
  have HR:=jH (show V=.tuple #[.agg #[.int .i64 0,.string ⟨#[]⟩,.bool false,.string ⟨#[]⟩,.string ⟨#[]⟩,.int .i64 (-1),.bool false,.bool false],.int .i64 r.1] by rw [HV.out,if_neg hr]);clear hr CC5 CC6 m0 m1 m2 m3 HG KR;go_wp2_with fail;refine (KN.out _).mono ?_;rintro e w7 ⟨rfl,hb⟩;have K7:=jH (K6.out.Ac hb);clear hb;have hp:=Ai.put K7.out.ans 0 ⟨#[]⟩ false ⟨#[]⟩ ⟨#[]⟩ (-1) false false;have hq:=Hg K7.out.below (C:=B+1) jO (.int .i64 0) (.string ⟨#[]⟩) (.bool false) (.string ⟨#[]⟩) (.string ⟨#[]⟩) (.int .i64 (-1)) (.bool false) (.bool false);obtain ⟨W8,hW⟩:∃ W,((((((((w7.setCell ⟨B+1,0,none⟩ (.int .i64 0)).setCell ⟨B+1,1,none⟩ (.string ⟨#[]⟩)).setCell ⟨B+1,2,none⟩ (.bool false)).setCell ⟨B+1,3,none⟩ (.string ⟨#[]⟩)).setCell ⟨B+1,4,none⟩ (.string ⟨#[]⟩)).setCell ⟨B+1,5,none⟩ (.int .i64 (-1))).setCell ⟨B+1,6,none⟩ (.bool false)).setCell ⟨B+1,7,none⟩ (.bool false))=W:=⟨_,rfl⟩
  rw [hW] at hp hq;obtain ⟨a0,a1,a2,a3,a4,a5,a6,a7⟩:=K7.out.ans.all;have f0:=K7.out.ans.fr 0;have f1:=K7.out.ans.fr 1;have f2:=K7.out.ans.fr 2;have f3:=K7.out.ans.fr 3;have f4:=K7.out.ans.fr 4;have f5:=K7.out.ans.fr 5;have f6:=K7.out.ans.fr 6;have f7:=K7.out.ans.fr 7;obtain ⟨z0,z1,z2,z3,z4,z5,z6,z7⟩:=hp.all;have HQ:=jH hq;have HW:=jH hW;clear hp hq hW;go_wp2;rw [HW.out];exact bodyPost_ret (v:=.tuple #[.agg #[.int .i64 0,.string ⟨#[]⟩,.bool false,.string ⟨#[]⟩,.string ⟨#[]⟩,.int .i64 (-1),.bool false,.bool false],.int .i64 r.1]) (by simp [results,results12,go_sem,z0,z1,z2,z3,z4,z5,z6,z7]) rfl ⟨by rw [HR.out],HQ.out⟩
 have HR:=jH (show V=.tuple #[.agg #[.int .i64 r.2.verb,.string ⟨r.2.name.toArray⟩,.bool r.2.null,.string ⟨r.2.loc.toArray⟩,.string ⟨r.2.dom.toArray⟩,.int .i64 r.2.size,.bool r.2.eight,.bool r.2.wide],.int .i64 0] by rw [HV.out,if_pos hr]);have hrz:(r.1 != 0)=false:=by simpa using hr
 have C6:=jH (CC6.out hr);obtain ⟨c0,c1,c2,c3,c4,c5,c6,c7⟩:=Ai.all C6.out;clear hr CC5 CC6 m0 m1 m2 m3 HG KR KN;have hp:=Ai.put K6.out.ans r.2.verb ⟨r.2.name.toArray⟩ r.2.null ⟨r.2.loc.toArray⟩ ⟨r.2.dom.toArray⟩ r.2.size r.2.eight r.2.wide;have hq:=Hg K6.out.below (C:=B+1) jO (.int .i64 r.2.verb) (.string ⟨r.2.name.toArray⟩) (.bool r.2.null) (.string ⟨r.2.loc.toArray⟩) (.string ⟨r.2.dom.toArray⟩) (.int .i64 r.2.size) (.bool r.2.eight) (.bool r.2.wide);obtain ⟨W8,hW⟩:∃ W,((((((((w6.setCell ⟨B+1,0,none⟩ (.int .i64 r.2.verb)).setCell ⟨B+1,1,none⟩ (.string ⟨r.2.name.toArray⟩)).setCell ⟨B+1,2,none⟩ (.bool r.2.null)).setCell ⟨B+1,3,none⟩ (.string ⟨r.2.loc.toArray⟩)).setCell ⟨B+1,4,none⟩ (.string ⟨r.2.dom.toArray⟩)).setCell ⟨B+1,5,none⟩ (.int .i64 r.2.size)).setCell ⟨B+1,6,none⟩ (.bool r.2.eight)).setCell ⟨B+1,7,none⟩ (.bool r.2.wide))=W:=⟨_,rfl⟩
 rw [hW] at hp hq;obtain ⟨a0,a1,a2,a3,a4,a5,a6,a7⟩:=K6.out.ans.all;have f0:=K6.out.ans.fr 0;have f1:=K6.out.ans.fr 1;have f2:=K6.out.ans.fr 2;have f3:=K6.out.ans.fr 3;have f4:=K6.out.ans.fr 4;have f5:=K6.out.ans.fr 5;have f6:=K6.out.ans.fr 6;have f7:=K6.out.ans.fr 7;obtain ⟨z0,z1,z2,z3,z4,z5,z6,z7⟩:=hp.all;have HQ:=jH hq;have HW:=jH hW;clear hp hq hW;go_wp2;rw [HW.out];exact bodyPost_ret (v:=.tuple #[.agg #[.int .i64 r.2.verb,.string ⟨r.2.name.toArray⟩,.bool r.2.null,.string ⟨r.2.loc.toArray⟩,.string ⟨r.2.dom.toArray⟩,.int .i64 r.2.size,.bool r.2.eight,.bool r.2.wide],.int .i64 0]) (by simp [results,results12,go_sem,z0,z1,z2,z3,z4,z5,z6,z7]) rfl ⟨by rw [HR.out],HQ.out⟩
theorem Aks (t:Value) (s:ByteArray) (w:World) (hT:D3 w t) (h:510<s.size\/Cmd.Fk s.data.toList=none) :
  Calls prog 12 #[t,.string s] w λe w'=>e=.returned (.tuple #[.agg #[.int .i64 0,.string ⟨#[]⟩,.bool false,.string ⟨#[]⟩,.string ⟨#[]⟩,.int .i64 (-1),.bool false,.bool false],.int .i64 500])/\Below w.heap.size w w':=by
 have hT0:=hT.1;obtain ⟨b0,b1,b2,b3,rfl,-,-,-,-⟩:=hT0;obtain ⟨B,hB⟩:∃ B,w.heap.size=B:=⟨_,rfl⟩
 obtain ⟨W0,hW0⟩:∃ W0,W0=(w.alloc (.cells #[.slice (some ⟨b0,0,none⟩) 74 74,.slice (some ⟨b1,0,none⟩) 10 10,.slice (some ⟨b2,0,none⟩) 11 11,.slice (some ⟨b3,0,none⟩) 42 42] 35)).alloc (.cells #[.int .i64 0,.string ⟨#[]⟩,.bool false,.string ⟨#[]⟩,.string ⟨#[]⟩,.int .i64 0,.bool false,.bool false] 27):=⟨_,rfl⟩
 obtain ⟨T0,A0,B0⟩:=Afj hB b0 b1 b2 b3 0 ⟨#[]⟩ false ⟨#[]⟩ ⟨#[]⟩ 0 false false hW0;have HW0:=jH hW0.symm;have K:=jH (show Vn w B b0 b1 b2 b3 W0 from ⟨T0,A0,B0⟩);have KW:=Acq s W0 (hT.2.Ac B0);have hcv:∃ z S f,Cmd.Abi s.data.toList=.tuple #[.int .i64 z,.string S,.bool f]/\(f=true->510<s.size):=by
  unfold Cmd.Abi;cases hv:Cmd.Fk s.data.toList with
  | none=>exact ⟨_,_,_,rfl,λh=>by cases h⟩
  | some v=>exact ⟨_,_,_,rfl,λ_=>by rcases h with h | h;exact h;rw [hv] at h;cases h⟩
 obtain ⟨z,S,f,hcv,hf⟩:=hcv;rw [hcv] at KW;have KW:=jH KW;have KN:=jH (λW=>A0e W);have hcs:(510:Int)<(s.size:Int)\/(¬ (510:Int)<(s.size:Int)/\f=false):=by
  by_cases g:510<s.size
  ·exact .inl jO
  ·refine .inr ⟨by omega,?_⟩;cases f
   · rfl
   · exact absurd (hf rfl) g
 clear hT h T0 A0 B0 hW0 hcv hf;rcases hcs with hsz | ⟨hsz,rfl⟩
 all_goals
  go_enter func12,ntmps12;go_wp2_with fail;rw [HW0.out];refine KW.out.mono ?_;rintro e w1 ⟨rfl,hb⟩;replace K:=jH (K.out.Ac hb);clear hb;go_wp2_with fail;refine (KN.out _).mono ?_;rintro e w2 ⟨rfl,hb⟩;replace K:=jH (K.out.Ac hb);clear hb;have hp:=Ai.put K.out.ans 0 ⟨#[]⟩ false ⟨#[]⟩ ⟨#[]⟩ (-1) false false;have hq:=Hg K.out.below (C:=B+1) jO (.int .i64 0) (.string ⟨#[]⟩) (.bool false) (.string ⟨#[]⟩) (.string ⟨#[]⟩) (.int .i64 (-1)) (.bool false) (.bool false);obtain ⟨W8,hW⟩:∃ W,((((((((w2.setCell ⟨B+1,0,none⟩ (.int .i64 0)).setCell ⟨B+1,1,none⟩ (.string ⟨#[]⟩)).setCell ⟨B+1,2,none⟩ (.bool false)).setCell ⟨B+1,3,none⟩ (.string ⟨#[]⟩)).setCell ⟨B+1,4,none⟩ (.string ⟨#[]⟩)).setCell ⟨B+1,5,none⟩ (.int .i64 (-1))).setCell ⟨B+1,6,none⟩ (.bool false)).setCell ⟨B+1,7,none⟩ (.bool false))=W:=⟨_,rfl⟩
  rw [hW] at hp hq;obtain ⟨a0,a1,a2,a3,a4,a5,a6,a7⟩:=K.out.ans.all;have f0:=K.out.ans.fr 0;have f1:=K.out.ans.fr 1;have f2:=K.out.ans.fr 2;have f3:=K.out.ans.fr 3;have f4:=K.out.ans.fr 4;have f5:=K.out.ans.fr 5;have f6:=K.out.ans.fr 6;have f7:=K.out.ans.fr 7;obtain ⟨z0,z1,z2,z3,z4,z5,z6,z7⟩:=hp.all;have HQ:=jH hq;have HW:=jH hW;clear hp hq hW;go_wp2;rw [HW.out];exact bodyPost_ret (v:=.tuple #[.agg #[.int .i64 0,.string ⟨#[]⟩,.bool false,.string ⟨#[]⟩,.string ⟨#[]⟩,.int .i64 (-1),.bool false,.bool false],.int .i64 500]) (by simp [results,results12,go_sem,z0,z1,z2,z3,z4,z5,z6,z7]) rfl ⟨rfl,HQ.out⟩
theorem A4a (t:Value) (s:ByteArray) (w:World) (hT:D3 w t) {E v:Int} {nm:List UInt8} {k:Bool} {x y:List UInt8} {z:Int} {e d:Bool} (hp:Cmd.parse s.data.toList=(E,⟨v,nm,k,x,y,z,e,d⟩)) :
  Calls prog 12 #[t,.string s] w λr w'=>r=.returned (.tuple #[.agg #[.int .i64 v,.string ⟨nm.toArray⟩,.bool k,.string ⟨x.toArray⟩,.string ⟨y.toArray⟩,.int .i64 z,.bool e,.bool d],.int .i64 E])/\Below w.heap.size w w':=by
 have hsl:s.data.toList.length=s.size:=by simp
 have hp2:∀ R,Cmd.raw s.data.toList=R->(if R.1=0 then R else (R.1,Cmd.zero))=(E,⟨v,nm,k,x,y,z,e,d⟩):=λR h=>by
  rw [<- hp];unfold Cmd.parse;rw [h]
 clear hp;by_cases hl:510<s.size
 ·have hp:=hp2 (500,Cmd.zero) (by unfold Cmd.raw;rw [if_pos jO]);rw [if_neg jD] at hp;injection hp with q1 q2
  injection q2 with q2 q3 q4 q5 q6 q7 q8 q9
  subst q1 q2 q3 q4 q5 q6 q7 q8 q9;exact Aks t s w hT (.inl hl)
 cases hv:Cmd.Fk s.data.toList with
 | none =>
  have hp:=hp2 (500,Cmd.zero) (by unfold Cmd.raw;rw [if_neg jO,hv]);rw [if_neg jD] at hp;injection hp with q1 q2
  injection q2 with q2 q3 q4 q5 q6 q7 q8 q9
  subst q1 q2 q3 q4 q5 q6 q7 q8 q9;exact Aks t s w hT (.inr hv)
 | some n =>
  have hp:=hp2 (Cmd.body n (s.data.toList.drop 4)) (by unfold Cmd.raw;rw [if_neg jO,hv]);obtain ⟨hn,h4,hr⟩:=Cmd.Asa hv;obtain ⟨S,hS⟩:∃ S:ByteArray,S=⟨(s.data.toList.drop 4).toArray⟩:=⟨_,rfl⟩
  have hSl:S.data.toList=s.data.toList.drop 4:=by rw [hS]
  have hSs:S.size<=510:=by
   have h1:S.data.toList.length=S.size:=by simp
   rw [<- h1,hSl,jaj];omega
  have hw:Cmd.Abi s.data.toList=.tuple #[.int .i64 (n:Int),.string S,.bool true]:=by unfold Cmd.Abi;rw [hv,hS]
  rw [<- hSl] at hp hr;have fin:∀ g,(∀ W,(Instr.index 59 (.agg #[.func (.func 38) #[] #[],.func (.func 38) #[] #[],.func (.func 39) #[] #[],.func (.func 40) #[] #[],.func (.func 41) #[] #[],.func (.func 41) #[] #[],.func (.func 42) #[] #[],.func (.func 41) #[] #[]]) (.int .i64 (n:Int))).run prog W=.ok (.func (.func g) #[] #[]) W) ->
    (∀ (C:Nat) (W:World),Table W t->CI C { Cmd.zero with verb:=n } W->Calls prog g #[t,.pointer (some ⟨C,0,none⟩),.string S] W (G9 C (Cmd.body n S.data.toList) W))->(∀ args w,(callFunc g args).run prog w=.ok (.enter g args) w) ->
    Calls prog 12 #[t,.string s] w λr w'=>r=.returned (.tuple #[.agg #[.int .i64 v,.string ⟨nm.toArray⟩,.bool k,.string ⟨x.toArray⟩,.string ⟨y.toArray⟩,.int .i64 z,.bool e,.bool d],.int .i64 E])/\Below w.heap.size w w':=λg h1 h2 h3=>by
   refine (A0s t s w hT jO n S hw g _ h1 h2 h3).mono λr w' ⟨h,hb⟩=>⟨?_,hb⟩
   rw [h];by_cases h0:(Cmd.body n S.data.toList).1=0
   ·rw [if_pos h0] at hp ⊢;rw [hp] at h0 ⊢;simp only at h0;rw [h0]
   ·rw [if_neg h0] at hp ⊢;injection hp with q1 q2
    injection q2 with q2 q3 q4 q5 q6 q7 q8 q9
    rw [q1,<- q2,<- q3,<- q4,<- q5,<- q6,<- q7,<- q8,<- q9]
  have hc:n=0\/n=1\/n=2\/n=3\/n=4\/n=5\/n=6\/n=7:=jO
  rcases hc with rfl | rfl | rfl | rfl | rfl | rfl | rfl | rfl
  ·exact fin 38 (λ_=>rfl) (λC W h hc=>Z4 t C 0 S W h hc (.inl rfl) jO hr) (enters_of func38 jK rfl)
  ·exact fin 38 (λ_=>rfl) (λC W h hc=>Z4 t C 1 S W h hc (.inr rfl) jO hr) (enters_of func38 jK rfl)
  ·exact fin 39 (λ_=>rfl) (λC W h hc=>Apb t C S W h hc hSs) (enters_of func39 jK rfl)
  ·exact fin 40 (λ_=>rfl) (λC W h hc=>Apc t C S W h hc hSs) (enters_of func40 jK rfl)
  ·exact fin 41 (λ_=>rfl) (λC W h hc=>Kr t C _ S W h hc) (enters_of func41 jK rfl)
  ·exact fin 41 (λ_=>rfl) (λC W h hc=>Kr t C _ S W h hc) (enters_of func41 jK rfl)
  ·exact fin 42 (λ_=>rfl) (λC W h hc=>Z6 t C _ S W h hc) (enters_of func42 jK rfl)
  ·exact fin 41 (λ_=>rfl) (λC W h hc=>Kr t C _ S W h hc) (enters_of func41 jK rfl)
theorem Ax9:Ahl :=
 ⟨λt s w hT _=>A4a t s w hT,
  λv nm k x y z e d w hC hn hx hy _ hz _ hp=>by subst hp;exact A4b v nm k x y z e d w hC hn hx hy hz,
  λt v nm k x y z e d w hT _ hx hy _ _ _ hb=>by subst hb;exact A4i t v nm k x y z e d w hT jO (Aj7 hy),
  λv w hC _ _ hp=>by subst hp;exact (Aqi v w hC).mono λ_ _ ⟨h1,h2⟩=>⟨h1,h2 ▸ jan _ _⟩⟩
end
