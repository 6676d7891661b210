import Derived.Test.YtipkfalbepiphaaGreatDoorCmdLaw
namespace Go.Proofs.YtipkfalbepiphaaGreatDoor
open Tryz
open Go.RowKit Utf
set_option maxHeartbeats 16000000 in
set_option maxRecDepth 100000 in
theorem Ahx (F:Ahl) (v:Int) (nm:ByteArray) (k:Bool) (x y:ByteArray) (z:Int) (e8 d8:Bool) (s:ByteArray) (w:World) (CT:Ha w) (hv:-9223372036854775808<=v/\v<=9223372036854775807) (hz:-9223372036854775808<=z/\z<=9223372036854775807):Calls prog 3 #[.agg #[.int .i64 v,.string nm,.bool k,.string x,.string y,.int .i64 z,.bool e8,.bool d8],.string s] w λe w'=>e=.returned (.bool true)/\Below w.heap.size w w':=by
 by_cases hf:x.size<=150/\y.size<=200/\nm.size<=400
 case neg =>
  have BB:=jH (jan w.heap.size w);go_enter func3,ntmps3;obtain ⟨B,hB⟩:∃ N,w.heap.size=N:=⟨_,rfl⟩
  have hb:=Ab w (.cells #[.int .i64 v,.string nm,.bool k,.string x,.string y,.int .i64 z,.bool e8,.bool d8] 27);replace BB:=jH (Aa BB.out hb);clear hb;have CB:=jH (show Ai B v nm k x y z e8 d8 (w.alloc (.cells #[.int .i64 v,.string nm,.bool k,.string x,.string y,.int .i64 z,.bool e8,.bool d8] 27)) from hB ▸ Ai.new w v nm k x y z e8 d8);obtain ⟨m0,m1,m2,m3,m4,m5,m6,m7⟩:=CB.out.all;go_wp2_with fail;refine (Fj F _ (CT.Ac (Ab w _))).mono ?_;rintro e w1 ⟨rfl,hb⟩;replace m0:=Kc hb m0;replace m1:=Kc hb m1;replace m2:=Kc hb m2;replace m3:=Kc hb m3;replace m4:=Kc hb m4;replace m5:=Kc hb m5;replace m6:=Kc hb m6;replace m7:=Kc hb m7;replace CB:=jH (CB.out.Ac hb);replace BB:=jH (Aa BB.out hb);clear hb;go_wp2_with fail;refine (Ay3 v nm k x y z e8 d8 _ hf).mono ?_;rintro e w2 ⟨rfl,hb⟩;replace m0:=Kc hb m0;replace m1:=Kc hb m1;replace m2:=Kc hb m2;replace m3:=Kc hb m3;replace m4:=Kc hb m4;replace m5:=Kc hb m5;replace m6:=Kc hb m6;replace m7:=Kc hb m7;replace CB:=jH (CB.out.Ac hb);replace BB:=jH (Aa BB.out hb);clear hb;go_wp2;go_ret;exact ⟨rfl,BB.out⟩
 obtain ⟨hx,hy,hn⟩:=hf;have KF:=λW=>Atk v nm k x y z e8 d8 W hx hy hn;by_cases hs:s.size<=700
 case neg =>
  have hsz:(700:Int)<(s.size:Int):=jO
  have BB:=jH (jan w.heap.size w);go_enter func3,ntmps3;obtain ⟨B,hB⟩:∃ N,w.heap.size=N:=⟨_,rfl⟩
  have hb:=Ab w (.cells #[.int .i64 v,.string nm,.bool k,.string x,.string y,.int .i64 z,.bool e8,.bool d8] 27);replace BB:=jH (Aa BB.out hb);clear hb;have CB:=jH (show Ai B v nm k x y z e8 d8 (w.alloc (.cells #[.int .i64 v,.string nm,.bool k,.string x,.string y,.int .i64 z,.bool e8,.bool d8] 27)) from hB ▸ Ai.new w v nm k x y z e8 d8);obtain ⟨m0,m1,m2,m3,m4,m5,m6,m7⟩:=CB.out.all;go_wp2_with fail;refine (Fj F _ (CT.Ac (Ab w _))).mono ?_;rintro e w1 ⟨rfl,hb⟩;replace m0:=Kc hb m0;replace m1:=Kc hb m1;replace m2:=Kc hb m2;replace m3:=Kc hb m3;replace m4:=Kc hb m4;replace m5:=Kc hb m5;replace m6:=Kc hb m6;replace m7:=Kc hb m7;replace CB:=jH (CB.out.Ac hb);replace BB:=jH (Aa BB.out hb);clear hb;go_wp2_with fail;refine (KF _).mono ?_;rintro e w2 ⟨rfl,hb⟩;replace m0:=Kc hb m0;replace m1:=Kc hb m1;replace m2:=Kc hb m2;replace m3:=Kc hb m3;replace m4:=Kc hb m4;replace m5:=Kc hb m5;replace m6:=Kc hb m6;replace m7:=Kc hb m7;replace CB:=jH (CB.out.Ac hb);replace BB:=jH (Aa BB.out hb);clear hb;go_wp2;go_ret;exact ⟨rfl,BB.out⟩
 have hsz:¬ (700:Int)<(s.size:Int):=jO
 have hsl:s.data.toList.length=s.size:=by simp
 have HN:(⟨nm.data.toList.toArray⟩:ByteArray)=nm:=rfl;have HX:(⟨x.data.toList.toArray⟩:ByteArray)=x:=rfl;have HY:(⟨y.data.toList.toArray⟩:ByteArray)=y:=rfl;obtain ⟨P,hP⟩:∃ T:ByteArray,⟨(Cmd.print ⟨v,nm.data.toList,k,x.data.toList,y.data.toList,z,e8,d8⟩).toArray⟩=T:=⟨_,rfl⟩
 obtain ⟨R,hR⟩:∃ R,Cmd.right ⟨v,nm.data.toList,k,x.data.toList,y.data.toList,z,e8,d8⟩=R:=⟨_,rfl⟩
 obtain ⟨g,hg⟩:∃ g,Ao P.data.toList=g:=⟨_,rfl⟩
 have hPl:P.data.toList=Cmd.print ⟨v,nm.data.toList,k,x.data.toList,y.data.toList,z,e8,d8⟩:=by rw [<- hP]
 have hPs:P.data.toList.length=P.size:=by simp
 have KPR:∀ W,Ha W->Calls prog 9 #[.agg #[.int .i64 v,.string nm,.bool k,.string x,.string y,.int .i64 z,.bool e8,.bool d8]] W λe w'=>e=.returned (.string P)/\Below W.heap.size W w':=λW hC=>by rw [<- hP];exact F.print v nm k x y z e8 d8 W hC jO jO jO hv hz rfl
 have KR:=λt W (h:D3 W t)=>F.right t v nm k x y z e8 d8 W h jO jO jO hv hz hR;have KE:P.size<=510->∀ W,Calls prog 11 #[.string P] W λe w'=>e=.returned (.int .i64 g)/\W=w':=λh W=>by rw [<- hg];exact Hi P W jO
 have KB:R=true->P.size<=510->(v=2->d8=true\/g<0)->∀ t W,D3 W t->Calls prog 12 #[t,.string P] W λe w'=>e=.returned (.tuple #[.agg #[.int .i64 v,.string nm,.bool k,.string x,.string y,.int .i64 z,.bool e8,.bool d8],.int .i64 0])/\Below W.heap.size W w':=λh1 h2 h3 t W h=>by
  subst h1;have hb:=Cmd.Av9 hR (by rw [<- hPl];omega) (λh=>(h3 h).imp id λh4=>by
   rw [<- hPl,hg];rcases Lab.Gg P.data.toList with ⟨-,h5⟩ | ⟨-,h5⟩<;>omega)
  rw [<- hPl] at hb;exact F.parse t P W h jO hb
 obtain ⟨⟨E,⟨v',nm',k',x',y',z',e',d'⟩⟩,hp⟩:∃ q,Cmd.parse s.data.toList=q:=⟨_,rfl⟩
 obtain ⟨N',hN'⟩:∃ T:ByteArray,⟨nm'.toArray⟩=T:=⟨_,rfl⟩
 obtain ⟨X',hX'⟩:∃ T:ByteArray,⟨x'.toArray⟩=T:=⟨_,rfl⟩
 obtain ⟨Y',hY'⟩:∃ T:ByteArray,⟨y'.toArray⟩=T:=⟨_,rfl⟩
 obtain ⟨P',hP'⟩:∃ T:ByteArray,⟨(Cmd.print ⟨v',nm',k',x',y',z',e',d'⟩).toArray⟩=T:=⟨_,rfl⟩
 obtain ⟨g',hg'⟩:∃ g,Ao P'.data.toList=g:=⟨_,rfl⟩
 have KS:=λt W (h:D3 W t)=>F.parse t s W h jO hp;rw [hN',hX',hY'] at KS;have hfine:=Cmd.Ao1 hp;have K0:E=0->Cmd.Len 510 ⟨v',nm',k',x',y',z',e',d'⟩/\(0<=v'/\v'<=7)/\-1<=z'/\z'<=16777216:=λh=>by
  subst h;rcases hfine with ⟨-,h1,-⟩ | ⟨h1,-⟩
  ·exact ⟨(Cmd.Ad4 hp).mono (Cmd.Au0 hp),Cmd.Apk h1⟩
  ·exact absurd rfl h1
 have KSR:E=0->∀ t W,D3 W t->Calls prog 10 #[t,.agg #[.int .i64 v',.string N',.bool k',.string X',.string Y',.int .i64 z',.bool e',.bool d']] W λe w'=>e=.returned (.bool true)/\Below W.heap.size W w':=λh t W hT=>by
  obtain ⟨⟨l1,l2,l3⟩,i1,i2,i3⟩:=K0 h;rcases hfine with ⟨-,h1,-⟩ | ⟨h1,-⟩
  ·rw [<- hN',<- hX',<- hY'];exact F.right t v' ⟨nm'.toArray⟩ k' ⟨x'.toArray⟩ ⟨y'.toArray⟩ z' e' d' W hT (by show nm'.toArray.size<=_;rw [List.size_toArray];exact Nat.le_trans l1 jD) (by show x'.toArray.size<=_;rw [List.size_toArray];exact Nat.le_trans l2 jD) (by show y'.toArray.size<=_;rw [List.size_toArray];exact l3) jO jO h1
  ·exact absurd h h1
 have KSP:E=0->∀ W,Ha W->Calls prog 9 #[.agg #[.int .i64 v',.string N',.bool k',.string X',.string Y',.int .i64 z',.bool e',.bool d']] W λe w'=>e=.returned (.string P')/\Below W.heap.size W w':=λh W hC=>by
  obtain ⟨⟨l1,l2,l3⟩,i1,i2,i3⟩:=K0 h;rw [<- hN',<- hX',<- hY',<- hP'];exact F.print v' ⟨nm'.toArray⟩ k' ⟨x'.toArray⟩ ⟨y'.toArray⟩ z' e' d' W hC (by show nm'.toArray.size<=_;rw [List.size_toArray];exact Nat.le_trans l1 jD) (by show x'.toArray.size<=_;rw [List.size_toArray];exact Nat.le_trans l2 jD) (by show y'.toArray.size<=_;rw [List.size_toArray];exact Nat.le_trans l3 jD) jO jO rfl
 have KSE:E=0->∀ W,Calls prog 11 #[.string P'] W λe w'=>e=.returned (.int .i64 g')/\W=w':=λh W=>by
  obtain ⟨l,i1,i2,i3⟩:=K0 h;have:=Cmd.Avb l i2 i3;rw [<- hg'];exact Hi P' W (by rw [<- hP'];show (Cmd.print _).toArray.size<=_;rw [List.size_toArray];omega)
 have KG:E=0->v'=2->d'=true\/g'<0:=λh h2=>by
  rcases hfine with ⟨-,-,h3⟩ | ⟨h1,-⟩
  ·refine (h3 h2).imp id λh4=>?_;have e:P'.data.toList=Cmd.print ⟨v',nm',k',x',y',z',e',d'⟩:=by rw [<- hP']
   rw [<- hg',e,h4];decide
  ·exact absurd h h1
 have KZ:E ≠ 0->500<=E/\E<556/\v'=0/\N'=⟨#[]⟩/\k'=false/\X'=⟨#[]⟩/\Y'=⟨#[]⟩/\z'=-1/\e'=false/\d'=false:=λh=>by
  rcases hfine with ⟨h1,-⟩ | ⟨-,h2,h3,h4⟩
  ·exact absurd h1 h
  ·injection h2 with q1 q2 q3 q4 q5 q6 q7 q8
   subst q1 q2 q3 q4 q5 q6 q7 q8;exact ⟨h3,h4,rfl,hN'.symm,rfl,hX'.symm,hY'.symm,rfl,rfl,rfl⟩
 replace KF:=jH KF;replace KPR:=jH KPR;replace KR:=jH KR;replace KE:=jH KE;replace KB:=jH KB;replace KS:=jH KS;replace KSR:=jH KSR;replace KSP:=jH KSP;replace KSE:=jH KSE;replace KG:=jH KG;replace KZ:=jH KZ;clear hv hz hx hy hn hs hsl HN HX HY hP hR hg hPl hPs hp hN' hX' hY' hP' hg' hfine K0;have BB:=jH (jan w.heap.size w);go_enter func3,ntmps3;obtain ⟨B,hB⟩:∃ N,w.heap.size=N:=⟨_,rfl⟩
 have hb:=Ab w (.cells #[.int .i64 v,.string nm,.bool k,.string x,.string y,.int .i64 z,.bool e8,.bool d8] 27);replace BB:=jH (Aa BB.out hb);clear hb;have CB:=jH (show Ai B v nm k x y z e8 d8 (w.alloc (.cells #[.int .i64 v,.string nm,.bool k,.string x,.string y,.int .i64 z,.bool e8,.bool d8] 27)) from hB ▸ Ai.new w v nm k x y z e8 d8);obtain ⟨m0,m1,m2,m3,m4,m5,m6,m7⟩:=CB.out.all;go_wp2_with fail;refine (Fj F _ (CT.Ac (Ab w _))).mono ?_;rintro e w1 ⟨rfl,hb⟩;replace m0:=Kc hb m0;replace m1:=Kc hb m1;replace m2:=Kc hb m2;replace m3:=Kc hb m3;replace m4:=Kc hb m4;replace m5:=Kc hb m5;replace m6:=Kc hb m6;replace m7:=Kc hb m7;replace CB:=jH (CB.out.Ac hb);replace BB:=jH (Aa BB.out hb);clear hb;go_wp2_with fail;refine (KF.out _).mono ?_;rintro e w2 ⟨rfl,hb⟩;replace m0:=Kc hb m0;replace m1:=Kc hb m1;replace m2:=Kc hb m2;replace m3:=Kc hb m3;replace m4:=Kc hb m4;replace m5:=Kc hb m5;replace m6:=Kc hb m6;replace m7:=Kc hb m7;replace CB:=jH (CB.out.Ac hb);replace BB:=jH (Aa BB.out hb);clear hb;go_wp2_with fail;refine (Xe _).mono ?_;rintro e w3 ⟨tt,rfl,hT,hb⟩;obtain ⟨b0,b1,b2,b3,rfl,-,-,-,-⟩:=id hT;replace m0:=Kc hb m0;replace m1:=Kc hb m1;replace m2:=Kc hb m2;replace m3:=Kc hb m3;replace m4:=Kc hb m4;replace m5:=Kc hb m5;replace m6:=Kc hb m6;replace m7:=Kc hb m7;replace CB:=jH (CB.out.Ac hb);replace BB:=jH (Aa BB.out hb);have K:=jH (Pc (b0:=b0) (b1:=b1) (b2:=b2) (b3:=b3) BB.out hT CT 35);clear hT hb BB;obtain ⟨S,hS⟩:∃ N,w3.heap.size=N:=⟨_,rfl⟩
 rw [hS] at K;have hb:=Ab w3 (.cells #[.slice (some ⟨b0,0,none⟩) 74 74,.slice (some ⟨b1,0,none⟩) 10 10,.slice (some ⟨b2,0,none⟩) 11 11,.slice (some ⟨b3,0,none⟩) 42 42] 35);replace m0:=Kc hb m0;replace m1:=Kc hb m1;replace m2:=Kc hb m2;replace m3:=Kc hb m3;replace m4:=Kc hb m4;replace m5:=Kc hb m5;replace m6:=Kc hb m6;replace m7:=Kc hb m7;replace CB:=jH (CB.out.Ac hb);clear hb;obtain ⟨-,t0,t1,t2,t3⟩:=K.out.held;clear KF;go_wp2_with fail;refine (KPR.out _ K.out.table.2).mono ?_;rintro e w4 ⟨rfl,hb⟩;replace m0:=Kc hb m0;replace m1:=Kc hb m1;replace m2:=Kc hb m2;replace m3:=Kc hb m3;replace m4:=Kc hb m4;replace m5:=Kc hb m5;replace m6:=Kc hb m6;replace m7:=Kc hb m7;replace t0:=Kc hb t0;replace t1:=Kc hb t1;replace t2:=Kc hb t2;replace t3:=Kc hb t3;replace CB:=jH (CB.out.Ac hb);replace K:=jH (K.out.next hb);clear hb;go_upto_region 7 with (fail)
 go_cut [48] (λs48 wx=>s48=.bool (R && decide (P.size<=510) && (decide (v ≠ 2) || d8 || decide (g<0)))/\Hid (Is w S b0 b1 b2 b3 wx/\Ai B v nm k x y z e8 d8 wx))
 case first =>
  go_wp2_with fail;refine (KR.out _ _ K.out.table).mono ?_;rintro e w5 ⟨rfl,hb⟩;replace m0:=Kc hb m0;replace m1:=Kc hb m1;replace m2:=Kc hb m2;replace m3:=Kc hb m3;replace m4:=Kc hb m4;replace m5:=Kc hb m5;replace m6:=Kc hb m6;replace m7:=Kc hb m7;replace t0:=Kc hb t0;replace t1:=Kc hb t1;replace t2:=Kc hb t2;replace t3:=Kc hb t3;replace CB:=jH (CB.out.Ac hb);replace K:=jH (K.out.next hb);clear hb;cases R
  ·clear KB;go_wp2_with fail;go_meet;exact ⟨by simp,jH ⟨K.out,CB.out⟩⟩
  by_cases hq:P.size<=510
  case neg =>
   have q1:¬ (P.size:Int)<=510:=jO
   go_wp2_with fail;go_meet;exact ⟨by simp;omega,jH ⟨K.out,CB.out⟩⟩
  have q1:(P.size:Int)<=510:=jO
  replace KE:=jH (KE.out hq);by_cases hv2:v=2
  case neg =>
   have q2:(v != 2)=true:=by simpa using hv2
   go_wp2_with fail;go_meet;exact ⟨by simp [hq,hv2],jH ⟨K.out,CB.out⟩⟩
  subst hv2;cases d8
  case true => 
   go_wp2_with fail;go_meet;exact ⟨by simp [hq],jH ⟨K.out,CB.out⟩⟩
  go_wp2_with fail;refine (KE.out _).mono ?_;rintro e w_ ⟨rfl,rfl⟩;go_wp2_with fail;go_meet;exact ⟨by simp [hq],jH ⟨K.out,CB.out⟩⟩
 case rest =>
  obtain ⟨rfl,HX⟩:=hcut;clear m0 m1 m2 m3 m4 m5 m6 m7 t0 t1 t2 t3 K CB;have K:=jH HX.out.1;have CB:=jH HX.out.2;clear HX;obtain ⟨-,t0,t1,t2,t3⟩:=K.out.held;replace KB:Hid ((R && decide (P.size<=510) && (decide (v ≠ 2) || d8 || decide (g<0)))=true->∀ t W,D3 W t->Calls prog 12 #[t,.string P] W λe w'=>e=.returned (.tuple #[.agg #[.int .i64 v,.string nm,.bool k,.string x,.string y,.int .i64 z,.bool e8,.bool d8],.int .i64 0])/\Below W.heap.size W w'):=jH λh=>by
   simp only [jag,Bool.or_eq_true,decide_eq_true_eq] at h;exact KB.out h.1.1 h.1.2 λh2=>by rcases h.2 with (h3 | h3) | h3;exact absurd h2 h3;exact .inl h3;exact .inr h3
  generalize (R && decide (P.size<=510) && (decide (v ≠ 2) || d8 || decide (g<0)))=Q at KB ⊢;clear KR KE KPR;go_upto_if 48 with (fail)
  go_cut [] (λwx=>Hid (Is w S b0 b1 b2 b3 wx))
  case first =>
   cases Q
   ·clear KB;go_wp2_with fail;go_meet;exact jH K.out
   replace KB:=jH (KB.out rfl);go_wp2_with fail;refine (KB.out _ _ K.out.table).mono ?_;rintro e w5 ⟨rfl,hb⟩;replace t0:=Kc hb t0;replace t1:=Kc hb t1;replace t2:=Kc hb t2;replace t3:=Kc hb t3;replace CB:=jH (CB.out.Ac hb);replace K:=jH (K.out.next hb);clear hb;obtain ⟨D,hD⟩:∃ N,w5.heap.size=N:=⟨_,rfl⟩
   have ltDS:S<D:=by have h_:=jam _ _ t0;simp only [hD] at h_;exact h_
   have ltDB:B<D:=by have h_:=CB.out.lt;simp only [hD] at h_;exact h_
   have hb:=Ab w5 (.cells #[.int .i64 v,.string nm,.bool k,.string x,.string y,.int .i64 z,.bool e8,.bool d8] 27);replace t0:=Kc hb t0;replace t1:=Kc hb t1;replace t2:=Kc hb t2;replace t3:=Kc hb t3;replace CB:=jH (CB.out.Ac hb);replace K:=jH (K.out.next hb);clear hb;have CD:=jH (show Ai D v nm k x y z e8 d8 (w5.alloc (.cells #[.int .i64 v,.string nm,.bool k,.string x,.string y,.int .i64 z,.bool e8,.bool d8] 27)) from hD ▸ Ai.new w5 v nm k x y z e8 d8);obtain ⟨m0,m1,m2,m3,m4,m5,m6,m7⟩:=CB.out.all;obtain ⟨d0,d1,d2,d3,d4,d5,d6,d7⟩:=CD.out.all;go_wp2_with fail;go_meet;exact jH K.out
  case rest =>
   clear t0 t1 t2 t3 K CB KB;have K:=hcut;clear hcut;obtain ⟨-,t0,t1,t2,t3⟩:=K.out.held;go_wp2_with fail;refine (KS.out _ _ K.out.table).mono ?_;rintro e w5 ⟨rfl,hb⟩;replace t0:=Kc hb t0;replace t1:=Kc hb t1;replace t2:=Kc hb t2;replace t3:=Kc hb t3;replace K:=jH (K.out.next hb);clear hb;by_cases hE:E=0
   case neg =>
    obtain ⟨u1,u2,rfl,rfl,rfl,rfl,rfl,rfl,rfl,rfl⟩:=KZ.out hE;have f1:(E != 0)=true:=by simpa using hE
    clear hE KSR KSP KSE KG;obtain ⟨D,hD⟩:∃ N,w5.heap.size=N:=⟨_,rfl⟩
    have ltDS:S<D:=by have h_:=jam _ _ t0;simp only [hD] at h_;exact h_
    have hb:=Ab w5 (.cells #[.int .i64 0,.string ⟨#[]⟩,.bool false,.string ⟨#[]⟩,.string ⟨#[]⟩,.int .i64 (-1),.bool false,.bool false] 27);replace t0:=Kc hb t0;replace t1:=Kc hb t1;replace t2:=Kc hb t2;replace t3:=Kc hb t3;replace K:=jH (K.out.next hb);clear hb;have CD:=jH (show Ai D 0 ⟨#[]⟩ false ⟨#[]⟩ ⟨#[]⟩ (-1) false false (w5.alloc (.cells #[.int .i64 0,.string ⟨#[]⟩,.bool false,.string ⟨#[]⟩,.string ⟨#[]⟩,.int .i64 (-1),.bool false,.bool false] 27)) from hD ▸ Ai.new w5 0 ⟨#[]⟩ false ⟨#[]⟩ ⟨#[]⟩ (-1) false false);obtain ⟨d0,d1,d2,d3,d4,d5,d6,d7⟩:=CD.out.all;go_wp2;go_ret;refine ⟨?_,K.out.below⟩;simp
   subst hE;replace KSR:=jH (KSR.out rfl);replace KSP:=jH (KSP.out rfl);replace KSE:=jH (KSE.out rfl);replace KG:=jH (KG.out rfl);clear KZ;obtain ⟨D,hD⟩:∃ N,w5.heap.size=N:=⟨_,rfl⟩
   have ltDS:S<D:=by have h_:=jam _ _ t0;simp only [hD] at h_;exact h_
   have hb:=Ab w5 (.cells #[.int .i64 v',.string N',.bool k',.string X',.string Y',.int .i64 z',.bool e',.bool d'] 27);replace t0:=Kc hb t0;replace t1:=Kc hb t1;replace t2:=Kc hb t2;replace t3:=Kc hb t3;replace K:=jH (K.out.next hb);clear hb;have CD:=jH (show Ai D v' N' k' X' Y' z' e' d' (w5.alloc (.cells #[.int .i64 v',.string N',.bool k',.string X',.string Y',.int .i64 z',.bool e',.bool d'] 27)) from hD ▸ Ai.new w5 v' N' k' X' Y' z' e' d');obtain ⟨d0,d1,d2,d3,d4,d5,d6,d7⟩:=CD.out.all;go_wp2_with fail;refine (KSR.out _ _ K.out.table).mono ?_;rintro e w6 ⟨rfl,hb⟩;replace t0:=Kc hb t0;replace t1:=Kc hb t1;replace t2:=Kc hb t2;replace t3:=Kc hb t3;replace d0:=Kc hb d0;replace d1:=Kc hb d1;replace d2:=Kc hb d2;replace d3:=Kc hb d3;replace d4:=Kc hb d4;replace d5:=Kc hb d5;replace d6:=Kc hb d6;replace d7:=Kc hb d7;replace CD:=jH (CD.out.Ac hb);replace K:=jH (K.out.next hb);clear hb;by_cases hv2:v'=2
   case neg =>
    have q2:(v' != 2)=true:=by simpa using hv2
    go_wp2;go_ret;exact ⟨rfl,K.out.below⟩
   subst hv2;cases d'
   case true =>
    go_wp2;go_ret;exact ⟨rfl,K.out.below⟩
   have q3:g'<0:=by
    rcases KG.out rfl with h | h
    · cases h
    · exact h
   go_wp2_with fail;refine (KSP.out _ K.out.table.2).mono ?_;rintro e w7 ⟨rfl,hb⟩;replace t0:=Kc hb t0;replace t1:=Kc hb t1;replace t2:=Kc hb t2;replace t3:=Kc hb t3;replace d0:=Kc hb d0;replace d1:=Kc hb d1;replace d2:=Kc hb d2;replace d3:=Kc hb d3;replace d4:=Kc hb d4;replace d5:=Kc hb d5;replace d6:=Kc hb d6;replace d7:=Kc hb d7;replace CD:=jH (CD.out.Ac hb);replace K:=jH (K.out.next hb);clear hb;go_wp2_with fail;refine (KSE.out _).mono ?_;rintro e w_ ⟨rfl,rfl⟩;go_wp2;go_ret;exact ⟨by simp,K.out.below⟩
