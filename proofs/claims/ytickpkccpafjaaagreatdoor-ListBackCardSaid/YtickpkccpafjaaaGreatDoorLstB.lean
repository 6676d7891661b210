import Derived.Test.YtickpkccpafjaaaGreatDoorLstA
set_option maxRecDepth 100000
set_option maxHeartbeats 8000000
namespace Go.Proofs.YtickpkccpafjaaaGreatDoor
open Tryz
section
open Go.RowKit Utf Go.Shelf
attribute [local go_sem] Fe
theorem Lst.Av4 {l:List Mbx.S} (F:Sml l) (n:Nat):Few (l.drop n):=by
 have f:=F.few;exact ⟨by rw [jaj];have:=f.len;omega,λk hk=>f.text k (List.mem_of_mem_drop hk)⟩
theorem F0.cut {N:Nat} {A:Option Addr} {c n:Nat} {l:List Mbx.S} {w:World} (h:F0 N (.slice A l.length c) l w) (hn:n<=l.length):l.length<=c/\F0 N (.slice (if c=n then A else A.map (·.add (n*3))) (l.length - n) (c - n)) (l.drop n) w:=by
 obtain ⟨A',c',e,hc,h1⟩:=h.flat;injection e with e1 e2 e3
 subst e1 e3;refine ⟨hc,(if c=n then A else A.map (·.add (n*3))),c - n,by rw [jaj],by rw [jaj];omega,λi hi=>?_⟩;rw [jaj] at hi;obtain ⟨g,o,rfl,hg,h2⟩:=h1 jO;have h3:=h2 (n+i) jO;refine ⟨g,o+n*3,?_,hg,?_⟩
 ·rw [if_neg jO];simp only [Option.map_some,Addr.add];split<;>simp_all
 ·rw [List.getElem_drop,show o+n*3+i*3=o+(n+i)*3 by omega];exact h3
theorem Yz (N:Nat) (A:Option Addr) (c:Nat) (vE vB:Value) (l:List Mbx.S) (n:Nat) (s x y:ByteArray) (w:World) (H:Au N (.slice A l.length c) vE vB l n s x y w) (hn:n<=l.length) (F:Sml l) (A':Option Addr) (hA:(if c=n then A else A.map (·.add (n*3)))=A') (a b:ByteArray) (q:Nat) (i:Bool) (hr:Mbx.Adi (Mbx.take (l.drop n))=.tuple #[.agg #[.string a,.string b],.int .i64 (q:Int),.bool i]) (hq:n+q<=4000) :
  Calls prog 130 #[.pointer (some ⟨N,0,none⟩)] w λe w'=>e=.returned (.bool i)/\Au N (.slice A l.length c) vE vB l (n+q) s a b w'/\Ay N w w':=by
 have hl:=F.len;have FD:=Lst.Av4 F n;have HH:=jH H;have hNw:=H.lt;obtain ⟨c0,c1,-⟩:=H.all;obtain ⟨hc,hT⟩:=H.Jp.cut hn;rw [hA] at hT;have K:=jH (λ(W:World) (hb:Below w.heap.size w W)=>hr ▸ Aj3 _ (l.drop n) W (F0.up (hT.Ae λk hk=>hb.block k (Nat.lt_trans hk hNw)) (Nat.le_trans (Nat.le_of_lt hNw) hb.size)) FD);have hnz:(n:Int)<=(l.length:Int):=jO
 clear hr hT FD F H;generalize hlen:l.length=len at *;have HL:=jH hlen;clear hlen;go_enter func130,ntmps130;go_upto_region 1 with (fail)
 go_cut [3,4,5] (λs3 s4 s5 wx=>∃ C,s3=.pointer (some ⟨C,0,none⟩)/\s4=.int .i64 (q:Int)/\s5=.bool i/\Hid (Below w.heap.size w wx/\CAt C a b wx))
 case first =>
  go_region_with (first
   | (go_at_call 41;(refine (K.out w.drew (jan _ w).drew).mono ?_);rintro e w1 ⟨rfl,hb⟩;have R:=jH (show Below w.heap.size w (w1.alloc (.cells #[.string a,.string b] 28))/\CAt w1.heap.size a b (w1.alloc (.cells #[.string a,.string b] 28)) from ⟨(Ag hb).trans ((Ac w1 _).mono hb.size),CAt.new w1 a b⟩);clear hb)
   | (go_at_call 41;(refine (K.out (w.alloc (.cells #[.string ⟨#[]⟩,.string ⟨#[]⟩] 28)).drew (Ac w (.cells #[.string ⟨#[]⟩,.string ⟨#[]⟩] 28)).drew).mono ?_);rintro e w1 ⟨rfl,hb⟩;have C1:=(CAt.new w ⟨#[]⟩ ⟨#[]⟩).Ae (Ag hb);have r0:=C1.c0;have r1:=C1.c1;have f0:=C1.fr 0;have f1:=C1.fr 1;have B1:=(Ac w (.cells #[.string ⟨#[]⟩,.string ⟨#[]⟩] 28)).trans ((Ag hb).mono jS);have R:=jH (show Below w.heap.size w ((w1.setCell ⟨w.heap.size,0,none⟩ (.string a)).setCell ⟨w.heap.size,1,none⟩ (.string b))/\CAt w.heap.size a b ((w1.setCell ⟨w.heap.size,0,none⟩ (.string a)).setCell ⟨w.heap.size,1,none⟩ (.string b)) from ⟨(B1.setCell (p:=⟨w.heap.size,0,none⟩) (jaa _) _).setCell (p:=⟨w.heap.size,1,none⟩) (jaa _) _,(C1.Atu a).Qc b⟩);clear hb C1 B1))
  all_goals
   go_wp2_with fail;go_meet;exact ⟨_,rfl,rfl,rfl,R.out⟩
 case rest =>
  obtain ⟨C,rfl,rfl,rfl,HX⟩:=hcut;have P2:=HH.out.Ae HX.out.1;obtain ⟨-,d1,-,-,d4,d5,-⟩:=P2.all;have f1:=P2.fr 1;have f4:=P2.fr 4;have f5:=P2.fr 5;have r0:=HX.out.2.c0;have r1:=HX.out.2.c1;have hqz:(n:Int)+(q:Int)<=4000:=jO
  have P5:=((P2.Ajp a).A21 b).Qc (n+q);rw [show ((n+q:Nat):Int)=(n:Int)+(q:Int) by omega] at P5;have R:=jH (And.intro P5 ((((Ay.of (g:=N) HX.out.1).set 4 (.string a)).set 5 (.string b)).set 1 (.int .i64 ((n:Int)+(q:Int)))));clear P2 P5;go_wp2;go_ret;exact ⟨rfl,R.out⟩
theorem Mbx.Ays (r:Mbx.Res):(r=none/\Mbx.Adi r=.tuple #[.agg #[.string ⟨#[]⟩,.string ⟨#[]⟩],.int .i64 ((0:Nat):Int),.bool false])\/∃ a b q,r=some (a,b,q)/\Mbx.Adi r=.tuple #[.agg #[.string ⟨a.toArray⟩,.string ⟨b.toArray⟩],.int .i64 (q:Int),.bool true]:=by
 cases r with
 | none=>exact .inl ⟨rfl,rfl⟩
 | some p=>obtain ⟨a,b,q⟩:=p;exact .inr ⟨a,b,q,rfl,rfl⟩
theorem Y3 (N:Nat) (vT vE vB:Value) (l:List Mbx.S) (n:Nat) (s x y:ByteArray) (w:World) (H:Au N vT vE vB l n s x y w) (hn:n<=l.length) (F:Sml l) :
  Calls prog 130 #[.pointer (some ⟨N,0,none⟩)] w λe w'=>Ay N w w'/\((Mbx.take (l.drop n)=none/\e=.returned (.bool false)/\Au N vT vE vB l n s ⟨#[]⟩ ⟨#[]⟩ w') \/
   ∃ a b q,Mbx.take (l.drop n)=some (a,b,q)/\n+q<=l.length/\e=.returned (.bool true)/\Au N vT vE vB l (n+q) s ⟨a.toArray⟩ ⟨b.toArray⟩ w'):=by
 obtain ⟨A,c,rfl,-,-⟩:=id H.Jp;have hl:=F.len;rcases Mbx.Ays (Mbx.take (l.drop n)) with ⟨h1,h2⟩ | ⟨a,b,q,h1,h2⟩
 ·exact (Yz N A c vE vB l n s x y w H hn F _ rfl ⟨#[]⟩ ⟨#[]⟩ 0 false h2 jO).mono λe w' ⟨e1,p1,o1⟩=>⟨o1,.inl ⟨h1,e1,p1⟩⟩
 ·have hq:=(Mbx.take_len h1).2;rw [jaj] at hq;exact (Yz N A c vE vB l n s x y w H hn F _ rfl ⟨a.toArray⟩ ⟨b.toArray⟩ q true h2 jO).mono λe w' ⟨e1,p1,o1⟩=>⟨o1,.inr ⟨a,b,q,h1,by omega,e1,p1⟩⟩
end
section
open Go.RowKit Utf Go.Shelf
open Mbx (S take) in
def Lst.ang (l:List S):Option (List UInt8 × Lst.Box × Nat) :=
 if (l.drop (Lst.len l)).head? = some (2,[60]) then
  match take (l.drop (Lst.len l+1)) with
  | none=>none
  | some (x,y,n)=>if (l.drop (Lst.len l+1+n)).head? = some (2,[62]) then some (Lst.name l,(x,y),Lst.len l+n+2+Mbx.skip (l.drop (Lst.len l+n+2))) else none
 else none
theorem Lst.Age {l:List Mbx.S} (h:Mbx.take l=none):Lst.box l=Lst.ang l:=by unfold Lst.box;rw [h];rfl
theorem Lst.Au8 {l:List Mbx.S} {a b:List UInt8} {q:Nat} (h:Mbx.take l=some (a,b,q)):Lst.box l=some ([],(a,b),q):=by unfold Lst.box;rw [h]
def Vo (N:Nat) (vT vE vB:Value) (l:List Mbx.S) (n:Nat) (T:Option (List UInt8 × Lst.Box × Nat)) (w:World) (e:Ending) (w':World):Prop :=
 Ay N w w'/\((T=none/\e=.returned (.bool false)/\∃ n' s' x' y',Au N vT vE vB l n' s' x' y' w') \/
  ∃ nm a b k,T=some (nm,(a,b),k)/\n+k<=l.length/\e=.returned (.bool true)/\Au N vT vE vB l (n+k) ⟨nm.toArray⟩ ⟨a.toArray⟩ ⟨b.toArray⟩ w')
theorem Af5 (N:Nat) (vT vE vB:Value) (l:List Mbx.S) (n:Nat) (s x y:ByteArray) (w:World) (H:Au N vT vE vB l n s x y w) (hn:n<=l.length) (F:Sml l) :
  Calls prog 131 #[.pointer (some ⟨N,0,none⟩)] w (Vo N vT vE vB l n (Lst.ang (l.drop n)) w):=by
 have hf:=Lst.Apb (l.drop n);rw [jaj] at hf;have HF:=jH F;have K1:=jH (U6 N vT vE vB l n s x y w H hn F);obtain ⟨T,hT⟩:∃ T,T=Lst.ang (l.drop n):=⟨_,rfl⟩
 rw [<- hT];unfold Lst.ang at hT;rw [List.drop_drop,List.drop_drop] at hT;generalize Lst.len (l.drop n)=m at hf K1 hT;generalize Lst.name (l.drop n)=nm at K1 hT;clear F H;have hm:n+m<=l.length:=jO
 have K2:=λW x y (h:Au N vT vE vB l (n+m) ⟨nm.toArray⟩ x y W)=>Hc N vT vE vB l (n+m) ⟨nm.toArray⟩ x y W h hm HF.out [60] ⟨#[60]⟩ rfl;cases b0:Mbx.isS l (n+m) [60]
 ·have E:=jH (show T=none by rw [hT,if_neg (by rw [Lst.Dn,b0];decide)]);simp only [b0] at K2;have K2:=jH K2;clear hT b0;go_enter func131,ntmps131;go_wp2_with fail;refine K1.out.mono ?_;rintro e w1 ⟨rfl,h1,o1⟩;go_wp2_with fail;refine (K2.out w1 _ _ h1).mono ?_;rintro e w2 ⟨rfl,h2,o2⟩;have P2:=jH h2;have O2:=jH (o1.trans o2);clear h1 o1 h2 o2;go_wp2;go_ret;exact ⟨O2.out,.inl ⟨E.out,rfl,_,_,_,_,P2.out⟩⟩
 obtain ⟨hlt,-⟩:=Mbx.Fc b0;rw [if_pos (by rw [Lst.Dn,b0])] at hT;simp only [b0,if_true] at K2;have K2:=jH K2;have K3:=jH (λW x y (h:Au N vT vE vB l (n+m+1) ⟨nm.toArray⟩ x y W)=>Y3 N vT vE vB l (n+m+1) ⟨nm.toArray⟩ x y W h jO HF.out);rw [show n+(m+1)=n+m+1 by omega] at hT;cases ht:Mbx.take (l.drop (n+m+1)) with
 | none =>
  rw [ht] at hT;have E:=jH hT;simp only [ht] at K3;have K3:=jH K3.out;clear hT ht b0;go_enter func131,ntmps131;go_wp2_with fail;refine K1.out.mono ?_;rintro e w1 ⟨rfl,h1,o1⟩;go_wp2_with fail;refine (K2.out w1 _ _ h1).mono ?_;rintro e w2 ⟨rfl,h2,o2⟩;have O2:=jH (o1.trans o2);go_wp2_with fail;refine (K3.out w2 _ _ h2).mono ?_;rintro e w3 ⟨o3,⟨-,rfl,h3⟩ | ⟨a,b,q,h,-⟩⟩
  ·have P3:=jH h3;have O3:=jH (O2.out.trans o3);clear h1 o1 h2 o2 h3 o3;go_wp2;go_ret;exact ⟨O3.out,.inl ⟨E.out,rfl,_,_,_,_,P3.out⟩⟩
  ·cases h
 | some p =>
  obtain ⟨a,b,q⟩:=p;rw [ht] at hT;simp only at hT;have hq:=(Mbx.take_len ht).2;rw [jaj] at hq;have hq2:n+m+1+q<=l.length:=jO
  simp only [ht] at K3;have K3:=jH K3.out;have K4:=λW (h:Au N vT vE vB l (n+m+1+q) ⟨nm.toArray⟩ ⟨a.toArray⟩ ⟨b.toArray⟩ W)=>Hc N vT vE vB l (n+m+1+q) ⟨nm.toArray⟩ ⟨a.toArray⟩ ⟨b.toArray⟩ W h hq2 HF.out [62] ⟨#[62]⟩ rfl;rw [List.drop_drop,show n+(m+1+q)=n+m+1+q by omega] at hT;cases b1:Mbx.isS l (n+m+1+q) [62]
  ·have E:=jH (show T=none by rw [hT,if_neg (by rw [Lst.Dn,b1];decide)]);simp only [b1] at K4;have K4:=jH K4;clear hT ht b0 b1;go_enter func131,ntmps131;go_wp2_with fail;refine K1.out.mono ?_;rintro e w1 ⟨rfl,h1,o1⟩;go_wp2_with fail;refine (K2.out w1 _ _ h1).mono ?_;rintro e w2 ⟨rfl,h2,o2⟩;have O2:=jH (o1.trans o2);go_wp2_with fail;refine (K3.out w2 _ _ h2).mono ?_;rintro e w3 ⟨o3,⟨h,-⟩ | ⟨a',b',q',h,-,rfl,h3⟩⟩
   · cases h
   injection h with h;injection h with e1 h;injection h with e2 e3
   subst e1 e2 e3;have O3:=jH (O2.out.trans o3);go_wp2_with fail;refine (K4.out w3 h3).mono ?_;rintro e w4 ⟨rfl,h4,o4⟩;have P4:=jH h4;have O4:=jH (O3.out.trans o4);clear h1 o1 h2 o2 h3 o3 h4 o4;go_wp2;go_ret;exact ⟨O4.out,.inl ⟨E.out,rfl,_,_,_,_,P4.out⟩⟩
  ·obtain ⟨hlt2,-⟩:=Mbx.Fc b1;rw [if_pos (by rw [Lst.Dn,b1]),List.drop_drop,show n+(m+q+2)=n+m+1+q+1 by omega] at hT;simp only [b1,if_true] at K4;have K4:=jH K4;have K5:=λW (h:Au N vT vE vB l (n+m+1+q+1) ⟨nm.toArray⟩ ⟨a.toArray⟩ ⟨b.toArray⟩ W)=>F9 N vT vE vB l (n+m+1+q+1) ⟨nm.toArray⟩ ⟨a.toArray⟩ ⟨b.toArray⟩ W h jO HF.out;have hs:=Mbx.Ky (l:=l) (n:=n+m+1+q+1) jO;generalize hk:Mbx.skip (l.drop (n+m+1+q+1))=k at hT K5 hs;have K5:=jH K5;have E:=jH hT;clear hT ht b0 b1 hk;go_enter func131,ntmps131;go_wp2_with fail;refine K1.out.mono ?_;rintro e w1 ⟨rfl,h1,o1⟩;go_wp2_with fail;refine (K2.out w1 _ _ h1).mono ?_;rintro e w2 ⟨rfl,h2,o2⟩;have O2:=jH (o1.trans o2);go_wp2_with fail;refine (K3.out w2 _ _ h2).mono ?_;rintro e w3 ⟨o3,⟨h,-⟩ | ⟨a',b',q',h,-,rfl,h3⟩⟩
   · cases h
   injection h with h;injection h with e1 h;injection h with e2 e3
   subst e1 e2 e3;have O3:=jH (O2.out.trans o3);go_wp2_with fail;refine (K4.out w3 h3).mono ?_;rintro e w4 ⟨rfl,h4,o4⟩;have O4:=jH (O3.out.trans o4);go_wp2_with fail;refine (K5.out w4 h4).mono ?_;rintro e w5 ⟨rfl,h5,o5⟩;have P5:=jH h5;have O5:=jH (O4.out.trans o5);clear h1 o1 h2 o2 h3 o3 h4 o4 h5 o5;go_wp2;go_ret;refine ⟨O5.out,.inr ⟨nm,a,b,_,E.out,by omega,rfl,?_⟩⟩;have:=P5.out;rwa [show n+m+1+q+1+k=n+(m+q+2+k) by omega] at this
theorem Xi (N g f0 f1 n:Nat) (Q Mid Mid2:World->Prop) (w:World) (c1:w.cell? ⟨N,1,none⟩=some (.int .i64 n)) (g0:w.cell? ⟨g,0,none⟩=some (.func (.func f0) #[.pointer (some ⟨N,0,none⟩)] #[])) (e0:∀ args w,(callFunc f0 args).run prog w=.ok (.enter f0 args) w) (e1:∀ args w,(callFunc f1 args).run prog w=.ok (.enter f1 args) w)
  (h0:Calls prog f0 #[.pointer (some ⟨N,0,none⟩)] w λe w'=>(e=.returned (.bool true)/\Q w')\/(e=.returned (.bool false)/\Mid w'))
  (hM:∀ W,Mid W->W.cell? ⟨g,1,none⟩=some (.func (.func f1) #[.pointer (some ⟨N,0,none⟩)] #[])/\g ≠ N/\(∃ m,W.cell? ⟨N,1,none⟩=some (.int .i64 m))/\W.frozen? ⟨N,1,none⟩=false)
  (h1:∀ W,Mid W->Calls prog f1 #[.pointer (some ⟨N,0,none⟩)] (W.setCell ⟨N,1,none⟩ (.int .i64 n)) λe w'=>(e=.returned (.bool true)/\Q w')\/(e=.returned (.bool false)/\Mid2 w'))
  (hM2:∀ W,Mid2 W->(∃ m,W.cell? ⟨N,1,none⟩=some (.int .i64 m))/\W.frozen? ⟨N,1,none⟩=false) :
  Calls prog 61 #[.pointer (some ⟨N,0,none⟩),.slice (some ⟨g,0,none⟩) 2 2] w λe w'=>(e=.returned (.bool true)/\Q w')\/(e=.returned (.bool false)/\∃ W,Mid2 W/\w'=W.setCell ⟨N,1,none⟩ (.int .i64 n)):=by
 have H0:=jH h0;have HM:=jH hM;have H1:=jH h1;have HM2:=jH hM2;have G0:=jH g0;clear h0 hM h1 hM2 g0;go_enter func61,ntmps61;go_wp2;clear c1;go_loopg [7,14] 3 (λgk _ s14 wr=>(s14=.int .i64 0/\2<gk/\Hid (w=wr))\/(s14=.int .i64 1/\1<gk/\∃ W,Hid (Mid W)/\Hid (wr=W.setCell ⟨N,1,none⟩ (.int .i64 n)))\/(s14=.int .i64 2/\0<gk/\∃ W,Hid (Mid2 W)/\Hid (wr=W.setCell ⟨N,1,none⟩ (.int .i64 n))))
 case atStart=>exact .inl ⟨rfl,by omega,rfl⟩
 case round =>
  rcases hrel with ⟨rfl,hg,E⟩ | ⟨rfl,hg,W,M,E⟩ | ⟨rfl,hg,W,M,E⟩
  ·have e:=E.out;subst e;have g0:=G0.out;clear E;go_wp2_with fail;refine H0.out.mono ?_;rintro e w1 (⟨rfl,hq⟩ | ⟨rfl,hm⟩)
   ·have HQ:=jH hq;clear hq;go_wp2;go_ret;exact .inl ⟨rfl,HQ.out⟩
   ·obtain ⟨-,-,⟨m,d1⟩,f1⟩:=HM.out w1 hm;have M1:=jH hm;clear hm g0;go_wp2;go_roundg 2
    case measure=>omega
    case rel=>exact .inr (.inl ⟨rfl,by omega,w1,M1.out,rfl⟩)
  ·have e:=E.out;subst e;obtain ⟨g1,hne,-,-⟩:=HM.out W M.out;have g1':(W.setCell ⟨N,1,none⟩ (.int .i64 n)).cell? ⟨g,1,none⟩=some (.func (.func f1) #[.pointer (some ⟨N,0,none⟩)] #[]):=(World.cell?_of_block (w:=W) (Below.heap_setCell _ _ _ _ hne)).trans g1;have K:=jH (H1.out W M.out);obtain ⟨V,hV⟩:∃ V,V=W.setCell ⟨N,1,none⟩ (.int .i64 n):=⟨_,rfl⟩
   rw [<- hV] at g1' K ⊢;clear E g1 hV;go_wp2_with fail;refine K.out.mono ?_;rintro e w1 (⟨rfl,hq⟩ | ⟨rfl,hm⟩)
   ·have HQ:=jH hq;clear hq;go_wp2;go_ret;exact .inl ⟨rfl,HQ.out⟩
   ·obtain ⟨⟨m,d1⟩,f1⟩:=HM2.out w1 hm;have M1:=jH hm;clear hm g1';go_wp2;go_roundg 1
    case measure=>omega
    case rel=>exact .inr (.inr ⟨rfl,by omega,w1,M1.out,rfl⟩)
  ·go_wp2;go_ret;exact .inr ⟨rfl,W,M.out,E.out⟩
theorem Rm (N:Nat) (vT vE vB:Value) (l:List Mbx.S) (n:Nat) (s x y:ByteArray) (w:World) (H:Au N vT vE vB l n s x y w) (hn:n<=l.length) (F:Sml l) :
  Calls prog 96 #[.pointer (some ⟨N,0,none⟩)] w (Vo N vT vE vB l n (Lst.box (l.drop n)) w):=by
 have hNw:=H.lt;obtain ⟨W1,hW1⟩:∃ W1,W1=(w.setCell ⟨N,3,none⟩ (.string ⟨#[]⟩)).alloc (.cells #[.func (.func 130) #[.pointer (some ⟨N,0,none⟩)] #[],.func (.func 131) #[.pointer (some ⟨N,0,none⟩)] #[]] 23):=⟨_,rfl⟩
 have hsz:(w.setCell ⟨N,3,none⟩ (.string ⟨#[]⟩)).heap.size=w.heap.size:=by simp [World.setCell]
 have P1:Au N vT vE vB l n ⟨#[]⟩ x y W1:=by rw [hW1];exact (H.R9 ⟨#[]⟩).Ae (Ac _ _)
 have O1:Ay N w W1:=by rw [hW1];exact ((Ay.refl N w).set 3 _).then ((Ac _ _).mono (Nat.le_of_eq hsz.symm))
 have g0:W1.cell? ⟨w.heap.size,0,none⟩=some (.func (.func 130) #[.pointer (some ⟨N,0,none⟩)] #[]):=by rw [hW1,World.cell?_alloc_at _ _ _ _ hsz.symm];rfl
 have g1:W1.cell? ⟨w.heap.size,1,none⟩=some (.func (.func 131) #[.pointer (some ⟨N,0,none⟩)] #[]):=by rw [hW1,World.cell?_alloc_at _ _ _ _ hsz.symm];rfl
 have hg:w.heap.size<W1.heap.size:=by rw [hW1,World.size_alloc,hsz];omega
 have K:=Xi N w.heap.size 130 131 n
  (λW=>Ay N W1 W/\∃ nm a b k,Lst.box (l.drop n)=some (nm,(a,b),k)/\n+k<=l.length/\Au N vT vE vB l (n+k) ⟨nm.toArray⟩ ⟨a.toArray⟩ ⟨b.toArray⟩ W)
  (λW=>Ay N W1 W/\Mbx.take (l.drop n)=none/\∃ n' s' x' y',Au N vT vE vB l n' s' x' y' W)
  (λW=>Ay N W1 W/\Lst.box (l.drop n)=none/\∃ n' s' x' y',Au N vT vE vB l n' s' x' y' W)
  W1 P1.all.2.1 g0 (enters_of func130 jK rfl) (enters_of func131 jK rfl)
  ((
   Y3 N vT vE vB l n ⟨#[]⟩ x y W1 P1 hn F).mono λe W ⟨o,h⟩=>by
   rcases h with ⟨h1,h2,h3⟩ | ⟨a,b,q,h1,h2,h3,h4⟩
   · exact .inr ⟨h2,o,h1,_,_,_,_,h3⟩
   · exact .inl ⟨h3,o,[],a,b,q,Lst.Au8 h1,h2,h4⟩)
  (λW ⟨o,_,n',s',x',y',p⟩=>⟨(World.cell?_of_block (w:=W1) (o.block w.heap.size hg (Nat.ne_of_gt hNw))).trans g1,by omega,⟨_,p.all.2.1⟩,p.fr 1⟩)
  (λW ⟨o,h,n',s',x',y',p⟩=>(Af5 N vT vE vB l n s' x' y' _ (p.Qc n) hn F).mono λe V ⟨o2,h2⟩=>by
   have o3:=(o.set 1 (.int .i64 n)).trans o2;rcases h2 with ⟨h2,h3,h4⟩ | ⟨nm,a,b,k,h2,h3,h4,h5⟩
   · exact .inr ⟨h3,o3,(Lst.Age h).trans h2,h4⟩
   · exact .inl ⟨h4,o3,nm,a,b,k,(Lst.Age h).trans h2,h3,h5⟩)
  (λW ⟨_,_,n',s',x',y',p⟩=>⟨⟨_,p.all.2.1⟩,p.fr 1⟩)
 have K:=jH K;have HW1:=jH hW1.symm;have HO:=jH O1;obtain ⟨-,-,-,c3,-⟩:=H.all;have f3:=H.fr 3;clear hW1 P1 O1 g0 g1 H hg hsz;go_enter func96,ntmps96;go_wp2_with fail;rw [HW1.out];refine K.out.mono ?_;rintro e w2 (⟨rfl,o,nm,a,b,k,h1,h2,h3⟩ | ⟨rfl,W,⟨o,h1,n',s',x',y',p⟩,rfl⟩)
 ·have R:Hid (Vo N vT vE vB l n (Lst.box (l.drop n)) w (.returned (.bool true)) w2):=jH ⟨HO.out.trans o,.inr ⟨nm,a,b,k,h1,h2,rfl,h3⟩⟩;clear o h1 h2 h3;go_wp2;go_ret;exact R.out
 ·have R:Hid (Vo N vT vE vB l n (Lst.box (l.drop n)) w (.returned (.bool false)) (W.setCell ⟨N,1,none⟩ (.int .i64 n))):=jH ⟨(HO.out.trans o).set 1 _,.inl ⟨h1,rfl,_,_,_,_,p.Qc n⟩⟩;clear o h1 p;go_wp2;go_ret;exact R.out
theorem Qx (N f:Nat) (St Mid:Nat->World->Prop) (Bad Done:World->Prop) (g0:Nat) (w:World) (h0:St g0 w) (ef:∀ args w,(callFunc f args).run prog w=.ok (.enter f args) w)
  (hs:∀ g W,St g W->Calls prog f #[.pointer (some ⟨N,0,none⟩)] W λe W'=>(e=.returned (.bool true)/\Mid g W')\/(e=.returned (.bool false)/\Bad W'))
  (hc:∀ g W,Mid g W->Calls prog 60 #[.pointer (some ⟨N,0,none⟩),.string ⟨#[44]⟩] W λe W'=>(e=.returned (.bool true)/\∃ k,k<g/\St k W')\/(e=.returned (.bool false)/\Done W')) :
  Calls prog 39 #[.pointer (some ⟨N,0,none⟩),.func (.func f) #[.pointer (some ⟨N,0,none⟩)] #[]] w λe w'=>(e=.returned (.bool true)/\Done w')\/(e=.returned (.bool false)/\Bad w'):=by
 have H0:=jH h0;have HS:=jH hs;have HC:=jH hc;clear h0 hs hc;go_enter func39,ntmps39;go_wp2;go_loopg [5] (g0+1) (λgk _ wr=>∃ g,g<gk/\Hid (St g wr))
 case atStart=>exact ⟨g0,by omega,H0.out⟩
 case round =>
  obtain ⟨g,hg,I⟩:=hrel;have K:=jH (HS.out g wr I.out);go_wp2_with fail;refine K.out.mono ?_;rintro e w1 (⟨rfl,hm⟩ | ⟨rfl,hb⟩)
  ·have K2:=jH (HC.out g w1 hm);clear hm;go_wp2_with fail;refine K2.out.mono ?_;rintro e w2 (⟨rfl,k,hk,hst⟩ | ⟨rfl,hd⟩)
   ·have I2:=jH hst;clear hst;go_wp2;go_roundg g
    case measure=>omega
    case rel=>exact ⟨k,hk,I2.out⟩
   ·have D:=jH hd;clear hd;go_wp2;go_ret;exact .inl ⟨rfl,D.out⟩
  ·have B:=jH hb;clear hb;go_wp2;go_ret;exact .inr ⟨rfl,B.out⟩
end
section
open Go.RowKit Utf Go.Shelf
attribute [local go_sem] Fe
theorem Au.upto {N n S:Nat} {vT vE vB:Value} {l:List Mbx.S} {s x y:ByteArray} {w w':World} (H:Au N vT vE vB l n s x y w) (hb:Below S w w') (hS:N<S):Au N vT vE vB l n s x y w':=H.kept λk hk=>hb.block k jO
theorem Aif (N S:Nat) (vT vE vB:Value) (l:List Mbx.S) (n:Nat) (s x y:ByteArray) (bs:List Lst.Box) (w:World) (H:Au N vT vE vB l n s x y w) (hn:n<=l.length) (F:Sml l) (hX:Dl S vB bs w) (hNS:N<S) (hS:S<=w.heap.size) (hbs:bs.length<=100000) :
  Calls prog 133 #[.pointer (some ⟨N,0,none⟩)] w λe w' =>
   (e=.returned (.bool true)/\∃ nm m k vB' s' x' y',Lst.box (l.drop n)=some (nm,m,k)/\n+k<=l.length/\Au N vT vE vB' l (n+k) s' x' y' w'/\Dl S vB' (bs ++ [m]) w'/\C9 N S w w') \/
   (e=.returned (.bool false)/\Lst.box (l.drop n)=none/\(∃ n' s' x' y',Au N vT vE vB l n' s' x' y' w')/\Ay N w w'):=by
 have K:=jH (Rm N vT vE vB l n s x y w H hn F);have HX:=jH hX;have hNw:=H.lt;clear H F hX;go_enter func133,ntmps133;go_wp2_with fail;refine K.out.mono ?_;rintro e w1 ⟨o,⟨h1,rfl,h2⟩ | ⟨nm,a,b,k,h1,hk,rfl,h2⟩⟩
 ·have R:=jH (And.intro h1 (And.intro h2 o));clear h1 h2 o;go_wp2;go_ret;exact .inr ⟨rfl,R.out⟩
 ·have X1:=jH (Kw HX.out o jO);have hs1:=Nat.le_trans hS o.size;have P1:=jH h2;obtain ⟨-,-,-,-,c4,c5,c6⟩:=h2.all;have k6:=((Ac w1 (.cells #[.string ⟨a.toArray⟩,.string ⟨b.toArray⟩] 28)).cell (p:=⟨N,6,none⟩) h2.lt).trans c6;have E1:=jH h1;have O1:=jH o;clear h1 h2 o K;go_wp2;go_region_law ((refine Mp w1.drew S _ bs (World.ownsRow.drew X1.out) hs1 jO (a,b) _ rfl rfl _ _ rfl rfl rfl ?_;intro v2 w2 ho2 hb2 _;obtain ⟨A2,d2,rfl,-,-⟩:=ho2.Azg;have X2:=jH (show Dl S (.slice A2 (bs.length+1) d2) (bs ++ [(a,b)]) w2 by (rw [show bs.length+1=(bs ++ [(a,b)]).length by simp];exact ho2));have B2:=jH (show Below S w1 w2 from (jan S w1).drew.trans hb2);have P2:=P1.out.upto B2.out hNS;obtain ⟨-,-,-,-,-,-,d6⟩:=P2.all;have f6:=P2.fr 6;have PP2:=jH P2;clear ho2 hb2 P2))
  all_goals
   go_wp2;go_ret;refine .inl ⟨rfl,nm,(a,b),k,_,_,_,_,E1.out,hk,PP2.out.A2o _,?_,((C9.Jw O1.out hS).trans (C9.Ch B2.out)).set 6 _⟩;exact Kw X2.out ((Ay.refl N w2).set 6 _) hNS
def Aoh (N S:Nat) (vT vE:Value) (l:List Mbx.S) (R:Option (List Lst.Box × Nat)) (w w':World):Prop :=
 C9 N S w w'/\∃ n' vB' s' x' y' bs',n'<=l.length/\Au N vT vE vB' l n' s' x' y' w'/\Dl S vB' bs' w'/\S<=w'.heap.size/\((Mbx.isS l n' [59]=true/\R=some (bs',n'+1))\/(Mbx.isS l n' [59]=false/\R=none))
theorem Lst.Aqj {f:Nat} {l:List Mbx.S} {nm:List UInt8} {m:Lst.Box} {k:Nat} (h:Lst.box l=some (nm,m,k)):Lst.boxes (f+1) l=if (l.drop k).head? = some (2,[59]) then some ([m],k+1) else if (l.drop k).head? = some (2,[44]) then (match Lst.boxes f (l.drop (k+1)) with | none=>none | some (r,j)=>some (m::r,k+1+j)) else none:=by rw [Lst.boxes,h];rfl
theorem Az3 {l:List Mbx.S} {n:Nat} {t u:List UInt8} (h:Mbx.isS l n t=true) (hne:t ≠ u):Mbx.isS l n u=false:=by
 obtain ⟨hn,e⟩:=Mbx.Fc h;cases h2:Mbx.isS l n u with
 | false=>rfl
 | true =>
  obtain ⟨_,e2⟩:=Mbx.Fc h2;rw [e] at e2;injection e2 with _ e2
  exact absurd e2 hne
theorem Ax4 (N S:Nat) (vT vE vB:Value) (l:List Mbx.S) (n:Nat) (s x y:ByteArray) (f:Nat) (w:World) (H:Au N vT vE vB l n s x y w) (hn:n<=l.length) (F:Sml l) (hX:Dl S vB [] w) (hNS:N<S) (hS:S<=w.heap.size) (hf:l.length - n<f) :
  Calls prog 39 #[.pointer (some ⟨N,0,none⟩),.func (.func 133) #[.pointer (some ⟨N,0,none⟩)] #[]] w λe w' =>
   (e=.returned (.bool true)/\Aoh N S vT vE l ((Lst.boxes f (l.drop n)).map λp=>(p.1,n+p.2)) w w')\/(e=.returned (.bool false)/\Lst.boxes f (l.drop n)=none/\C9 N S w w'/\∃ n' vB' s' x' y',Au N vT vE vB' l n' s' x' y' w'):=by
 have hl:=F.len;obtain ⟨R,hR⟩:∃ R,R=(Lst.boxes f (l.drop n)).map λp=>(p.1,n+p.2):=⟨_,rfl⟩
 have hRn:R=none ↔ Lst.boxes f (l.drop n)=none:=by rw [hR];exact Option.map_eq_none_iff
 rw [<- hRn,<- hR];refine Qx N 133
  (λg W=>∃ n' vB' s' x' y' bs',n'<=l.length/\g=l.length - n'/\Au N vT vE vB' l n' s' x' y' W/\Dl S vB' bs' W/\C9 N S w W/\S<=W.heap.size/\bs'.length<=n'/\∃ f',l.length - n'<f'/\((Lst.boxes f' (l.drop n')).map λp=>(bs' ++ p.1,n'+p.2))=R)
  (λg W=>∃ n' vB' s' x' y' bs',n'<=l.length/\l.length - n'<=g/\Au N vT vE vB' l n' s' x' y' W/\Dl S vB' bs' W/\C9 N S w W/\S<=W.heap.size/\bs'.length<=n'+1/\∃ f',l.length - n'<=f'/\(if Mbx.isS l n' [59]=true then some (bs',n'+1) else if Mbx.isS l n' [44]=true then (Lst.boxes f' (l.drop (n'+1))).map λp=>(bs' ++ p.1,n'+1+p.2) else none)=R)
  (λW=>R=none/\C9 N S w W/\∃ n' vB' s' x' y',Au N vT vE vB' l n' s' x' y' W)
  (λW=>Aoh N S vT vE l R w W)
  (l.length - n) w ⟨n,vB,s,x,y,[],hn,rfl,H,hX,C9.refl _ _ _,hS,Nat.zero_le _,f,hf,by rw [hR];rfl⟩ (enters_of func133 jK rfl) ?_ ?_
 ·rintro g W ⟨n',vB',s',x',y',bs',h1,rfl,h2,h3,h4,h5,h6,f',h7,h8⟩;refine (Aif N S vT vE vB' l n' s' x' y' bs' W h2 h1 F h3 hNS h5 jO).mono ?_;obtain ⟨f'',rfl⟩:∃ q,f'=q+1:=⟨f' - 1,by omega⟩
  rintro e V (⟨rfl,nm,m,k,vB2,s2,x2,y2,k1,k2,k3,k4,k5⟩ | ⟨rfl,k1,⟨n2,s2,x2,y2,k2⟩,k3⟩)
  ·refine .inl ⟨rfl,n'+k,vB2,s2,x2,y2,_,k2,by omega,k3,k4,h4.trans k5,Nat.le_trans h5 k5.size,by simp;omega,f'',by omega,?_⟩;rw [<- h8,Lst.Aqj k1,List.drop_drop,List.drop_drop];by_cases e1:Mbx.isS l (n'+k) [59]=true
   ·rw [if_pos e1,if_pos (Lst.Dn.2 e1)];rfl
   ·rw [if_neg e1,if_neg (λh=>e1 (Lst.Dn.1 h))];by_cases e2:Mbx.isS l (n'+k) [44]=true
    ·rw [if_pos e2,if_pos (Lst.Dn.2 e2),show n'+(k+1)=n'+k+1 by omega];cases Lst.boxes f'' (l.drop (n'+k+1)) with
     | none=>rfl
     | some p =>
      obtain ⟨r,j⟩:=p;simp only [Option.map_some,jaq,List.singleton_append];congr 2;omega
    ·rw [if_neg e2,if_neg (λh=>e2 (Lst.Dn.1 h))];rfl
  ·refine .inr ⟨rfl,?_,h4.trans (C9.Jw k3 h5),_,_,_,_,_,k2⟩;rw [<- h8,Lst.boxes,k1];rfl
 ·rintro g W ⟨n',vB',s',x',y',bs',h1,hg,h2,h3,h4,h5,h6,f',h7,h8⟩;refine (Hc N vT vE vB' l n' s' x' y' W h2 h1 F [44] ⟨#[44]⟩ rfl).mono ?_;rintro e V ⟨rfl,k1,k2⟩;have k3:=Kw h3 k2 jO;have k4:=h4.trans (C9.Jw k2 h5);cases e2:Mbx.isS l n' [44]
  ·rw [e2,if_neg jD] at k1;refine .inr ⟨rfl,k4,n',vB',s',x',y',bs',h1,k1,k3,Nat.le_trans h5 k2.size,?_⟩;cases e1:Mbx.isS l n' [59]
   ·rw [e1,if_neg jD,e2,if_neg jD] at h8;exact .inr ⟨rfl,h8.symm⟩
   ·rw [e1,if_pos rfl] at h8;exact .inl ⟨rfl,h8.symm⟩
  ·obtain ⟨hlt,-⟩:=Mbx.Fc e2;rw [Az3 e2 jD,if_neg jD,e2,if_pos rfl] at h8;rw [e2,if_pos rfl] at k1;exact .inl ⟨rfl,l.length - (n'+1),by omega,n'+1,vB',s',x',y',bs',by omega,rfl,k1,k3,k4,Nat.le_trans h5 k2.size,by omega,f',by omega,h8⟩
end
