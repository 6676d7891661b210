import Derived.Test.YtipkfalbepiphaaGreatDoorCtxAll
import Derived.Deep.DeepCutAuto
set_option maxRecDepth 100000
set_option maxHeartbeats 8000000
namespace Go.Proofs.YtipkfalbepiphaaGreatDoor
open Tryz
section
open Go.RowKit
namespace Ctx
theorem Ej (l:List Int) (k:Nat) (h:k<l.length):l.drop k=l[k]!::l.drop (k+1):=by
 rw [getElem!_pos l k h];exact List.drop_eq_getElem_cons h
end Ctx
end
section
open Go.RowKit
namespace Ctx
end Ctx
end
section
open Go.RowKit
end
section
open Go.RowKit
def isKind (d:Int):Bool:=d == 8204 || d == 8205 || d == 183 || d == 885 || d == 1523 || d == 12539 || d == 1632 || d == 1776
def Iq (l:List Int) (k:Nat) (d:Int):Bool :=
 if d=8205 then Ctx.Ir l k else if d=8204 then Ctx.Ir l k || Ctx.Uo l k
 else if d=183 then Ctx.at0 l ((k:Int) - 1) == 108 && Ctx.at0 l ((k:Int)+1) == 108
 else if d=885 then Ax (Ctx.at0 l ((k:Int)+1)) == 2
 else if d=1523 then Ax (Ctx.at0 l ((k:Int) - 1)) == 4
 else if d=12539 then Ctx.Na l
 else if d=1632 then !Ctx.Dg l 1776 1785 else !Ctx.Dg l 1632 1641
theorem Ju (r:Int):(r=1524/\kindOf r=1523)\/(r ≠ 1524/\1632<=r/\r<=1641/\kindOf r=1632)\/(r ≠ 1524/\1776<=r/\r<=1785/\kindOf r=1776)\/(r ≠ 1524/\¬ (1632<=r/\r<=1641)/\¬ (1776<=r/\r<=1785)/\kindOf r=r):=by
 unfold kindOf;by_cases h1:r=1524
 ·exact .inl ⟨h1,by rw [if_pos h1]⟩
 ·rw [if_neg h1];by_cases h2:1632<=r/\r<=1641
  ·exact .inr (.inl ⟨h1,h2.1,h2.2,by rw [if_pos h2]⟩)
  ·rw [if_neg h2];by_cases h3:1776<=r/\r<=1785
   · exact .inr (.inr (.inl ⟨h1,h3.1,h3.2,by rw [if_pos h3]⟩))
   · exact .inr (.inr (.inr ⟨h1,h2,h3,by rw [if_neg h3]⟩))
theorem Qw (r:Int):Ctx.Ci r=isKind (kindOf r):=by
 rw [Bool.eq_iff_iff];unfold Ctx.Ci isKind;rcases Ju r with ⟨rfl,h⟩ | ⟨h1,h2,h3,h⟩ | ⟨h1,h2,h3,h⟩ | ⟨h1,h2,h3,h⟩<;>rw [h]
 ·decide
 ·simp [h2,h3]
 ·simp [h2,h3]
 ·simp only [Bool.or_eq_true,jag,beq_iff_eq,decide_eq_true_eq];omega
theorem Az2 (l:List Int) (k:Nat) (hn:Ctx.Ci l[k]! = true):Ctx.met l k=Iq l k (kindOf l[k]!):=by
 rw [Qw] at hn;unfold Ctx.met Iq;generalize l[k]! = r at hn ⊢;rcases Ju r with ⟨rfl,h⟩ | ⟨h1,h2,h3,h⟩ | ⟨h1,h2,h3,h⟩ | ⟨h1,h2,h3,h⟩
 ·rw [h];rfl
 ·rw [h,if_neg (show ¬ r=8205 by omega),if_neg (show ¬ r=8204 by omega),if_neg (show ¬ r=183 by omega),if_neg (show ¬ r=885 by omega),if_neg (show ¬ (r=1523\/r=1524) by omega),if_neg (show ¬ r=12539 by omega),if_pos (show r<1700 by omega)];rfl
 ·rw [h,if_neg (show ¬ r=8205 by omega),if_neg (show ¬ r=8204 by omega),if_neg (show ¬ r=183 by omega),if_neg (show ¬ r=885 by omega),if_neg (show ¬ (r=1523\/r=1524) by omega),if_neg (show ¬ r=12539 by omega),if_neg (show ¬ r<1700 by omega)];rfl
 ·rw [h] at hn ⊢;unfold isKind at hn;simp only [Bool.or_eq_true,beq_iff_eq] at hn;have hc:r=8204\/r=8205\/r=183\/r=885\/r=1523\/r=12539:=jO
  rcases hc with rfl | rfl | rfl | rfl | rfl | rfl<;>rfl
structure It (B g c1 c2 c3:Nat) (t v:Value) (l:List Int) (w0 w:World):Prop where
 below:Below B w0 w
 base:B=w0.heap.size
 row:E6 g t v l w0
 o1:B<c1
 o2:c1+2<c2
 o3:c2+2<c3
 rules:Aqq B g c1 c2 c3 w
 q1:Ea c1 g 335 (Ctx.Na l) w
 q2:Ea c2 g 336 (!Ctx.Dg l 1776 1785) w
 q3:Ea c3 g 337 (!Ctx.Dg l 1632 1641) w
section
variable {B g c1 c2 c3:Nat} {t v:Value} {l:List Int} {w0 w w':World}
theorem It.lt (h:It B g c1 c2 c3 t v l w0 w):B<w.heap.size:=(Array.getElem?_eq_some_iff.1 h.rules).1
theorem It.Ac (h:It B g c1 c2 c3 t v l w0 w) (hb:Below w.heap.size w w'):It B g c1 c2 c3 t v l w0 w' :=
 ⟨h.below.trans (hb.mono (Nat.le_of_lt h.lt)),h.base,h.row,h.o1,h.o2,h.o3,(hb.block _ h.lt).trans h.rules,h.q1.Ac hb,h.q2.Ac hb,h.q3.Ac hb⟩
theorem It.now (h:It B g c1 c2 c3 t v l w0 w):E6 g t v l w:=h.row.Ac (by have:=h.below;rwa [h.base] at this)
theorem It.all (h:It B g c1 c2 c3 t v l w0 w):Below w0.heap.size w0 w:=by have:=h.below;rwa [h.base] at this
theorem It.asked (h:It B g c1 c2 c3 t v l w0 w) {c:Nat} (hc:c=c1\/c=c2\/c=c3) (hb:Below c w w') (hs:∀ j,c+2<j->j<w.heap.size->w'.heap[j]? = w.heap[j]?)
  (h1:c=c1->Ea c1 g 335 (Ctx.Na l) w') (h2:c=c2->Ea c2 g 336 (!Ctx.Dg l 1776 1785) w') (h3:c=c3->Ea c3 g 337 (!Ctx.Dg l 1632 1641) w'):It B g c1 c2 c3 t v l w0 w':=by
 have p1:=h.o1;have p2:=h.o2;have p3:=h.o3;have l1:=h.q1.lt;have l2:=h.q2.lt;have l3:=h.q3.lt;refine ⟨h.below.trans (hb.mono jO),h.base,h.row,p1,p2,p3,(hb.block B jO).trans h.rules,?_,?_,?_⟩
 ·by_cases e:c=c1
  ·exact h1 e
  ·exact h.q1.same (hb.block _ jO) (hb.block _ jO) (hb.block _ jO)
 ·by_cases e:c=c2
  ·exact h2 e
  ·by_cases e3:c=c3
   · exact h.q2.same (hb.block _ jO) (hb.block _ jO) (hb.block _ jO)
   · exact h.q2.same (hs _ jO jO) (hs _ jO jO) (hs _ jO jO)
 ·by_cases e:c=c3
  ·exact h3 e
  ·exact h.q3.same (hs _ jO jO) (hs _ jO jO) (hs _ jO jO)
end
theorem Ada (g c1 c2 c3:Nat) {d:Int} (h:isKind d=false):Instr.findNow (.int .i32) (.int .i32 d) (Ta g c1 c2 c3) 0=some none:=by
 unfold isKind at h;simp only [Bool.or_eq_false_iff] at h;obtain ⟨⟨⟨⟨⟨⟨⟨h1,h2⟩,h3⟩,h4⟩,h5⟩,h6⟩,h7⟩,h8⟩:=h;simp [Ta,Instr.findNow,Instr.sameNow,h1,h2,h3,h4,h5,h6,h7,h8]
def A43 (B g c1 c2 c3:Nat) (t v:Value) (l:List Int) (w0:World) (d:Int) (f:Nat) (args:Int->Array Value):Prop :=
 ∀ (k:Nat) (w:World),k<l.length->It B g c1 c2 c3 t v l w0 w->Calls prog f (args k) w λe w'=>e=.returned (.bool (Iq l k d))/\It B g c1 c2 c3 t v l w0 w'
theorem Adb (B g c1 c2 c3:Nat) (t v:Value) (l:List Int) (w0:World) (hn:l.length<=1000) {d:Int} (h:isKind d=true) :
  (∃ i f,Instr.findNow (.int .i32) (.int .i32 d) (Ta g c1 c2 c3) 0=some (some (i,.func (.func f) #[.pointer (some ⟨g,0,none⟩)] #[]))/\(∀ args w,(callFunc f args).run prog w=.ok (.enter f args) w)/\A43 B g c1 c2 c3 t v l w0 d f (λk=>#[.pointer (some ⟨g,0,none⟩),.int .i64 k])) \/
  (∃ i c,Instr.findNow (.int .i32) (.int .i32 d) (Ta g c1 c2 c3) 0=some (some (i,.func (.func 348) #[] #[.pointer (some ⟨c+1,0,none⟩),.pointer (some ⟨c,0,none⟩),.pointer (some ⟨c+2,0,none⟩)]))/\A43 B g c1 c2 c3 t v l w0 d 348 (λk=>#[.int .i64 k,.pointer (some ⟨c+1,0,none⟩),.pointer (some ⟨c,0,none⟩),.pointer (some ⟨c+2,0,none⟩)])):=by
 unfold isKind at h;simp only [Bool.or_eq_true,beq_iff_eq] at h;rcases h with ((((((rfl | rfl) | rfl) | rfl) | rfl) | rfl) | rfl) | rfl
 ·exact .inl ⟨_,_,rfl,enters_of func329 jK rfl,λk w hk h=>(Au3 g t v l k w h.now hn hk).mono λe w' ⟨h1,h2⟩=>⟨h1,h.Ac h2⟩⟩
 ·exact .inl ⟨_,_,rfl,enters_of func330 jK rfl,λk w hk h=>(Adk g t v l k w h.now hn hk).mono λe w' ⟨h1,h2⟩=>⟨h1,h.Ac h2⟩⟩
 ·exact .inl ⟨_,_,rfl,enters_of func331 jK rfl,λk w hk h=>(Abm g t v l k w h.now hn hk).mono λe w' ⟨h1,h2⟩=>⟨h1,h.Ac h2⟩⟩
 ·exact .inl ⟨_,_,rfl,enters_of func332 jK rfl,λk w hk h=>(Qs g t v l k w h.now hn hk).mono λe w' ⟨h1,h2⟩=>⟨h1,h.Ac h2⟩⟩
 ·exact .inl ⟨_,_,rfl,enters_of func333 jK rfl,λk w hk h=>(Qt g t v l k w h.now hn hk).mono λe w' ⟨h1,h2⟩=>⟨h1,h.Ac h2⟩⟩
 ·exact .inr ⟨_,c1,rfl,λk w hk h=>(Qz c1 g _ _ k w h.q1 (enters_of func335 jK rfl) (Ui g t v l w h.now hn)).mono λe w' ⟨h1,h2,h3,h4⟩=>⟨h1,h.asked (.inl rfl) h3 h4 (λ_=>h2) (λe=>absurd e (by have:=h.o2;omega)) (λe=>absurd e (by have:=h.o2;have:=h.o3;omega))⟩⟩
 ·exact .inr ⟨_,c2,rfl,λk w hk h=>(Qz c2 g _ _ k w h.q2 (enters_of func336 jK rfl) (Uj g t v l w h.now hn)).mono λe w' ⟨h1,h2,h3,h4⟩=>⟨h1,h.asked (.inr (.inl rfl)) h3 h4 (λe=>absurd e (by have:=h.o2;omega)) (λ_=>h2) (λe=>absurd e (by have:=h.o3;omega))⟩⟩
 ·exact .inr ⟨_,c3,rfl,λk w hk h=>(Qz c3 g _ _ k w h.q3 (enters_of func337 jK rfl) (Wr g t v l w h.now hn)).mono λe w' ⟨h1,h2,h3,h4⟩=>⟨h1,h.asked (.inr (.inr rfl)) h3 h4 (λe=>absurd e (by have:=h.o2;have:=h.o3;omega)) (λe=>absurd e (by have:=h.o3;omega)) (λ_=>h2)⟩⟩
theorem Amc (w:World):(zeroValue 179).run prog w=.ok .nilFunc w:=by kernel_rfl
theorem Akb (r:Int) (w:World):Calls prog 283 #[.int .i32 r] w λe w'=>e=.returned (.bool (Ctx.Ci r))/\Below w.heap.size w w':=by
 rw [Qw];have KK:=λW=>Ajl r W;generalize kindOf r=d at KK ⊢;have KK:=jH KK;have KR:=jH (λB W h=>Aee w.heap.size B W h);have hw:Below w.heap.size w (w.alloc (.cells #[.slice none 0 0,.slice none 0 0,.slice none 0 0,.slice none 0 0,.slice none 0 0] 353)):=Ab _ _;have HW:=jH hw;clear hw;cases hd:isKind d
 ·have HD:=jH hd;clear hd;go_enter func283,ntmps283;go_wp2_with fail;refine (KR.out (w.heap.size+1) _ jS).mono ?_;rintro e w2 ⟨c1,c2,c3,rfl,hb,-,-,-,hr,-,-,-⟩;have hl:=Adp w2 underlying349 underlying21 (Amc w2) hr d (Ada _ _ _ _ HD.out);have HB:=jH (Aa HW.out hb);clear hb hr;go_wp2_with fail;refine (KK.out w2).mono ?_;rintro e w3 ⟨rfl,rfl⟩;go_wp2;go_ret;exact ⟨rfl,HB.out⟩
 ·have HD:=jH hd;clear hd;go_enter func283,ntmps283;go_wp2_with fail;refine (KR.out (w.heap.size+1) _ jS).mono ?_;rintro e w2 ⟨c1,c2,c3,rfl,hb,-,-,-,hr,-,-,-⟩;have hl:∃ V,(Instr.lookup 349 (.map (some (w.heap.size+1))) (.int .i32 d) true).run prog w2=.ok (.tuple #[V,.bool true]) w2:=by
   rcases Adb 0 w.heap.size c1 c2 c3 .nilFunc .nilFunc [] w jS HD.out with ⟨i,f,hf,-⟩ | ⟨i,f,hf,-⟩
   · exact ⟨_,Pf w2 underlying349 underlying21 hr d _ hf⟩
   · exact ⟨_,Pf w2 underlying349 underlying21 hr d _ hf⟩
  obtain ⟨V,hl⟩:=hl;have HB:=jH (Aa HW.out hb);clear hb hr;go_wp2_with fail;refine (KK.out w2).mono ?_;rintro e w3 ⟨rfl,rfl⟩;go_wp2;go_ret;exact ⟨rfl,HB.out⟩
theorem Avv {t v:Value} {l:List Int} {W:World} (g:Nat) (hg:g=W.heap.size) (hT:Table W t) (hl:Runes v l W) {b0 b1 b2 b3 c:Nat} {A:Option Addr} (e1:t=.agg #[.slice (some ⟨b0,0,none⟩) 74 74,.slice (some ⟨b1,0,none⟩) 10 10,.slice (some ⟨b2,0,none⟩) 11 11,.slice (some ⟨b3,0,none⟩) 42 42]) (e2:v=.slice A l.length c) :
  E6 g t v l (W.alloc (.cells #[.slice (some ⟨b0,0,none⟩) 74 74,.slice (some ⟨b1,0,none⟩) 10 10,.slice (some ⟨b2,0,none⟩) 11 11,.slice (some ⟨b3,0,none⟩) 42 42,.slice A l.length c] 353)):=by
 subst hg;exact ⟨hT.below (Ab W _),hl.Ac (Ab W _),b0,b1,b2,b3,A,c,e1,e2,heap_alloc_new W _⟩
theorem Av7 {B g:Nat} {t v:Value} {l:List Int} {w0:World} {e:Ending} {w':World} (hB:B=w0.heap.size) (hR:E6 g t v l w0) (h:Ab6 g B w0 e w'):e=.returned (.map (some B))/\∃ c1 c2 c3,It B g c1 c2 c3 t v l w0 w':=by
 obtain ⟨c1,c2,c3,rfl,hb,h1,h2,h3,hr,q1,q2,q3⟩:=h;exact ⟨rfl,c1,c2,c3,hB ▸ hb,hB,hR,h1,h2,h3,hr,q1 _,q2 _,q3 _⟩
def Good (l:List Int) (k:Nat):Prop:=∀ j,j<k->Ctx.Ci l[j]! = true->Ctx.met l j=true
theorem Good.next {l:List Int} {k:Nat} (h:Good l k) (hx:Ctx.Ci l[k]! = true->Ctx.met l k=true):Good l (k+1):=λj hj=>by
 by_cases e:j=k
 · subst e;exact hx
 · exact h j jO
theorem Asn (t v:Value) (l:List Int) (w:World) (hT:Table w t) (hl:Runes v l w) (hn:l.length<=1000) :
  Calls prog 285 #[t,v] w λe w'=>e=.returned (.bool (Ctx.all l))/\Below w.heap.size w w':=by
 have hT0:=hT;have hl0:=hl;obtain ⟨b0,b1,b2,b3,rfl,-,-,-,-⟩:=hT0;obtain ⟨A,c,rfl,hc,hx⟩:=hl0.form;have hB1:=Ab w (.cells #[.slice (some ⟨b0,0,none⟩) 74 74,.slice (some ⟨b1,0,none⟩) 10 10,.slice (some ⟨b2,0,none⟩) 11 11,.slice (some ⟨b3,0,none⟩) 42 42] 35);have hrow:=Avv (w.heap.size+1) jS (hT.below hB1) (hl.Ac hB1) (b0:=b0) (b1:=b1) (b2:=b2) (b3:=b3) (c:=c) (A:=A) rfl rfl;have hB2:Below w.heap.size w ((w.alloc (.cells #[.slice (some ⟨b0,0,none⟩) 74 74,.slice (some ⟨b1,0,none⟩) 10 10,.slice (some ⟨b2,0,none⟩) 11 11,.slice (some ⟨b3,0,none⟩) 42 42] 35)).alloc (.cells #[.slice (some ⟨b0,0,none⟩) 74 74,.slice (some ⟨b1,0,none⟩) 10 10,.slice (some ⟨b2,0,none⟩) 11 11,.slice (some ⟨b3,0,none⟩) 42 42,.slice A l.length c] 353)):=Bl _ _ _;have HX:=jH (λW (h:Below w.heap.size w W) k (hk:k<l.length)=>by
  obtain ⟨ad,e,hb,hcell⟩:=hx k hk;exact (⟨ad,e,(h.cell (p:=ad.add k) (by rw [Bf];exact hb)).trans hcell⟩:∃ ad,A=some ad/\W.cell? (ad.add k)=some (.int .i32 l[k]!)))
 have KK:=jH (λr W=>Ajl r W);have hra:=Aee (w.heap.size+1) (w.heap.size+1+1) ((w.alloc (.cells #[.slice (some ⟨b0,0,none⟩) 74 74,.slice (some ⟨b1,0,none⟩) 10 10,.slice (some ⟨b2,0,none⟩) 11 11,.slice (some ⟨b3,0,none⟩) 42 42] 35)).alloc (.cells #[.slice (some ⟨b0,0,none⟩) 74 74,.slice (some ⟨b1,0,none⟩) 10 10,.slice (some ⟨b2,0,none⟩) 11 11,.slice (some ⟨b3,0,none⟩) 42 42,.slice A l.length c] 353)) jS;have HR:=jH (λe w' h=>Av7 (e:=e) (w':=w') (show w.heap.size+1+1=((w.alloc (.cells #[.slice (some ⟨b0,0,none⟩) 74 74,.slice (some ⟨b1,0,none⟩) 10 10,.slice (some ⟨b2,0,none⟩) 11 11,.slice (some ⟨b3,0,none⟩) 42 42] 35)).alloc (.cells #[.slice (some ⟨b0,0,none⟩) 74 74,.slice (some ⟨b1,0,none⟩) 10 10,.slice (some ⟨b2,0,none⟩) 11 11,.slice (some ⟨b3,0,none⟩) 42 42,.slice A l.length c] 353)).heap.size by simp) hrow h);generalize hW0:(w.alloc (.cells #[.slice (some ⟨b0,0,none⟩) 74 74,.slice (some ⟨b1,0,none⟩) 10 10,.slice (some ⟨b2,0,none⟩) 11 11,.slice (some ⟨b3,0,none⟩) 42 42] 35)).alloc (.cells #[.slice (some ⟨b0,0,none⟩) 74 74,.slice (some ⟨b1,0,none⟩) 10 10,.slice (some ⟨b2,0,none⟩) 11 11,.slice (some ⟨b3,0,none⟩) 42 42,.slice A l.length c] 353)=W0 at *;have HA:=jH hra;have HB2:=jH hB2;have HW0:=jH hW0;obtain ⟨r,hr⟩:∃ r,r=Ctx.all l:=⟨_,rfl⟩
 rw [<- hr];have HRes:=jH hr;have HN:=jH hn;clear hT hl hx hc hB1 hrow hB2 hra hW0 hr;go_enter func285,ntmps285;go_wp2_with fail;rw [HW0.out];refine HA.out.mono ?_;rintro e w2 hpost;obtain ⟨rfl,c1,c2,c3,hru⟩:=HR.out e w2 hpost;have HRu:=jH hru;have FS:=jH (λd h=>Adb (w.heap.size+1+1) (w.heap.size+1) c1 c2 c3 (.agg #[.slice (some ⟨b0,0,none⟩) 74 74,.slice (some ⟨b1,0,none⟩) 10 10,.slice (some ⟨b2,0,none⟩) 11 11,.slice (some ⟨b3,0,none⟩) 42 42]) (.slice A l.length c) l W0 hn (d:=d) h);clear hpost hru HA HR;go_wp2;go_loopg [6,7,8,9,17] (l.length+1) (λgk _ _ _ _ i wr=>∃ k:Nat,k<=l.length/\i=.int .i64 k/\l.length - k<gk/\Hid (Good l k/\It (w.heap.size+1+1) (w.heap.size+1) c1 c2 c3 (.agg #[.slice (some ⟨b0,0,none⟩) 74 74,.slice (some ⟨b1,0,none⟩) 10 10,.slice (some ⟨b2,0,none⟩) 11 11,.slice (some ⟨b3,0,none⟩) 42 42]) (.slice A l.length c) l W0 wr))
 case atStart=>exact ⟨0,Nat.zero_le _,rfl,by omega,⟨λj hj=>absurd hj (Nat.not_lt_zero _),HRu.out⟩⟩
 case round =>
  obtain ⟨k,hk,rfl,hg0,I⟩:=hrel;by_cases hlt:k<l.length
  ·have BW:=jH (Aa HB2.out I.out.2.all);obtain ⟨ad,rfl,hcell⟩:=HX.out wr BW.out k hlt;obtain ⟨x,hxe⟩:∃ x,x=l[k]!:=⟨_,rfl⟩
   rw [<- hxe] at hcell;have hnk:=Qw x;have hmk:Ctx.Ci x=true->Ctx.met l k=Iq l k (kindOf x):=λh=>by rw [hxe] at h ⊢;exact Az2 l k h
   have K:=KK.out x wr;generalize kindOf x=d at hnk hmk K;have HXE:=jH hxe;have HNK:=jH hnk;have HMK:=jH hmk;have K:=jH K;have hkz:(k:Int)<(l.length:Int):=jO
   clear hxe hnk hmk;cases hd:isKind d
   ·have hl:=Adp wr underlying349 underlying21 (Amc wr) I.out.2.rules d (Ada _ _ _ _ hd);have I2:=jH (show Good l (k+1) from I.out.1.next (λh=>by rw [<- HXE.out,HNK.out,hd] at h;cases h));clear hd;go_wp2_with fail;refine K.out.mono ?_;rintro e w3 ⟨rfl,rfl⟩;go_wp2;go_roundg (l.length - k)
    case measure=>omega
    case rel=>exact ⟨k+1,by omega,by go_num,by omega,⟨I2.out,I.out.2⟩⟩
   ·have HD:=jH hd;clear hd;have hneed:Hid (Ctx.Ci l[k]! = true):=jH (by rw [<- HXE.out,HNK.out,HD.out]);have hmet:Hid (Ctx.met l k=Iq l k d):=jH (HMK.out (by rw [HNK.out,HD.out]));rcases FS.out d HD.out with ⟨i,f,hf,eg,ht⟩ | ⟨i,c',hf,ht⟩
    ·have hl:=Pf wr underlying349 underlying21 I.out.2.rules d _ hf;have HC:=ht k wr hlt I.out.2;generalize Iq l k d=b at HC hmet;have HC:=jH HC;clear hf ht;cases b
     ·have R:=jH (HRes.out.trans (Ctx.Amm hlt hneed.out hmet.out));go_wp2_with fail;refine K.out.mono ?_;rintro e w3 ⟨rfl,rfl⟩;go_wp2_with fail;refine HC.out.mono ?_;rintro e w4 ⟨rfl,hru4⟩;have B4:=jH (Aa HB2.out hru4.all);clear hru4 hcell hl;go_wp2;go_ret;exact ⟨by rw [R.out];rfl,B4.out⟩
     ·have I2:=jH (show Good l (k+1) from I.out.1.next (λ_=>hmet.out));go_wp2_with fail;refine K.out.mono ?_;rintro e w3 ⟨rfl,rfl⟩;go_wp2_with fail;refine HC.out.mono ?_;rintro e w4 ⟨rfl,hru4⟩;have HR4:=jH hru4;clear hru4 hcell hl;go_wp2;go_roundg (l.length - k)
      case measure=>omega
      case rel=>exact ⟨k+1,by omega,by go_num,by omega,⟨I2.out,HR4.out⟩⟩
    ·have hl:=Pf wr underlying349 underlying21 I.out.2.rules d _ hf;have HC:=ht k wr hlt I.out.2;generalize Iq l k d=b at HC hmet;have HC:=jH HC;clear hf ht;cases b
     ·have R:=jH (HRes.out.trans (Ctx.Amm hlt hneed.out hmet.out));go_wp2_with fail;refine K.out.mono ?_;rintro e w3 ⟨rfl,rfl⟩;go_wp2_with fail;refine HC.out.mono ?_;rintro e w4 ⟨rfl,hru4⟩;have B4:=jH (Aa HB2.out hru4.all);clear hru4 hcell hl;go_wp2;go_ret;exact ⟨by rw [R.out];rfl,B4.out⟩
     ·have I2:=jH (show Good l (k+1) from I.out.1.next (λ_=>hmet.out));go_wp2_with fail;refine K.out.mono ?_;rintro e w3 ⟨rfl,rfl⟩;go_wp2_with fail;refine HC.out.mono ?_;rintro e w4 ⟨rfl,hru4⟩;have HR4:=jH hru4;clear hru4 hcell hl;go_wp2;go_roundg (l.length - k)
      case measure=>omega
      case rel=>exact ⟨k+1,by omega,by go_num,by omega,⟨I2.out,HR4.out⟩⟩
  ·obtain rfl:k=l.length:=jO
   have R:=jH (HRes.out.trans ((Ctx.Lq l).2 I.out.1));have hkz:¬ (l.length:Int)<(l.length:Int):=jO
   go_wp2;go_ret;exact ⟨by rw [R.out];rfl,Aa HB2.out I.out.2.all⟩
end
