import Derived.Test.YtickpkccpafjaaaGreatDoorLstPl
import Derived.Test.YtickpkccpafjaaaGreatDoorMbxTake
set_option maxRecDepth 100000
set_option maxHeartbeats 8000000
namespace Go.Proofs.YtickpkccpafjaaaGreatDoor
open Tryz
section
open Go.RowKit Utf
namespace Lst
def Ks (l:List Box) (i:Nat):Box:=l.getD i ([],[])
def Eu (l:List Ent) (i:Nat):Ent:=l.getD i ⟨false,[],[]⟩
def bcs (m:Box):List Value:=[.string ⟨m.1.toArray⟩,.string ⟨m.2.toArray⟩]
def Gw (l:List Box):List Value:=l.flatMap bcs
theorem Sq:∀ (l:List Box) (i:Nat),i<l.length->(Gw l)[i*2]? = some (.string ⟨(Ks l i).1.toArray⟩)/\(Gw l)[i*2+1]? = some (.string ⟨(Ks l i).2.toArray⟩)
 | [],_,h=>absurd h (Nat.not_lt_zero _)
 | k::l,0,_=>⟨rfl,rfl⟩
 | k::l,i+1,h=>by
  rw [jac] at h;obtain ⟨h1,h2⟩:=Sq l i jO;have e:∀ j,(Gw (k::l))[j+2]? = (Gw l)[j]?:=λj=>by
   show ([Value.string ⟨k.1.toArray⟩,.string ⟨k.2.toArray⟩] ++ Gw l)[j+2]? = _;rw [List.getElem?_append_right jS];rfl
  rw [show Ks (k::l) (i+1)=Ks l i from rfl,show (i+1)*2=i*2+2 by omega,show i*2+2+1=(i*2+1)+2 by omega,e,e];exact ⟨h1,h2⟩
theorem Ak0 (a b:List Box):Gw (a ++ b)=Gw a ++ Gw b:=by unfold Gw;rw [List.flatMap_append]
abbrev EV:=Ent × Value
def ecs (p:EV):List Value:=[.string ⟨p.1.name.toArray⟩,.bool p.1.grp,p.2]
def Gg (l:List EV):List Value:=l.flatMap ecs
def Aau (l:List EV) (i:Nat):EV:=l.getD i (⟨false,[],[]⟩,.slice none 0 0)
theorem Te:∀ (l:List EV) (i:Nat),i<l.length->(Gg l)[i*3]? = some (.string ⟨(Aau l i).1.name.toArray⟩)/\(Gg l)[i*3+1]? = some (.bool (Aau l i).1.grp)/\(Gg l)[i*3+2]? = some (Aau l i).2
 | [],_,h=>absurd h (Nat.not_lt_zero _)
 | k::l,0,_=>⟨rfl,rfl,rfl⟩
 | k::l,i+1,h=>by
  rw [jac] at h;obtain ⟨h1,h2,h3⟩:=Te l i jO;have e:∀ j,(Gg (k::l))[j+3]? = (Gg l)[j]?:=λj=>by
   show (ecs k ++ Gg l)[j+3]? = _;rw [List.getElem?_append_right (by show 3<=j+3;omega)];rfl
  rw [show Aau (k::l) (i+1)=Aau l i from rfl,show (i+1)*3=i*3+3 by omega,show i*3+3+1=(i*3+1)+3 by omega,show i*3+3+2=(i*3+2)+3 by omega,e,e,e];exact ⟨h1,h2,h3⟩
theorem Alk (a b:List EV):Gg (a ++ b)=Gg a ++ Gg b:=by unfold Gg;rw [List.flatMap_append]
theorem Air {l:List EV} {i:Nat} (h:i<l.length):Aau l i ∈ l:=by
 unfold Aau;rw [List.getD_eq_getElem?_getD,List.getElem?_eq_getElem h];exact List.getElem_mem h
theorem Aiq {l:List EV} {es:List Ent} (e:l.map Prod.fst=es) {i:Nat} (h:i<l.length):(Aau l i).1=Eu es i:=by
 subst e;unfold Aau Eu;rw [List.getD_eq_getElem?_getD,List.getD_eq_getElem?_getD,List.getElem?_map,List.getElem?_eq_getElem h];rfl
end Lst
structure Aoe (g o:Nat) (m:Lst.Box) (w:World):Prop where
 c0:w.cell? ⟨g,o,none⟩=some (.string ⟨m.1.toArray⟩)
 c1:w.cell? ⟨g,o+1,none⟩=some (.string ⟨m.2.toArray⟩)
def Pe (v:Value) (l:List Lst.Box) (w:World):Prop :=
 ∃ (A:Option Addr) (c:Nat),v=.slice A l.length c/\l.length<=c/\(0<l.length->∃ g o,A=some ⟨g,o,none⟩/\g<w.heap.size/\∀ i,i<l.length->Aoe g (o+i*2) (Lst.Ks l i) w)
theorem Aoe.Ae {g o:Nat} {m:Lst.Box} {w w':World} (h:Aoe g o m w) (e:w'.heap[g]? = w.heap[g]?):Aoe g o m w' :=
 ⟨(World.cell?_of_block (a:=⟨g,o,none⟩) e).trans h.c0,(World.cell?_of_block (a:=⟨g,o+1,none⟩) e).trans h.c1⟩
theorem Pe.Ae {v:Value} {l:List Lst.Box} {w w':World} (h:Pe v l w) (hb:Below w.heap.size w w'):Pe v l w':=by
 obtain ⟨A,c,h1,h2,h3⟩:=h;refine ⟨A,c,h1,h2,λhp=>?_⟩;obtain ⟨g,o,h4,h5,h6⟩:=h3 hp;exact ⟨g,o,h4,jas h5 hb.size,λi hi=>(h6 i hi).Ae (hb.block g h5)⟩
theorem Pe.nil (w:World):Pe (.slice none 0 0) [] w:=⟨none,0,rfl,jaa _,λh=>absurd h jS⟩
def Dl (base:Nat) (v:Value) (l:List Lst.Box) (w:World):Prop:=w.ownsRow base 28 2 v l.length (Lst.Gw l)
theorem Dl.nil (base:Nat) (w:World):Dl base (.slice none 0 0) [] w:=World.ownsRow_nil w base _ _
theorem Dl.same {base:Nat} {v:Value} {l:List Lst.Box} {w w':World} (h:Dl base v l w) (e:∀ g cur,v.ownBlock=some g->w.heap[g]? = some (.cells cur 28 (0,0))->w'.heap[g]? = w.heap[g]?):Dl base v l w':=by
 refine ⟨h.1,?_⟩;rcases h.2 with h0 | ⟨g,cap,cur,rfl,h1,hg,h2⟩
 · exact .inl h0
 · exact .inr ⟨g,cap,cur,rfl,h1,(e g cur rfl hg).trans hg,h2⟩
theorem Dl.Ae {base:Nat} {v:Value} {l:List Lst.Box} {w w':World} (h:Dl base v l w) (hb:Below w.heap.size w w'):Dl base v l w' :=
 h.same λg _ hv _=>hb.block g (World.ownsRow.lt h g hv).2
theorem Dl.Azg {base:Nat} {v:Value} {l:List Lst.Box} {w:World} (h:Dl base v l w):Pe v l w:=by
 have hlt:=World.ownsRow.lt h;rcases h.2 with ⟨rfl,h0⟩ | ⟨g,cap,cur,rfl,hb,hg,hnc,hcm,hcs,hcur⟩
 ·exact ⟨none,0,by rw [h0],by omega,λhp=>by omega⟩
 ·refine ⟨some ⟨g,0,none⟩,cap,rfl,hnc,λ_=>⟨g,0,rfl,(hlt g rfl).2,λi hi=>?_⟩⟩;obtain ⟨h1,h2⟩:=Lst.Sq l i hi;rw [Nat.zero_add];exact ⟨(World.ownsRow.cellAt h (i*2) jO).trans h1,(World.ownsRow.cellAt h (i*2+1) jO).trans h2⟩
theorem Awf:(Tryz.prog.info? 28).map (λi=>(i.zero,i.size,i.bytes))=some (some (.agg #[.string ⟨#[]⟩,.string ⟨#[]⟩]),2,32):=by kernel_rfl
theorem Mp (W:World) (base:Nat) (v:Value) (l:List Lst.Box) (hown:Dl base v l W) (hbase:base<=W.heap.size) (hlen:l.length<=1000000) (m:Lst.Box)
  (N:Nat) (hN:N=W.heap.size)
  {ops:Array Oper} {o:Oper} {a:Act} {K:Act->World->Prop} {Q:Exit->Act->World->Prop} {F:Prop} (hgd:o.guard=none) (s y:Operand)
  (ho:o.op=.call { callee:=.builtin .append,args:=#[s,y],argTypes:=#[25,25] })
  (hs:a.eval s=v) (hx:a.eval y=.slice (some ⟨N,0,none⟩) 1 1)
  (h:∀ v' w',Dl base v' (l ++ [m]) w'->Below base W w'->(∀ k,k<W.heap.size->some k ≠ v.ownBlock->w'.heap[k]? = W.heap[k]?)->K (a.put o.dst v') w'):if Region.wanted o (yielded ops a.tmps)=true then Oper.wp prog o a (W.alloc (.cells #[.string ⟨m.1.toArray⟩,.string ⟨m.2.toArray⟩] 28)) K Q else F:=by
 subst hN;rw [if_pos (by simp [Region.wanted,hgd])];obtain ⟨i0,hi0,hz0,hs0,hb0⟩:=info_parts Awf;have hown':=World.ownsRow.alloc hown (.cells #[.string ⟨m.1.toArray⟩,.string ⟨m.2.toArray⟩] 28);refine wp_append_own _ s y 25 ho base 28 i0 (.agg #[.string ⟨#[]⟩,.string ⟨#[]⟩]) 2 32 underlying25 hi0 hz0 hs0 hb0 rfl jD v l.length (Lst.Gw l) hs hown' ⟨W.heap.size,0,none⟩ 1 1 (Lst.bcs m) hx rfl ?_ (λu hu=>?_) (by simp only [maxLen];omega) jO (by simp;omega) ?_
 ·intro j u hj;have e:(⟨W.heap.size,0,none⟩:Addr).add j=⟨W.heap.size,j,none⟩:=by unfold Addr.add;split<;>simp_all
  have hj':j<2:=(List.getElem?_eq_some_iff.1 hj).1;rw [e,World.cell?_alloc_at _ _ _ _ jS];rw [<- hj];rcases j with _ | _ | j
  · rfl
  · rfl
  · omega
 ·unfold Lst.bcs at hu;simp only [jal,List.not_mem_nil,or_false] at hu;rcases hu with rfl | rfl<;>rfl
 ·intro v' w' ho' hg _;refine h v' w' ?_ (((jan _ W).alloc hbase _).grown hg (by simp;omega) λk hk=>(World.ownsRow.lt hown' k hk).1) λk hk hne=>(hg.block k (by simp;omega) hne).trans (heap_alloc_old W _ hk);unfold Dl;rw [jab,Lst.Ak0,show Lst.Gw [m]=Lst.bcs m by unfold Lst.Gw;simp];exact ho'
structure Aof (g o:Nat) (p:Lst.EV) (w:World):Prop where
 c0:w.cell? ⟨g,o,none⟩=some (.string ⟨p.1.name.toArray⟩)
 c1:w.cell? ⟨g,o+1,none⟩=some (.bool p.1.grp)
 c2:w.cell? ⟨g,o+2,none⟩=some p.2
 boxes:Pe p.2 p.1.boxes w
theorem Aof.Ae {g o:Nat} {p:Lst.EV} {w w':World} (h:Aof g o p w) (hg:g<w.heap.size) (hb:Below w.heap.size w w'):Aof g o p w' :=
 ⟨(hb.cell (p:=⟨g,o,none⟩) hg).trans h.c0,(hb.cell (p:=⟨g,o+1,none⟩) hg).trans h.c1,(hb.cell (p:=⟨g,o+2,none⟩) hg).trans h.c2,h.boxes.Ae hb⟩
def Ov (v:Value) (l:List Lst.Ent) (w:World):Prop :=
 ∃ (A:Option Addr) (c:Nat),v=.slice A l.length c/\l.length<=c/\(0<l.length->∃ g o,A=some ⟨g,o,none⟩/\g<w.heap.size/\∀ i,i<l.length->∃ u,Aof g (o+i*3) (Lst.Eu l i,u) w)
theorem Ov.Ae {v:Value} {l:List Lst.Ent} {w w':World} (h:Ov v l w) (hb:Below w.heap.size w w'):Ov v l w':=by
 obtain ⟨A,c,h1,h2,h3⟩:=h;refine ⟨A,c,h1,h2,λhp=>?_⟩;obtain ⟨g,o,h4,h5,h6⟩:=h3 hp;exact ⟨g,o,h4,jas h5 hb.size,λi hi=>(h6 i hi).imp λu h=>h.Ae h5 hb⟩
theorem Ov.nil (w:World):Ov (.slice none 0 0) [] w:=⟨none,0,rfl,jaa _,λh=>absurd h jS⟩
def Dz (base:Nat) (v:Value) (l:List Lst.Ent) (w:World):Prop :=
 ∃ ps:List Lst.EV,ps.map Prod.fst=l/\w.ownsRow base 47 3 v ps.length (Lst.Gg ps)/\∀ p ∈ ps,Dl base p.2 p.1.boxes w
theorem Dz.nil (base:Nat) (w:World):Dz base (.slice none 0 0) [] w:=⟨[],rfl,World.ownsRow_nil w base _ _,λp hp=>by cases hp⟩
theorem Dz.same {base:Nat} {v:Value} {l:List Lst.Ent} {w w':World} (h:Dz base v l w) (e:∀ g cur T,base<=g->(T=47\/T=28)->w.heap[g]? = some (.cells cur T (0,0))->w'.heap[g]? = w.heap[g]?):Dz base v l w':=by
 obtain ⟨ps,h1,h2,h3⟩:=h;refine ⟨ps,h1,⟨h2.1,?_⟩,λp hp=>?_⟩
 ·rcases h2.2 with h0 | ⟨g,cap,cur,rfl,h4,hg,h5⟩
  · exact .inl h0
  · exact .inr ⟨g,cap,cur,rfl,h4,(e g cur _ h4 (.inl rfl) hg).trans hg,h5⟩
 ·have:=h3 p hp;exact this.same λg cur hv hg=>e g cur _ (World.ownsRow.lt this g hv).1 (.inr rfl) hg
theorem Dz.Ae {base:Nat} {v:Value} {l:List Lst.Ent} {w w':World} (h:Dz base v l w) (hb:Below w.heap.size w w'):Dz base v l w' :=
 h.same λg _ _ _ _ hg=>hb.block g (Array.getElem?_eq_some_iff.1 hg).1
theorem Dz.Dg {base:Nat} {v:Value} {l:List Lst.Ent} {w:World} (h:Dz base v l w):Ov v l w:=by
 obtain ⟨ps,h1,h2,h3⟩:=h;have hlen:ps.length=l.length:=by rw [<- h1,jai]
 have hlt:=World.ownsRow.lt h2;rcases h2.2 with ⟨rfl,h0⟩ | ⟨g,cap,cur,rfl,hb,hg,hnc,hcm,hcs,hcur⟩
 ·exact ⟨none,0,by rw [<- hlen,h0],by omega,λhp=>by omega⟩
 ·refine ⟨some ⟨g,0,none⟩,cap,by rw [hlen],by omega,λ_=>⟨g,0,rfl,(hlt g rfl).2,λi hi=>⟨(Lst.Aau ps i).2,?_⟩⟩⟩;have hi':i<ps.length:=jO
  obtain ⟨e1,e2,e3⟩:=Lst.Te ps i hi';have hf:=Lst.Aiq h1 hi';have hb:=(h3 _ (Lst.Air hi')).Azg;rw [hf] at e1 e2 hb;rw [Nat.zero_add];exact ⟨(World.ownsRow.cellAt h2 (i*3) jO).trans e1,(World.ownsRow.cellAt h2 (i*3+1) jO).trans e2,(World.ownsRow.cellAt h2 (i*3+2) jO).trans e3,hb⟩
theorem Awg:(Tryz.prog.info? 47).map (λi=>(i.zero,i.size,i.bytes))=some (some (.agg #[.string ⟨#[]⟩,.bool false,.slice none 0 0]),3,48):=by kernel_rfl
theorem Mq (W:World) (base:Nat) (v:Value) (l:List Lst.Ent) (hown:Dz base v l W) (hbase:base<=W.heap.size) (hlen:l.length<=1000000) (e:Lst.Ent) (u:Value) (hu:Dl base u e.boxes W) {nm:ByteArray} (hnm:nm=⟨e.name.toArray⟩)
  (N:Nat) (hN:N=W.heap.size)
  {ops:Array Oper} {o:Oper} {a:Act} {K:Act->World->Prop} {Q:Exit->Act->World->Prop} {F:Prop} (hgd:o.guard=none) (s y:Operand)
  (ho:o.op=.call { callee:=.builtin .append,args:=#[s,y],argTypes:=#[22,22] })
  (hs:a.eval s=v) (hx:a.eval y=.slice (some ⟨N,0,none⟩) 1 1)
  (h:∀ v' w',Dz base v' (l ++ [e]) w'->Below base W w'->K (a.put o.dst v') w'):if Region.wanted o (yielded ops a.tmps)=true then Oper.wp prog o a (W.alloc (.cells #[.string nm,.bool e.grp,u] 47)) K Q else F:=by
 subst hN hnm;rw [if_pos (by simp [Region.wanted,hgd])];obtain ⟨ps,h1,h2,h3⟩:=hown;have hlp:ps.length=l.length:=by rw [<- h1,jai]
 obtain ⟨i0,hi0,hz0,hs0,hb0⟩:=info_parts Awg;have hown':=World.ownsRow.alloc h2 (.cells #[.string ⟨e.name.toArray⟩,.bool e.grp,u] 47);have hslice:u.oneCell'=true:=by
  rcases hu.2 with ⟨rfl,-⟩ | ⟨g,cap,cur,rfl,-⟩<;>rfl
 refine wp_append_own _ s y 22 ho base 47 i0 (.agg #[.string ⟨#[]⟩,.bool false,.slice none 0 0]) 3 48 underlying22 hi0 hz0 hs0 hb0 rfl jD v ps.length (Lst.Gg ps) hs hown' ⟨W.heap.size,0,none⟩ 1 1 (Lst.ecs (e,u)) hx rfl ?_ (λx hx=>?_) (by simp only [maxLen];omega) jO (by simp;omega) ?_
 ·intro j u hj;have e:(⟨W.heap.size,0,none⟩:Addr).add j=⟨W.heap.size,j,none⟩:=by unfold Addr.add;split<;>simp_all
  have hj':j<3:=(List.getElem?_eq_some_iff.1 hj).1;rw [e,World.cell?_alloc_at _ _ _ _ jS];rw [<- hj];rcases j with _ | _ | _ | j
  ·rfl
  ·rfl
  ·rfl
  ·omega
 ·unfold Lst.ecs at hx;simp only [jal,List.not_mem_nil,or_false] at hx;rcases hx with rfl | rfl | rfl
  ·rfl
  ·rfl
  ·exact hslice
 ·intro v' w' ho' hg _;refine h v' w' ⟨ps ++ [(e,u)],by rw [List.map_append,h1];rfl,?_,λp hp=>?_⟩ (((jan _ W).alloc hbase _).grown hg (by simp;omega) λk hk=>(World.ownsRow.lt hown' k hk).1)
  ·rw [jab,Lst.Alk,show Lst.Gg [(e,u)]=Lst.ecs (e,u) by unfold Lst.Gg;simp];exact ho'
  ·have hp':Dl base p.2 p.1.boxes W:=by
    rcases jap.1 hp with hp | hp
    · exact h3 p hp
    · rw [List.mem_singleton] at hp;rw [hp];exact hu
   refine hp'.same λg cur hv hgc=>?_;have hgl:g<W.heap.size:=(Array.getElem?_eq_some_iff.1 hgc).1;refine (hg.block g (by simp;omega) λhne=>?_).trans (heap_alloc_old W _ hgl);rcases h2.2 with ⟨rfl,-⟩ | ⟨g',cap,cur',rfl,-,hg',-⟩
   ·cases hne
   ·injection hne with hne
    subst hne;have:=hgc.symm.trans hg';injection this with this
    injection this with _ this
    exact absurd this jD
end
section
open Go.RowKit Utf
namespace Lst
open Lex Mbx
def texts (l:List S):List (List UInt8):=((pre l).filter word).map (·.2)
theorem Apk (l:List S):name l=glue (texts l):=rfl
theorem Tk:∀ l:List (List UInt8),glue l=Lib.join l [32]
 | []=>rfl
 | [x]=>by rw [Lib.join_one];rfl
 | x::y::l=>by
  have ih:=Tk (y::l);rw [Lib.join_cons] at ih ⊢;show x ++ 32::glue (y::l)=_;rw [ih];rfl
def Kq (l:List S) (n:Nat) (qs:List Int):Bool:=match l[n]? with | some k=>qs.contains k.1 | none=>false
theorem Lq {l:List S} {n:Nat} (h:n<l.length) (qs:List Int):Kq l n qs=qs.contains l[n].1:=by unfold Kq;rw [List.getElem?_eq_getElem h]
theorem Xw {l:List S} {n:Nat} (h:l.length<=n) (qs:List Int):Kq l n qs=false:=by unfold Kq;rw [List.getElem?_eq_none h]
theorem Ri {l:List S} {n:Nat} {qs:List Int} (h:Kq l n qs=true):∃ h:n<l.length,qs.contains l[n].1=true:=by
 by_cases hn:n<l.length
 · rw [Lq hn] at h;exact ⟨hn,h⟩
 · rw [Xw jO] at h;cases h
theorem Ok (k:S):Az k=[(4:Int),3].contains k.1:=by
 unfold Az;simp only [List.contains_cons,List.contains_nil,Bool.or_false]
theorem Ap2 (k:S):word k=[(0:Int),1].contains k.1:=by
 unfold word;simp only [List.contains_cons,List.contains_nil,Bool.or_false]
theorem A0z {l:List S} {n:Nat} (h:Kq l n [4,3]=true):skip (l.drop n)=skip (l.drop (n+1))+1:=by
 obtain ⟨hn,hk⟩:=Ri h;rw [Cm hn,skip,if_pos (by rw [Ok];exact hk)]
theorem Ayk {l:List S} {n:Nat} (h:Kq l n [4,3]=false):skip (l.drop n)=0:=by
 by_cases hn:n<l.length
 ·rw [Lq hn] at h;rw [Cm hn,skip,Ok,h];rfl
 ·rw [Hr jO];rfl
theorem Ac9 (l:List S) (n:Nat):Kq l (n+skip (l.drop n)) [4,3]=false:=by
 have h:∀ l:List S,∀ k t,l.drop (skip l)=k::t->Az k=false:=by
  intro l;induction l with
  | nil=>intro k t e;cases e
  | cons a t ih =>
   intro k u e;rw [skip] at e;by_cases ha:Az a=true
   ·rw [if_pos ha] at e;exact ih k u e
   ·rw [if_neg ha] at e;injection e with e _
    rw [<- e];simpa using ha
 by_cases hn:n+skip (l.drop n)<l.length
 ·rw [Lq hn,<- Ok];refine h (l.drop n) _ (l.drop (n+skip (l.drop n)+1)) ?_;rw [List.drop_drop,Cm hn]
 ·exact Xw jO _
theorem Y6:∀ l:List S,pre l=l.take (skip l) ++ pre (l.drop (skip l))
 | []=>rfl
 | k::t=>by
  rw [skip];by_cases h:Az k=true
  ·rw [if_pos h,List.take_succ_cons,List.drop_succ_cons,jah,<- Y6 t];unfold pre;rw [List.takeWhile_cons_of_pos (by rw [h];rfl)]
  ·rw [if_neg h];rfl
theorem Ada:∀ l:List S,∀ k ∈ l.take (skip l),Az k=true
 | [],k,h=>by cases h
 | a::t,k,h=>by
  rw [skip] at h;by_cases ha:Az a=true
  ·rw [if_pos ha,List.take_succ_cons,jal] at h;rcases h with rfl | h
   · exact ha
   · exact Ada t k h
  ·rw [if_neg ha] at h;cases h
theorem Aip {k:S} (h:Az k=true):word k=false:=by
 unfold Az at h;unfold word;rw [Bool.or_eq_true,beq_iff_eq,beq_iff_eq] at h;rcases h with h | h<;>rw [h]<;>rfl
theorem Acp (l:List S) (n:Nat):len (l.drop n)=skip (l.drop n)+len (l.drop (n+skip (l.drop n)))/\texts (l.drop n)=texts (l.drop (n+skip (l.drop n))):=by
 rw [<- List.drop_drop];generalize l.drop n=r;have hl:(r.take (skip r)).length=skip r:=by rw [jak];have:=Aju r;omega
 unfold len texts;constructor
 ·conv=>lhs;rw [Y6 r,jab,hl]
 ·(conv=>lhs;rw [Y6 r,List.filter_append])
  rw [List.filter_eq_nil_iff.2 λk hk=>by rw [Aip (Ada r k hk)];decide];rfl
theorem Ass {l:List S} {n:Nat} (h:Kq l n [0,1]=true):∃ hn:n<l.length,len (l.drop n)=1+len (l.drop (n+1))/\texts (l.drop n)=l[n].2::texts (l.drop (n+1)):=by
 obtain ⟨hn,hk⟩:=Ri h;rw [<- Ap2] at hk;refine ⟨hn,?_⟩;rw [Cm hn];have hp:pre (l[n]::l.drop (n+1))=l[n]::pre (l.drop (n+1)):=by unfold pre;rw [List.takeWhile_cons_of_pos (by rw [hk,Bool.or_true])]
 unfold len texts;rw [hp,List.filter_cons_of_pos hk];exact ⟨by rw [jac];omega,rfl⟩
theorem Axm {l:List S} {n:Nat} (h4:Kq l n [4,3]=false) (h0:Kq l n [0,1]=false):len (l.drop n)=0/\texts (l.drop n)=[]:=by
 have hp:pre (l.drop n)=[]:=by
  by_cases hn:n<l.length
  ·rw [Lq hn,<- Ok] at h4;rw [Lq hn,<- Ap2] at h0;rw [Cm hn];unfold pre;rw [List.takeWhile_cons_of_neg (by rw [h4,h0];decide)]
  ·rw [Hr jO];rfl
 unfold len texts;rw [hp];exact ⟨rfl,rfl⟩
theorem Apb (l:List S):len l<=l.length:=(List.takeWhile_sublist _).length_le
theorem Ahh:∀ ws:List (List UInt8),(glue ws).length<=(ws.map λx=>x.length+1).sum
 | []=>Nat.zero_le _
 | [p]=>by simp [glue]
 | p::q::r=>by
  have:=Ahh (q::r);rw [glue,jab,jac,List.map_cons,List.sum_cons];omega
theorem An1 (l:List S):((texts l).map λx=>x.length+1).sum<=(Dq l).length+l.length:=by
 have key:∀ r:List S,((r.map (·.2)).map λx=>x.length+1).sum<=(Dq r).length+r.length:=by
  intro r;induction r with
  | nil=>exact Nat.zero_le _
  | cons k t ih =>
   have:=Aj0 k.1 k.2;unfold Dq at ih ⊢;rw [List.map_cons,List.map_cons,List.sum_cons,jao,jab,jac];omega
 have sub:∀ {a b:List S},a.Sublist b->(Dq a).length+a.length<=(Dq b).length+b.length:=by
  intro a b h;induction h with
  | slnil=>exact jaa _
  | cons k _ ih=>unfold Dq at ih ⊢;rw [jao,jab,jac];omega
  | cons_cons k _ ih=>unfold Dq at ih ⊢;rw [jao,jao,jab,jab,jac,jac];omega
 exact Nat.le_trans (key _) (sub (List.filter_sublist.trans (List.takeWhile_sublist _)))
theorem Aij (l:List S):(name l).length<=(Dq l).length+l.length:=Nat.le_trans (Ahh _) (An1 l)
end Lst
end
section
open Go.RowKit Utf Go.Shelf
structure Sml (l:List Mbx.S):Prop where
 len:l.length<=2000
 outs:(Mbx.Dq l).length<=2000
theorem Sml.few {l:List Mbx.S} (F:Sml l):Few l:=⟨by have:=F.len;omega,λk hk=>by have:=Mbx.Kz l k hk;have:=F.outs;omega⟩
theorem Sml.text {l:List Mbx.S} (F:Sml l) {n:Nat} (h:n<l.length):l[n].2.length<=2000:=by
 have:=Mbx.Kz l _ (List.getElem_mem h);have:=F.outs;omega
structure Au (N:Nat) (vT vE vB:Value) (l:List Mbx.S) (n:Nat) (s x y:ByteArray) (w:World):Prop where
 blk:w.heap[N]? = some (.cells #[vT,.int .i64 n,vE,.string s,.string x,.string y,vB] 74 (0,0))
 Jp:F0 N vT l w
section
variable {N n:Nat} {vT vE vB:Value} {l:List Mbx.S} {s x y:ByteArray} {w:World}
theorem Au.lt (H:Au N vT vE vB l n s x y w):N<w.heap.size:=(Array.getElem?_eq_some_iff.1 H.blk).1
theorem Au.all (H:Au N vT vE vB l n s x y w):w.cell? ⟨N,0,none⟩=some vT/\w.cell? ⟨N,1,none⟩=some (.int .i64 n)/\w.cell? ⟨N,2,none⟩=some vE/\w.cell? ⟨N,3,none⟩=some (.string s)/\w.cell? ⟨N,4,none⟩=some (.string x)/\w.cell? ⟨N,5,none⟩=some (.string y)/\w.cell? ⟨N,6,none⟩=some vB:=by
 have:=H.blk;simp [World.cell?,this]
theorem Au.fr (H:Au N vT vE vB l n s x y w) (k:Nat):w.frozen? ⟨N,k,none⟩=false:=by have:=H.blk;simp [World.frozen?,this]
theorem Au.kept {w':World} (H:Au N vT vE vB l n s x y w) (hb:∀ k,k<=N->w'.heap[k]? = w.heap[k]?):Au N vT vE vB l n s x y w' :=
 ⟨(hb N (jaa _)).trans H.blk,H.Jp.Ae λk hk=>hb k (Nat.le_of_lt hk)⟩
theorem Au.Ae {w':World} (H:Au N vT vE vB l n s x y w) (hb:Below w.heap.size w w'):Au N vT vE vB l n s x y w':=H.kept λk hk=>hb.block k (Nat.lt_of_le_of_lt hk H.lt)
theorem Au.Qc (H:Au N vT vE vB l n s x y w) (m:Nat):Au N vT vE vB l m s x y (w.setCell ⟨N,1,none⟩ (.int .i64 m)) :=
 ⟨by have:=H.blk;simp [World.setCell,Array.getElem?_modify,this],H.Jp.Ae λk hk=>Below.heap_setCell _ _ _ _ (by show k ≠ N;omega)⟩
theorem Au.Ano (H:Au N vT vE vB l n s x y w) (u:Value):Au N vT u vB l n s x y (w.setCell ⟨N,2,none⟩ u) :=
 ⟨by have:=H.blk;simp [World.setCell,Array.getElem?_modify,this],H.Jp.Ae λk hk=>Below.heap_setCell _ _ _ _ (by show k ≠ N;omega)⟩
theorem Au.R9 (H:Au N vT vE vB l n s x y w) (z:ByteArray):Au N vT vE vB l n z x y (w.setCell ⟨N,3,none⟩ (.string z)) :=
 ⟨by have:=H.blk;simp [World.setCell,Array.getElem?_modify,this],H.Jp.Ae λk hk=>Below.heap_setCell _ _ _ _ (by show k ≠ N;omega)⟩
theorem Au.Ajp (H:Au N vT vE vB l n s x y w) (z:ByteArray):Au N vT vE vB l n s z y (w.setCell ⟨N,4,none⟩ (.string z)) :=
 ⟨by have:=H.blk;simp [World.setCell,Array.getElem?_modify,this],H.Jp.Ae λk hk=>Below.heap_setCell _ _ _ _ (by show k ≠ N;omega)⟩
theorem Au.A21 (H:Au N vT vE vB l n s x y w) (z:ByteArray):Au N vT vE vB l n s x z (w.setCell ⟨N,5,none⟩ (.string z)) :=
 ⟨by have:=H.blk;simp [World.setCell,Array.getElem?_modify,this],H.Jp.Ae λk hk=>Below.heap_setCell _ _ _ _ (by show k ≠ N;omega)⟩
theorem Au.A2o (H:Au N vT vE vB l n s x y w) (u:Value):Au N vT vE u l n s x y (w.setCell ⟨N,6,none⟩ u) :=
 ⟨by have:=H.blk;simp [World.setCell,Array.getElem?_modify,this],H.Jp.Ae λk hk=>Below.heap_setCell _ _ _ _ (by show k ≠ N;omega)⟩
end
end
section
open Go.RowKit Utf Go.Shelf
attribute [local go_sem] Fe
theorem Lst.Ave {qs:List Int} {i:Nat} (h:i<qs.length) {k y:Int} (hy:y=qs[i]) (e:(k == y)=true):qs.contains k=true:=by
 rw [List.contains_iff_mem,beq_iff_eq.1 e,hy];exact List.getElem_mem h
theorem Lst.Azj {qs:List Int} {k:Int} (h:∀ j (hj:j<qs.length),qs[j] ≠ k):qs.contains k=false:=by
 cases e:qs.contains k with
 | false=>rfl
 | true =>
  rw [List.contains_iff_mem] at e;obtain ⟨j,hj,e⟩:=List.getElem_of_mem e;exact absurd e (h j hj)
theorem Al2 (g:Nat) (qs:List Int) (k:Int) (w:World) (hq:∀ j (h:j<qs.length),w.cell? ⟨g,j,none⟩=some (.int .i64 qs[j])) (hn:qs.length<=10) :
  Calls prog 155 #[.slice (some ⟨g,0,none⟩) qs.length qs.length,.int .i64 k] w λe w'=>(∃ r:Int,e=.returned (.int .i64 r)/\decide (0<=r)=qs.contains k)/\w=w':=by
 have HQ:=jH hq;obtain ⟨cc,hcc⟩:∃ cc,cc=qs.contains k:=⟨_,rfl⟩
 rw [<- hcc];have HC:=jH hcc;obtain ⟨n,hnn⟩:∃ n,n=qs.length:=⟨_,rfl⟩
 rw [<- hnn];have HN:=jH hnn;rw [<- hnn] at hn;clear hnn hq hcc;go_enter func155,ntmps155;go_wp2;go_loopg [5,8] n (λgg _ s8 wr=>∃ i:Nat,i<=n/\n - i<=gg/\s8=.int .i64 i/\Hid (w=wr)/\Hid (∀ j (h:j<qs.length),j<i->qs[j] ≠ k))
 case atStart=>exact ⟨0,Nat.zero_le _,by omega,rfl,rfl,λj _ hj=>absurd hj (Nat.not_lt_zero _)⟩
 case round =>
  obtain ⟨i,hi,hg,rfl,EW,A⟩:=hrel;by_cases hlt:i<n
  ·have hkz:(i:Int)<(n:Int):=jO
   have hil:i<qs.length:=by have:=HN.out;omega
   have hcell:wr.cell? ⟨g,i,none⟩=some (.int .i64 qs[i]):=by rw [<- EW.out];exact HQ.out i hil
   obtain ⟨y,hy⟩:∃ y,y=qs[i]:=⟨_,rfl⟩
   rw [<- hy] at hcell;have HY:=jH hy;clear hy;cases he:(k == y)
   ·have HE:=jH he;go_wp2;go_roundg (n - (i+1))
    case measure=>omega
    case rel =>
     refine ⟨i+1,by omega,by omega,by go_num,EW.out,(show Hid _ from λj h hj=>?_)⟩;by_cases e:j=i
     ·subst e;rw [<- HY.out];intro e2;have:=HE.out;rw [e2,beq_self_eq_true] at this;cases this
     ·exact A.out j h jO
   ·have HE:=jH he;go_wp2;go_ret;exact ⟨⟨(i:Int),rfl,by rw [HC.out,Lst.Ave hil HY.out HE.out];simp⟩,EW.out⟩
  ·have hkz:¬ (i:Int)<(n:Int):=jO
   have HE:=jH (show cc=false by rw [HC.out];exact Lst.Azj λj hj=>A.out j hj (by have:=HN.out;omega));go_wp2;go_ret;exact ⟨⟨-1,rfl,by rw [HE.out];simp⟩,EW.out⟩
theorem Aak (g:Nat) (qs:List Int) (k:Int) (w:World) (hq:∀ j (h:j<qs.length),w.cell? ⟨g,j,none⟩=some (.int .i64 qs[j])) (hn:qs.length<=10) :
  Calls prog 129 #[.slice (some ⟨g,0,none⟩) qs.length qs.length,.int .i64 k] w λe w'=>e=.returned (.bool (qs.contains k))/\w=w':=by
 have K:=jH (Al2 g qs k w hq hn);clear hq hn;obtain ⟨r,hr⟩:∃ r,r=qs.contains k:=⟨_,rfl⟩
 rw [<- hr];have HR:=jH hr;clear hr;go_enter func129,ntmps129;go_wp2_with fail;refine K.out.mono ?_;rintro e w2 ⟨⟨q,rfl,h⟩,rfl⟩;have R:=jH (h.trans HR.out.symm);clear h;cases h:decide (0<=q)
 all_goals
  go_wp2;go_ret;exact ⟨by rw [<- R.out,h];rfl,rfl⟩
theorem Ao9 (N:Nat) (vT vE vB:Value) (l:List Mbx.S) (n:Nat) (s x y:ByteArray) (w:World) (H:Au N vT vE vB l n s x y w) (g:Nat) (qs:List Int) (hq:∀ j (h:j<qs.length),w.cell? ⟨g,j,none⟩=some (.int .i64 qs[j])) (hn:qs.length<=10) (hnl:n<=l.length) :
  Calls prog 95 #[.pointer (some ⟨N,0,none⟩),.slice (some ⟨g,0,none⟩) qs.length qs.length] w λe w'=>e=.returned (.bool (Lst.Kq l n qs))/\Below w.heap.size w w':=by
 obtain ⟨c0,c1,-⟩:=H.all;obtain ⟨A,c,rfl,hc,h⟩:=H.Jp;by_cases hi:n<l.length
 ·obtain ⟨gt,o,rfl,-,h1,-⟩:=h n hi;rw [Lst.Lq hi];have hiz:(n:Int)<(l.length:Int):=jO
  generalize l[n].1=k at h1 ⊢;have HC:=jH (λj=>Aak g qs k (w.drewN j) hq hn);generalize qs.contains k=r at HC ⊢;clear h H hi hq;generalize l.length=len at *;generalize qs.length=m at *;go_enter func95,ntmps95;go_wp2;go_quiet ((go_at_call 129;with_reducible exact Ai8 (HC.out _)));go_wp2;go_ret;exact ⟨rfl,Jt _ _⟩
 ·rw [Lst.Xw jO];have hiz:decide (n<l.length)=false:=decide_eq_false jO;clear h H hi hq;generalize l.length=len at *;generalize qs.length=m at *;go_enter func95,ntmps95;go_wp2;go_quiet (fail);go_wp2;go_ret;exact ⟨rfl,Jt _ _⟩
theorem Aho (N:Nat) (vT vE vB:Value) (l:List Mbx.S) (n:Nat) (s x y:ByteArray) (w:World) (H:Au N vT vE vB l n s x y w) (a b:Int) (hnl:n<=l.length) :
  Calls prog 95 #[.pointer (some ⟨N,0,none⟩),.slice (some ⟨w.heap.size,0,none⟩) 2 2] (w.alloc (.cells #[.int .i64 a,.int .i64 b] 3)) λe w'=>e=.returned (.bool (Lst.Kq l n [a,b]))/\Below w.heap.size w w' :=
 (Ao9 N vT vE vB l n s x y _ (H.Ae (Ac w _)) w.heap.size [a,b] (λj h=>by
  rw [World.cell?_alloc_at _ _ _ _ rfl];match j,h with
  | 0,_=>rfl
  | 1,_=>rfl) jS hnl).mono λ_ _ ⟨h1,h2⟩=>⟨h1,(Ac w _).trans (h2.mono jS)⟩
theorem Awj (N:Nat) (vT vE vB:Value) (l:List Mbx.S) (n:Nat) (s x y:ByteArray) (w:World) (H:Au N vT vE vB l n s x y w) (a:Int) (hnl:n<=l.length) :
  Calls prog 95 #[.pointer (some ⟨N,0,none⟩),.slice (some ⟨w.heap.size,0,none⟩) 1 1] (w.alloc (.cells #[.int .i64 a] 3)) λe w'=>e=.returned (.bool (Lst.Kq l n [a]))/\Below w.heap.size w w' :=
 (Ao9 N vT vE vB l n s x y _ (H.Ae (Ac w _)) w.heap.size [a] (λj h=>by
  rw [World.cell?_alloc_at _ _ _ _ rfl];match j,h with
  | 0,_=>rfl) jS hnl).mono λ_ _ ⟨h1,h2⟩=>⟨h1,(Ac w _).trans (h2.mono jS)⟩
theorem F9 (N:Nat) (vT vE vB:Value) (l:List Mbx.S) (n:Nat) (s x y:ByteArray) (w:World) (H:Au N vT vE vB l n s x y w) (hn:n<=l.length) (F:Sml l) :
  Calls prog 132 #[.pointer (some ⟨N,0,none⟩)] w λe w'=>e=.returned (.bool true)/\Au N vT vE vB l (n+Mbx.skip (l.drop n)) s x y w'/\Ay N w w':=by
 have hl:=F.len;obtain ⟨T,hT⟩:∃ T,T=n+Mbx.skip (l.drop n):=⟨_,rfl⟩
 rw [<- hT];have HT:=jH hT;have HH:=jH H;clear hT F H;go_enter func132,ntmps132;go_wp2;go_loopg [3] (l.length+1) (λgk _ wr=>∃ m:Nat,m<=l.length/\l.length - m<gk/\Hid (m+Mbx.skip (l.drop m)=T/\Au N vT vE vB l m s x y wr/\Ay N w wr))
 case atStart=>exact ⟨n,hn,by omega,jH ⟨HT.out.symm,HH.out,Ay.refl _ _⟩⟩
 case round =>
  obtain ⟨m,hm,hg,I⟩:=hrel;have K:=Aho N vT vE vB l m s x y wr I.out.2.1 4 3 hm;cases h4:Lst.Kq l m [4,3]
  ·rw [h4] at K;have K:=jH K;have E:=jH (show m=T by have:=I.out.1;rwa [Lst.Ayk h4] at this);clear h4;go_wp2_with fail;refine K.out.mono ?_;rintro e w1 ⟨rfl,hb1⟩;have B1:=jH hb1;clear hb1;go_wp2;go_ret;have:=E.out;subst this;exact ⟨rfl,I.out.2.1.Ae B1.out,I.out.2.2.then (B1.out.mono I.out.2.2.size)⟩
  ·rw [h4] at K;have K:=jH K;obtain ⟨hlt,-⟩:=Lst.Ri h4;have E:=jH (show m+1+Mbx.skip (l.drop (m+1))=T by have:=I.out.1;rw [Lst.A0z h4] at this;omega);clear h4;go_wp2_with fail;refine K.out.mono ?_;rintro e w1 ⟨rfl,hb1⟩;have P1:=I.out.2.1.Ae hb1;obtain ⟨-,c1,-⟩:=P1.all;have f1:=P1.fr 1;have O1:=(I.out.2.2.then (hb1.mono I.out.2.2.size)).set 1 (.int .i64 ((m:Int)+1));have P2:=P1.Qc (m+1);rw [show ((m+1:Nat):Int)=(m:Int)+1 by omega] at P2;have I2:=jH (And.intro E.out (And.intro P2 O1));clear hb1 P1 O1 P2;go_wp2;go_roundg (l.length - m)
   case measure=>omega
   case rel=>exact ⟨m+1,by omega,by omega,I2⟩
end
section
open Go.RowKit Utf Go.Shelf
attribute [local go_sem] Fe
theorem Lst.A0x {l:List Mbx.S} {n:Nat} (h:Lst.Kq l n [2]=false) (t:List UInt8):Mbx.isS l n t=false:=by
 unfold Mbx.isS;rw [decide_eq_false_iff_not];intro e;obtain ⟨hn,e⟩:=List.getElem?_eq_some_iff.1 e;rw [Lst.Lq hn,e] at h;simp at h
theorem Lst.Afh {l:List Mbx.S} {n:Nat} (h:Lst.Kq l n [2]=true) (t:List UInt8):∃ hn:n<l.length,Mbx.isS l n t=(l[n].2 == t):=by
 obtain ⟨hn,hk⟩:=Lst.Ri h;refine ⟨hn,?_⟩;have h2:l[n].1=2:=by simpa using hk
 unfold Mbx.isS;rw [List.getElem?_eq_getElem hn,Bool.eq_iff_iff,decide_eq_true_eq,beq_iff_eq];constructor
 · intro e;injection e with e;rw [e]
 · intro e;congr 1;exact Prod.ext h2 e
theorem Lst.Dn {l:List Mbx.S} {n:Nat} {t:List UInt8}:(l.drop n).head? = some (2,t) ↔ Mbx.isS l n t=true:=by
 unfold Mbx.isS;rw [List.head?_drop,decide_eq_true_eq]
theorem Hc (N:Nat) (vT vE vB:Value) (l:List Mbx.S) (n:Nat) (s x y:ByteArray) (w:World) (H:Au N vT vE vB l n s x y w) (hn:n<=l.length) (F:Sml l) (t:List UInt8) (T:ByteArray) (hT:T=⟨t.toArray⟩) :
  Calls prog 60 #[.pointer (some ⟨N,0,none⟩),.string T] w λe w'=>e=.returned (.bool (Mbx.isS l n t))/\Au N vT vE vB l (if Mbx.isS l n t=true then n+1 else n) s x y w'/\Ay N w w':=by
 have hl:=F.len;have K:=λW (hW:Below w.heap.size w W)=>Awj N vT vE vB l n s x y W (H.Ae hW) 2 hn;have HH:=jH H;have hNl:=H.lt;cases h2:Lst.Kq l n [2]
 ·rw [Lst.A0x h2];simp only [h2] at K;have K:=jH K;clear h2 F H;go_enter func60,ntmps60;go_wp2;refine wp_region_held_drew (S:=(λw':World=>Below w.heap.size w w')) jK ?_ (λhHeld=>?_)
  ·(try dsimp only)
   exact (jan w.heap.size w).drew
  refine Aj 0 5 (v:=?_) rfl rfl jK jK jK (λ_ _ _ h=>h) (Or.inl ⟨by rfl,?_⟩) jA ?_;rotate_left
  ·intro w hSw
   (try dsimp only at hSw)
   go_simp
   first | done | with_reducible rfl
  simp only [Act.put,jad,jae,jaf];refine wpAnyH_ready (rs:=[1]) jK jS ?_;refine AllReadyH.cons (o:={ dst:=some 6,op:=.buildSlice 169 1 #[(0,.const (.int .i64 2))],type:=_,pos := "list.go:201", after:=_,guard:=none }) rfl (λK_ hK=>?_) AllReadyH.nil
  (try go_simp)
  go_wp2_with fail;clear hHeld;refine hK.out _ _ ?_ (λhHeld=>?_)
  ·exact ((jan w.heap.size w).drew.trans (Ac w.drew _))
  clear hK K_;refine wpAnyH_ready (rs:=[2]) jK jS ?_;refine AllReadyH.cons (o:={ dst:=some 7,op:=.call { callee:=.value (.func 95),args:=#[.tmp 5,.tmp 6],argTypes:=#[101,169] },type:=_,pos := "list.go:201", after:=_,guard:=none }) rfl (λK_ hK=>?_) AllReadyH.nil
  (try go_simp)
  go_at_call 95;refine (K.out w.drew (jan _ w).drew).mono ?_;rintro e w1 ⟨rfl,hb⟩;have B1:=jH (Ag hb);clear hb;go_wp2_with fail;clear hHeld;refine hK.out _ _ ?_ (λhHeld=>?_)
  ·exact B1.out
  clear hK K_;refine Aj 3 8 (v:=?_) rfl rfl jK jK jK (λ_ _ _ h=>h) (Or.inl ⟨by rfl,?_⟩) jA ?_;rotate_left
  ·intro w hSw
   (try dsimp only at hSw)
   go_simp
   first | done | with_reducible rfl
  simp only [Act.put,jad,jae,jaf];refine Aj 4 9 (v:=?_) rfl rfl jK jK jK (λ_ _ _ h=>h) (Or.inl ⟨by rfl,?_⟩) jA ?_;rotate_left
  ·intro w hSw
   (try dsimp only at hSw)
   go_simp
   first | done | with_reducible rfl
  simp only [Act.put,jad,jae,jaf];refine Aj 5 10 (v:=undef) rfl rfl jK jK jK (λ_ _ _ h=>h) (Or.inr ⟨by rfl,rfl⟩) jA ?_;simp only [Act.put,jad,jae,jaf];refine Aj 6 11 (v:=undef) rfl rfl jK jK jK (λ_ _ _ h=>h) (Or.inr ⟨by rfl,rfl⟩) jA ?_;simp only [Act.put,jad,jae,jaf];refine Aj 7 12 (v:=undef) rfl rfl jK jK jK (λ_ _ _ h=>h) (Or.inr ⟨by rfl,rfl⟩) jA ?_;simp only [Act.put,jad,jae,jaf];refine Aj 8 13 (v:=undef) rfl rfl jK jK jK (λ_ _ _ h=>h) (Or.inr ⟨by rfl,rfl⟩) jA ?_;simp only [Act.put,jad,jae,jaf];refine Aj 9 14 (v:=undef) rfl rfl jK jK jK (λ_ _ _ h=>h) (Or.inr ⟨by rfl,rfl⟩) jA ?_;simp only [Act.put,jad,jae,jaf];refine Aj 10 15 (v:=undef) rfl rfl jK jK jK (λ_ _ _ h=>h) (Or.inr ⟨by rfl,rfl⟩) jA ?_;simp only [Act.put,jad,jae,jaf];refine Aj 11 16 (v:=undef) rfl rfl jK jK jK (λ_ _ _ h=>h) (Or.inr ⟨by rfl,rfl⟩) jA ?_
  simp only [Act.put,jad,jae,jaf];refine Aj 12 17 (v:=undef) rfl rfl jK jK jK (λ_ _ _ h=>h) (Or.inr ⟨by rfl,rfl⟩) jA ?_;simp only [Act.put,jad,jae,jaf];refine Aj 13 18 (v:=undef) rfl rfl jK jK jK (λ_ _ _ h=>h) (Or.inr ⟨by rfl,rfl⟩) jA ?_;simp only [Act.put,jad,jae,jaf];refine Aj 14 19 (v:=undef) rfl rfl jK jK jK (λ_ _ _ h=>h) (Or.inr ⟨by rfl,rfl⟩) jA ?_;simp only [Act.put,jad,jae,jaf];refine Aj 15 20 (v:=undef) rfl rfl jK jK jK (λ_ _ _ h=>h) (Or.inr ⟨by rfl,rfl⟩) jA ?_;simp only [Act.put,jad,jae,jaf];refine Aj 16 21 (v:=undef) rfl rfl jK jK jK (λ_ _ _ h=>h) (Or.inr ⟨by rfl,rfl⟩) jA ?_;simp only [Act.put,jad,jae,jaf];refine Aj 17 22 (v:=undef) rfl rfl jK jK jK (λ_ _ _ h=>h) (Or.inr ⟨by rfl,rfl⟩) jA ?_;simp only [Act.put,jad,jae,jaf];refine Aj 18 23 (v:=?_) rfl rfl jK jK jK (λ_ _ _ h=>h) (Or.inl ⟨by rfl,?_⟩) jA ?_
  rotate_left
  ·intro w hSw
   (try dsimp only at hSw)
   go_simp
   first | done | with_reducible rfl
  simp only [Act.put,jad,jae,jaf];refine wpAnyH_done jK ?_ _;go_wp2;go_ret;exact ⟨rfl,HH.out.Ae B1.out,Ay.of B1.out⟩
 ·obtain ⟨hlt,hs⟩:=Lst.Afh h2 t;rw [hs];simp only [h2] at K;have K:=jH K;obtain ⟨A,c,rfl,hc,h⟩:=H.Jp;obtain ⟨gt,o,rfl,hg,-,h1,-⟩:=h n hlt;obtain ⟨c0,c1,-⟩:=H.all;have hgl:gt<w.heap.size:=Nat.lt_trans hg hNl;have hiz:(n:Int)<(l.length:Int):=jO
  have eU:((⟨l[n].2.toArray⟩:ByteArray).toList == T.toList)=(l[n].2 == t):=by rw [hT,ByteArray.toList_eq,ByteArray.toList_eq]
  generalize l[n].2=u at h1 eU ⊢;obtain ⟨U,hU⟩:∃ U:ByteArray,U=⟨u.toArray⟩:=⟨_,rfl⟩
  rw [<- hU] at h1 eU;rw [<- eU];clear h hs h2 F H hT hU eU;generalize hlen:l.length=len at *;clear hlen;cases hq:(U.toList == T.toList)
  ·go_enter func60,ntmps60;go_wp2;refine wp_region_held_drew (S:=(λw':World=>w'.cell? ⟨N,0,none⟩=some (.slice (some ⟨gt,o,none⟩) len c)/\w'.cell? ⟨N,1,none⟩=some (.int .i64 n)/\w'.cell? ⟨gt,o+n*3+1,none⟩=some (.string U))) jK ?_ (λhHeld=>?_)
   ·(try dsimp only)
    exact ⟨((jan w.heap.size w).drew.cell (p:=⟨N,0,none⟩) hNl).trans c0,((jan w.heap.size w).drew.cell (p:=⟨N,1,none⟩) hNl).trans c1,((jan w.heap.size w).drew.cell (p:=⟨gt,o+n*3+1,none⟩) hgl).trans h1⟩
   refine Aj 0 5 (v:=?_) rfl rfl jK jK jK (λ_ _ _ h=>h) (Or.inl ⟨by rfl,?_⟩) jA ?_;rotate_left
   ·intro w hSw
    (try dsimp only at hSw)
    go_simp
    first | done | with_reducible rfl
   simp only [Act.put,jad,jae,jaf];refine wpAnyH_ready (rs:=[1]) jK jS ?_;refine AllReadyH.cons (o:={ dst:=some 6,op:=.buildSlice 169 1 #[(0,.const (.int .i64 2))],type:=_,pos := "list.go:201", after:=_,guard:=none }) rfl (λK_ hK=>?_) AllReadyH.nil
   (try go_simp)
   go_wp2_with fail;clear hHeld;refine hK.out _ _ ?_ (λhHeld=>?_)
   ·exact ⟨(((jan w.heap.size w).drew.trans (Ac w.drew _)).cell (p:=⟨N,0,none⟩) hNl).trans c0,(((jan w.heap.size w).drew.trans (Ac w.drew _)).cell (p:=⟨N,1,none⟩) hNl).trans c1,(((jan w.heap.size w).drew.trans (Ac w.drew _)).cell (p:=⟨gt,o+n*3+1,none⟩) hgl).trans h1⟩
   clear hK K_;refine wpAnyH_ready (rs:=[2]) jK jS ?_;refine AllReadyH.cons (o:={ dst:=some 7,op:=.call { callee:=.value (.func 95),args:=#[.tmp 5,.tmp 6],argTypes:=#[101,169] },type:=_,pos := "list.go:201", after:=_,guard:=none }) rfl (λK_ hK=>?_) AllReadyH.nil
   (try go_simp)
   go_at_call 95;refine (K.out w.drew (jan _ w).drew).mono ?_;rintro e w1 ⟨rfl,hb⟩;have B1:=jH (Ag hb);clear hb;go_wp2_with fail;clear hHeld;refine hK.out _ _ ?_ (λhHeld=>?_)
   ·exact ⟨(B1.out.cell (p:=⟨N,0,none⟩) hNl).trans c0,(B1.out.cell (p:=⟨N,1,none⟩) hNl).trans c1,(B1.out.cell (p:=⟨gt,o+n*3+1,none⟩) hgl).trans h1⟩
   clear hK K_;refine Aj 3 8 (v:=?_) rfl rfl jK jK jK (λ_ _ _ h=>h) (Or.inl ⟨by rfl,?_⟩) jA ?_;rotate_left
   ·intro w hSw
    (try dsimp only at hSw)
    go_simp
    first | done | with_reducible rfl
   simp only [Act.put,jad,jae,jaf];refine Aj 4 9 (v:=?_) rfl rfl jK jK jK (λ_ _ _ h=>h) (Or.inl ⟨by rfl,?_⟩) jA ?_;rotate_left
   ·intro w hSw
    (try dsimp only at hSw)
    go_simp
    first | done | with_reducible rfl
   simp only [Act.put,jad,jae,jaf];refine Aj 5 10 (v:=?_) rfl rfl jK jK jK (λ_ _ _ h=>h) (Or.inl ⟨by rfl,?_⟩) jA ?_;rotate_left
   ·intro w hSw
    (try dsimp only at hSw)
    go_simp
    first | done | with_reducible rfl
   simp only [Act.put,jad,jae,jaf];refine Aj 6 11 (v:=?_) rfl rfl jK jK jK (λ_ _ _ h=>h) (Or.inl ⟨by rfl,?_⟩) jA ?_;rotate_left
   ·intro w hSw
    (try dsimp only at hSw)
    go_simp
    first | done | with_reducible rfl
   simp only [Act.put,jad,jae,jaf];refine Aj 7 12 (v:=?_) rfl rfl jK jK jK (λ_ _ _ h=>h) (Or.inl ⟨by rfl,?_⟩) jA ?_;rotate_left
   ·intro w hSw
    (try dsimp only at hSw)
    go_simp
    first | done | with_reducible rfl
   simp only [Act.put,jad,jae,jaf];refine Aj 8 13 (v:=?_) rfl rfl jK jK jK (λ_ _ _ h=>h) (Or.inl ⟨by rfl,?_⟩) jA ?_;rotate_left
   ·intro w hSw
    (try dsimp only at hSw)
    go_simp
    first | done | with_reducible rfl
   simp only [Act.put,jad,jae,jaf];refine Aj 9 14 (v:=?_) rfl rfl jK jK jK (λ_ _ _ h=>h) (Or.inl ⟨by rfl,?_⟩) jA ?_;rotate_left
   ·intro w hSw
    (try dsimp only at hSw)
    go_simp
    first | done | with_reducible rfl
   simp only [Act.put,jad,jae,jaf];refine Aj 10 15 (v:=?_) rfl rfl jK jK jK (λ_ _ _ h=>h) (Or.inl ⟨by rfl,?_⟩) jA ?_;rotate_left
   ·intro w hSw
    (try dsimp only at hSw)
    go_simp
    first | done | with_reducible rfl
   simp only [Act.put,jad,jae,jaf];refine Aj 11 16 (v:=?_) rfl rfl jK jK jK (λ_ _ _ h=>h) (Or.inl ⟨by rfl,?_⟩) jA ?_;rotate_left
   ·intro w hSw
    (try dsimp only at hSw)
    go_simp
    first | done | with_reducible rfl
   simp only [Act.put,jad,jae,jaf];refine Aj 12 17 (v:=?_) rfl rfl jK jK jK (λ_ _ _ h=>h) (Or.inl ⟨by rfl,?_⟩) jA ?_;rotate_left
   ·intro w hSw
    (try dsimp only at hSw)
    go_simp
    first | done | with_reducible rfl
   simp only [Act.put,jad,jae,jaf];refine Aj 13 18 (v:=?_) rfl rfl jK jK jK (λ_ _ _ h=>h) (Or.inl ⟨by rfl,?_⟩) jA ?_;rotate_left
   ·intro w hSw
    (try dsimp only at hSw)
    go_simp
    first | done | with_reducible rfl
   simp only [Act.put,jad,jae,jaf];refine Aj 14 19 (v:=?_) rfl rfl jK jK jK (λ_ _ _ h=>h) (Or.inl ⟨by rfl,?_⟩) jA ?_;rotate_left
   ·intro w hSw
    (try dsimp only at hSw)
    go_simp
    first | done | with_reducible rfl
   simp only [Act.put,jad,jae,jaf];refine Aj 15 20 (v:=?_) rfl rfl jK jK jK (λ_ _ _ h=>h) (Or.inl ⟨by rfl,?_⟩) jA ?_;rotate_left
   ·intro w hSw
    (try dsimp only at hSw)
    go_simp
    first | done | with_reducible rfl
   simp only [Act.put,jad,jae,jaf];refine Aj 16 21 (v:=?_) rfl rfl jK jK jK (λ_ _ _ h=>h) (Or.inl ⟨by rfl,?_⟩) jA ?_;rotate_left
   ·intro w hSw
    (try dsimp only at hSw)
    go_simp
    first | done | with_reducible rfl
   simp only [Act.put,jad,jae,jaf];refine Aj 17 22 (v:=?_) rfl rfl jK jK jK (λ_ _ _ h=>h) (Or.inl ⟨by rfl,?_⟩) jA ?_;rotate_left
   ·intro w hSw
    (try dsimp only at hSw)
    go_simp
    first | done | with_reducible rfl
   simp only [Act.put,jad,jae,jaf];refine Aj 18 23 (v:=?_) rfl rfl jK jK jK (λ_ _ _ h=>h) (Or.inl ⟨by rfl,?_⟩) jA ?_;rotate_left
   ·intro w hSw
    (try dsimp only at hSw)
    go_simp
    first | done | with_reducible rfl
   simp only [Act.put,jad,jae,jaf];refine wpAnyH_done jK ?_ _;go_wp2;go_ret;exact ⟨rfl,HH.out.Ae B1.out,Ay.of B1.out⟩
  ·go_enter func60,ntmps60;go_wp2;refine wp_region_held_drew (S:=(λw':World=>w'.cell? ⟨N,0,none⟩=some (.slice (some ⟨gt,o,none⟩) len c)/\w'.cell? ⟨N,1,none⟩=some (.int .i64 n)/\w'.cell? ⟨gt,o+n*3+1,none⟩=some (.string U))) jK ?_ (λhHeld=>?_)
   ·(try dsimp only)
    exact ⟨((jan w.heap.size w).drew.cell (p:=⟨N,0,none⟩) hNl).trans c0,((jan w.heap.size w).drew.cell (p:=⟨N,1,none⟩) hNl).trans c1,((jan w.heap.size w).drew.cell (p:=⟨gt,o+n*3+1,none⟩) hgl).trans h1⟩
   refine Aj 0 5 (v:=?_) rfl rfl jK jK jK (λ_ _ _ h=>h) (Or.inl ⟨by rfl,?_⟩) jA ?_;rotate_left
   ·intro w hSw
    (try dsimp only at hSw)
    go_simp
    first | done | with_reducible rfl
   simp only [Act.put,jad,jae,jaf];refine wpAnyH_ready (rs:=[1]) jK jS ?_;refine AllReadyH.cons (o:={ dst:=some 6,op:=.buildSlice 169 1 #[(0,.const (.int .i64 2))],type:=_,pos := "list.go:201", after:=_,guard:=none }) rfl (λK_ hK=>?_) AllReadyH.nil
   (try go_simp)
   go_wp2_with fail;clear hHeld;refine hK.out _ _ ?_ (λhHeld=>?_)
   ·exact ⟨(((jan w.heap.size w).drew.trans (Ac w.drew _)).cell (p:=⟨N,0,none⟩) hNl).trans c0,(((jan w.heap.size w).drew.trans (Ac w.drew _)).cell (p:=⟨N,1,none⟩) hNl).trans c1,(((jan w.heap.size w).drew.trans (Ac w.drew _)).cell (p:=⟨gt,o+n*3+1,none⟩) hgl).trans h1⟩
   clear hK K_;refine wpAnyH_ready (rs:=[2]) jK jS ?_;refine AllReadyH.cons (o:={ dst:=some 7,op:=.call { callee:=.value (.func 95),args:=#[.tmp 5,.tmp 6],argTypes:=#[101,169] },type:=_,pos := "list.go:201", after:=_,guard:=none }) rfl (λK_ hK=>?_) AllReadyH.nil
   (try go_simp)
   go_at_call 95;refine (K.out w.drew (jan _ w).drew).mono ?_;rintro e w1 ⟨rfl,hb⟩;have B1:=jH (Ag hb);clear hb;go_wp2_with fail;clear hHeld;refine hK.out _ _ ?_ (λhHeld=>?_)
   ·exact ⟨(B1.out.cell (p:=⟨N,0,none⟩) hNl).trans c0,(B1.out.cell (p:=⟨N,1,none⟩) hNl).trans c1,(B1.out.cell (p:=⟨gt,o+n*3+1,none⟩) hgl).trans h1⟩
   clear hK K_;refine Aj 3 8 (v:=?_) rfl rfl jK jK jK (λ_ _ _ h=>h) (Or.inl ⟨by rfl,?_⟩) jA ?_;rotate_left
   ·intro w hSw
    (try dsimp only at hSw)
    go_simp
    first | done | with_reducible rfl
   simp only [Act.put,jad,jae,jaf];refine Aj 4 9 (v:=?_) rfl rfl jK jK jK (λ_ _ _ h=>h) (Or.inl ⟨by rfl,?_⟩) jA ?_;rotate_left
   ·intro w hSw
    (try dsimp only at hSw)
    go_simp
    first | done | with_reducible rfl
   simp only [Act.put,jad,jae,jaf];refine Aj 5 10 (v:=?_) rfl rfl jK jK jK (λ_ _ _ h=>h) (Or.inl ⟨by rfl,?_⟩) jA ?_;rotate_left
   ·intro w hSw
    (try dsimp only at hSw)
    go_simp
    first | done | with_reducible rfl
   simp only [Act.put,jad,jae,jaf];refine Aj 6 11 (v:=?_) rfl rfl jK jK jK (λ_ _ _ h=>h) (Or.inl ⟨by rfl,?_⟩) jA ?_;rotate_left
   ·intro w hSw
    (try dsimp only at hSw)
    go_simp
    first | done | with_reducible rfl
   simp only [Act.put,jad,jae,jaf];refine Aj 7 12 (v:=?_) rfl rfl jK jK jK (λ_ _ _ h=>h) (Or.inl ⟨by rfl,?_⟩) jA ?_;rotate_left
   ·intro w hSw
    (try dsimp only at hSw)
    go_simp
    first | done | with_reducible rfl
   simp only [Act.put,jad,jae,jaf];refine Aj 8 13 (v:=?_) rfl rfl jK jK jK (λ_ _ _ h=>h) (Or.inl ⟨by rfl,?_⟩) jA ?_;rotate_left
   ·intro w hSw
    (try dsimp only at hSw)
    go_simp
    first | done | with_reducible rfl
   simp only [Act.put,jad,jae,jaf];refine Aj 9 14 (v:=?_) rfl rfl jK jK jK (λ_ _ _ h=>h) (Or.inl ⟨by rfl,?_⟩) jA ?_;rotate_left
   ·intro w hSw
    (try dsimp only at hSw)
    go_simp
    first | done | with_reducible rfl
   simp only [Act.put,jad,jae,jaf];refine Aj 10 15 (v:=?_) rfl rfl jK jK jK (λ_ _ _ h=>h) (Or.inl ⟨by rfl,?_⟩) jA ?_;rotate_left
   ·intro w hSw
    (try dsimp only at hSw)
    go_simp
    first | done | with_reducible rfl
   simp only [Act.put,jad,jae,jaf];refine Aj 11 16 (v:=?_) rfl rfl jK jK jK (λ_ _ _ h=>h) (Or.inl ⟨by rfl,?_⟩) jA ?_;rotate_left
   ·intro w hSw
    (try dsimp only at hSw)
    go_simp
    first | done | with_reducible rfl
   simp only [Act.put,jad,jae,jaf];refine Aj 12 17 (v:=?_) rfl rfl jK jK jK (λ_ _ _ h=>h) (Or.inl ⟨by rfl,?_⟩) jA ?_;rotate_left
   ·intro w hSw
    (try dsimp only at hSw)
    go_simp
    first | done | with_reducible rfl
   simp only [Act.put,jad,jae,jaf];refine Aj 13 18 (v:=?_) rfl rfl jK jK jK (λ_ _ _ h=>h) (Or.inl ⟨by rfl,?_⟩) jA ?_;rotate_left
   ·intro w hSw
    (try dsimp only at hSw)
    go_simp
    first | done | with_reducible rfl
   simp only [Act.put,jad,jae,jaf];refine Aj 14 19 (v:=?_) rfl rfl jK jK jK (λ_ _ _ h=>h) (Or.inl ⟨by rfl,?_⟩) jA ?_;rotate_left
   ·intro w hSw
    (try dsimp only at hSw)
    go_simp
    first | done | with_reducible rfl
   simp only [Act.put,jad,jae,jaf];refine Aj 15 20 (v:=?_) rfl rfl jK jK jK (λ_ _ _ h=>h) (Or.inl ⟨by rfl,?_⟩) jA ?_;rotate_left
   ·intro w hSw
    (try dsimp only at hSw)
    go_simp
    first | done | with_reducible rfl
   simp only [Act.put,jad,jae,jaf];refine Aj 16 21 (v:=?_) rfl rfl jK jK jK (λ_ _ _ h=>h) (Or.inl ⟨by rfl,?_⟩) jA ?_;rotate_left
   ·intro w hSw
    (try dsimp only at hSw)
    go_simp
    first | done | with_reducible rfl
   simp only [Act.put,jad,jae,jaf];refine Aj 17 22 (v:=?_) rfl rfl jK jK jK (λ_ _ _ h=>h) (Or.inl ⟨by rfl,?_⟩) jA ?_;rotate_left
   ·intro w hSw
    (try dsimp only at hSw)
    go_simp
    first | done | with_reducible rfl
   simp only [Act.put,jad,jae,jaf];refine Aj 18 23 (v:=?_) rfl rfl jK jK jK (λ_ _ _ h=>h) (Or.inl ⟨by rfl,?_⟩) jA ?_;rotate_left
   ·intro w hSw
    (try dsimp only at hSw)
    go_simp
    first | done | with_reducible rfl
   simp only [Act.put,jad,jae,jaf];refine wpAnyH_done jK ?_ _;obtain ⟨-,k1,-⟩:=(HH.out.Ae B1.out).all;have f1:=(HH.out.Ae B1.out).fr 1;go_wp2;go_ret;have P2:=(HH.out.Ae B1.out).Qc (n+1);rw [show ((n+1:Nat):Int)=(n:Int)+1 by omega] at P2;exact ⟨rfl,P2,(Ay.of B1.out).set 1 _⟩
end
section
open Go.RowKit Utf Go.Shelf
structure C9 (N S:Nat) (w w':World):Prop where
 os:w'.os=w.os
 tape:w'.tape=w.tape
 output:w'.output=w.output
 size:w.heap.size<=w'.heap.size
 block:∀ k,k<S->k ≠ N->w'.heap[k]? = w.heap[k]?
section
variable {N S:Nat} {a b c:World}
theorem C9.refl (N S:Nat) (w:World):C9 N S w w:=⟨rfl,rfl,rfl,jaa _,λ_ _ _=>rfl⟩
theorem C9.trans (h:C9 N S a b) (k:C9 N S b c):C9 N S a c:=⟨k.os.trans h.os,k.tape.trans h.tape,k.output.trans h.output,Nat.le_trans h.size k.size,λi h1 h2=>(k.block i h1 h2).trans (h.block i h1 h2)⟩
theorem C9.Jw (h:Ay N a b) (hS:S<=a.heap.size):C9 N S a b:=⟨h.os,h.tape,h.output,h.size,λk hk hne=>h.block k jO hne⟩
theorem C9.Ch (h:Below S a b):C9 N S a b:=⟨h.os,h.tape,h.output,h.size,λk hk _=>h.block k hk⟩
theorem C9.set (h:C9 N S a b) (k:Nat) (u:Value):C9 N S a (b.setCell ⟨N,k,none⟩ u):=h.trans ⟨rfl,rfl,rfl,by simp [World.setCell],λi _ hne=>Below.heap_setCell _ _ _ _ hne⟩
theorem C9.only (h:C9 N a.heap.size a b):Ay N a b:=⟨h.os,h.tape,h.output,h.size,λk hk hne=>h.block k hk hne⟩
end
theorem Kw {N base n k:Nat} {E:TypeId} {v:Value} {xs:List Value} {w w':World} (h:w.ownsRow base E k v n xs) (o:Ay N w w') (hN:N<base):w'.ownsRow base E k v n xs:=by
 refine ⟨h.1,?_⟩;rcases h.2 with h0 | ⟨g,cap,cur,rfl,h1,hg,h2⟩
 · exact .inl h0
 · exact .inr ⟨g,cap,cur,rfl,h1,(o.block g (Array.getElem?_eq_some_iff.1 hg).1 jO).trans hg,h2⟩
theorem Dz.only {N base:Nat} {v:Value} {l:List Lst.Ent} {w w':World} (h:Dz base v l w) (o:Ay N w w') (hN:N<base):Dz base v l w' :=
 h.same λg _ _ hb _ hg=>o.block g (Array.getElem?_eq_some_iff.1 hg).1 jO
theorem Vn (W:World) (base:Nat) (v:Value) (l:List (List UInt8)) (hown:Bl base v l W) (hbase:base<=W.heap.size) (hlen:l.length<=1000000) (x:List UInt8) {X:ByteArray} (hX:X=⟨x.toArray⟩)
  (N:Nat) (hN:N=W.heap.size)
  {ops:Array Oper} {o:Oper} {a:Act} {K:Act->World->Prop} {Q:Exit->Act->World->Prop} {F:Prop} (hgd:o.guard=none) (s y:Operand)
  (ho:o.op=.call { callee:=.builtin .append,args:=#[s,y],argTypes:=#[94,94] })
  (hs:a.eval s=v) (hx:a.eval y=.slice (some ⟨N,0,none⟩) 1 1)
  (h:∀ v' w',Bl base v' (l ++ [x]) w'->Below base W w'->K (a.put o.dst v') w'):if Region.wanted o (yielded ops a.tmps)=true then Oper.wp prog o a (W.alloc (.cells #[.string X] 9)) K Q else F:=by
 subst hN hX;rw [if_pos (by simp [Region.wanted,hgd])];obtain ⟨i0,hi0,hz0,hs0,hb0⟩:=info_parts Jj;have hown':=World.ownsRow.alloc hown (.cells #[.string ⟨x.toArray⟩] 9);refine wp_append_own _ s y 94 ho base 9 i0 (.string ⟨#[]⟩) 1 16 underlying94 hi0 hz0 hs0 hb0 rfl jD v l.length (l.map Nt) hs hown' ⟨W.heap.size,0,none⟩ 1 1 [.string ⟨x.toArray⟩] hx rfl ?_ (λu hu=>by rw [List.mem_singleton.1 hu];rfl) (by simp only [maxLen];omega) jO (by simp;omega) ?_
 ·intro j u hj;have e:(⟨W.heap.size,0,none⟩:Addr).add j=⟨W.heap.size,j,none⟩:=by unfold Addr.add;split<;>simp_all
  have hj':j<1:=(List.getElem?_eq_some_iff.1 hj).1;rw [e,World.cell?_alloc_at _ _ _ _ jS];rw [<- hj];obtain rfl:j=0:=jO
  rfl
 ·intro v' w' ho' hg _;refine h v' w' ?_ (((jan _ W).alloc hbase _).grown hg (by simp;omega) λk hk=>(World.ownsRow.lt hown' k hk).1);unfold Bl;rw [jab,List.map_append];exact ho'
theorem Aj1 (sep:ByteArray) (w:World):Calls prog 54 #[.slice none 0 0,.string sep] w λe w'=>e=.returned (.string ⟨#[]⟩)/\Below w.heap.size w w':=by
 go_enter func54,ntmps54;go_wp2;go_ret;exact ⟨rfl,jan _ _⟩
theorem Ns (base:Nat) (v:Value) (l:List (List UInt8)) (sep:List UInt8) (w:World) (hv:Bl base v l w) (hn:l.length<=1000000) (hlen:(Lib.join l sep).length<=140737488355328) :
  Calls prog 54 #[v,.string ⟨sep.toArray⟩] w λe w'=>e=.returned (.string ⟨(Lib.join l sep).toArray⟩)/\Below w.heap.size w w':=by
 rcases hv.2 with ⟨rfl,h0⟩ | ⟨g,cap,cur,rfl,-⟩
 ·obtain rfl:=List.eq_nil_of_length_eq_zero h0;exact Aj1 _ w
 ·exact Vf base g _ cap l sep w hv hn hlen
end
section
open Go.RowKit Utf Go.Shelf
theorem Lst.Awl {l:List Mbx.S} (F:Sml l) (n:Nat):(Lib.join (Lst.texts (l.drop n)) [32]).length<=4000:=by
 rw [<- Lst.Tk,<- Lst.Apk];have h1:=Lst.Aij (l.drop n);have h2:=Mbx.Iz l n;have h3:=F.len;have h4:=F.outs;rw [jaj] at h1;omega
theorem U6 (N:Nat) (vT vE vB:Value) (l:List Mbx.S) (n:Nat) (s x y:ByteArray) (w:World) (H:Au N vT vE vB l n s x y w) (hn:n<=l.length) (F:Sml l) :
  Calls prog 97 #[.pointer (some ⟨N,0,none⟩)] w λe w'=>e=.returned (.bool true)/\Au N vT vE vB l (n+Lst.len (l.drop n)) ⟨(Lst.name (l.drop n)).toArray⟩ x y w'/\Ay N w w':=by
 have hl:=F.len;have HF:=jH F;have hjl:=Lst.Awl F n;obtain ⟨M,hM⟩:∃ M,M=n+Lst.len (l.drop n):=⟨_,rfl⟩
 obtain ⟨TT,hTT⟩:∃ TT,TT=Lst.texts (l.drop n):=⟨_,rfl⟩
 rw [Lst.Apk,Lst.Tk,<- hM,<- hTT];rw [<- hTT] at hjl;have p0:=Lst.Acp l n;have d0:=Lst.Ac9 l n;have f0:=Mbx.Ky hn;have HTT:=jH (hTT.trans p0.2);have HM:=jH (show M=n+Mbx.skip (l.drop n)+Lst.len (l.drop (n+Mbx.skip (l.drop n))) by rw [hM,p0.1];omega);have K0:=jH (F9 N vT vE vB l n s x y w H hn F);generalize n+Mbx.skip (l.drop n)=m0 at d0 f0 HTT HM K0;have D0:=jH d0;have hNw:=H.lt;have HJ:=jH hjl;clear hTT hM p0 d0 hjl F H hn;go_enter func97,ntmps97;go_wp2_with fail;refine K0.out.mono ?_;rintro e w1 ⟨rfl,h1,o1⟩;have P1:=jH h1;have O1:=jH o1;clear h1 o1 K0;go_wp2;go_loopg [3,6] (l.length+1) (λgk s3 _ wr=>∃ (m:Nat) (ws:List (List UInt8)),m<=l.length/\l.length - m<gk/\ws.length<=m/\Hid (Lst.Kq l m [4,3]=false/\ws ++ Lst.texts (l.drop m)=TT/\m+Lst.len (l.drop m)=M/\Au N vT vE vB l m s x y wr/\Ay N w wr/\Bl w.heap.size s3 ws wr))
 case atStart=>exact ⟨m0,[],f0,by omega,Nat.zero_le _,jH ⟨D0.out,HTT.out.symm,HM.out.symm,P1.out,O1.out,World.ownsRow_nil _ _ _ _⟩⟩
 case round =>
  clear P1 O1 D0 HTT HM;obtain ⟨m,ws,hm,hg,hws,I⟩:=hrel;have K:=Aho N vT vE vB l m s x y wr I.out.2.2.2.1 0 1 hm;cases h0:Lst.Kq l m [0,1]
  ·rw [h0] at K;have K:=jH K;obtain ⟨e1,e2⟩:=Lst.Axm I.out.1 h0;have E1:=jH (show m=M by have:=I.out.2.2.1;rw [e1] at this;omega);have E2:=jH (show ws=TT by have:=I.out.2.1;rwa [e2,List.append_nil] at this);clear h0 e1 e2;go_wp2_with fail;refine K.out.mono ?_;rintro e w2 ⟨rfl,hb⟩;have B2:=jH hb;clear hb;go_wp2_with fail;refine (Ns w.heap.size _ ws [32] w2 (I.out.2.2.2.2.2.Ae B2.out) jO (by rw [E2.out];have:=HJ.out;omega)).mono ?_;rintro e w3 ⟨rfl,hb⟩;have P3:=(I.out.2.2.2.1.Ae B2.out).Ae hb;have O3:=(I.out.2.2.2.2.1.then (B2.out.mono I.out.2.2.2.2.1.size)).then (hb.mono (Nat.le_trans I.out.2.2.2.2.1.size B2.out.size))
   have f3:=P3.fr 3;have P4:=jH (P3.R9 ⟨(Lib.join ws [32]).toArray⟩);have O4:=jH (O3.set 3 (.string ⟨(Lib.join ws [32]).toArray⟩));obtain ⟨-,-,-,c3,-⟩:=P3.all;clear P3 O3 hb;go_wp2;go_ret;have e1:=E1.out;have e2:=E2.out;subst e1 e2;exact ⟨rfl,P4.out,O4.out⟩
  ·rw [h0] at K;have K:=jH K;obtain ⟨hlt,e1,e2⟩:=Lst.Ass h0;have p0:=Lst.Acp l (m+1);have d0:=Lst.Ac9 l (m+1);have f0':=Mbx.Ky (l:=l) (n:=m+1) jO;have E1:=jH (show m+1+Mbx.skip (l.drop (m+1))+Lst.len (l.drop (m+1+Mbx.skip (l.drop (m+1))))=M by have:=I.out.2.2.1;rw [e1,p0.1] at this;omega);have E2:=jH (show (ws ++ [l[m].2]) ++ Lst.texts (l.drop (m+1+Mbx.skip (l.drop (m+1))))=TT by have:=I.out.2.1;rw [e2,p0.2] at this;rw [jaq];exact this);have D:=jH d0;have hge:m+1<=m+1+Mbx.skip (l.drop (m+1)):=Nat.le_add_right _ _;have KO:=λW (h:Au N vT vE vB l (m+1) s x y W)=>F9 N vT vE vB l (m+1) s x y W h jO HF.out;generalize m+1+Mbx.skip (l.drop (m+1))=m1 at E1 E2 D hge f0' KO;have KO:=jH KO;clear h0 e1 e2 p0 d0;obtain ⟨u,hu⟩:∃ u,u=l[m].2:=⟨_,rfl⟩
   rw [<- hu] at E2;have hiz:(m:Int)<(l.length:Int):=jO
   go_wp2_with fail;refine K.out.mono ?_;rintro e w2 ⟨rfl,hb⟩;have P2:=I.out.2.2.2.1.Ae hb;have hs2:=Nat.le_trans I.out.2.2.2.2.1.size hb.size;have S2:=jH (I.out.2.2.2.2.2.Ae hb);have O2:=jH (I.out.2.2.2.2.1.then (hb.mono I.out.2.2.2.2.1.size));obtain ⟨c0,c1,-⟩:=P2.all;obtain ⟨A,c,rfl,hc,h⟩:=P2.Jp;obtain ⟨gt,o,rfl,hgN,-,h1,-⟩:=h m hlt;rw [<- hu] at h1;have PP2:=jH P2;have I:=I.out.1;clear hb h P2 hu K I;generalize hlen:l.length=len at *;have HL:=jH hlen;clear hlen;go_wp2;go_region_law ((refine Vn w2.drew w.heap.size _ ws (World.ownsRow.drew S2.out) hs2 jO u rfl _ rfl rfl _ _ rfl rfl rfl ?_;intro v3 w3 ho3 hb3;have S3:=jH ho3;have b3:=(jan w.heap.size w2).drew.trans hb3;have P3:=PP2.out.kept (λk hk=>b3.block k jO);have O3:=jH (O2.out.then b3);obtain ⟨-,d1,-⟩:=P3.all;have f1:=P3.fr 1;have PP3:=jH P3;clear ho3 hb3 b3 P3))
   all_goals
    go_wp2_with fail;have P4:=PP3.out.Qc (m+1);rw [show ((m+1:Nat):Int)=(m:Int)+1 by omega] at P4;have O4:=jH (O3.out.set 1 (.int .i64 ((m:Int)+1)));refine (KO.out _ P4).mono ?_;rintro e w5 ⟨rfl,h5,o5⟩;have S5:Bl w.heap.size v3 (ws ++ [u]) w5:=Kw S3.out (((Ay.refl N _).set 1 _).trans o5) hNw;go_wp2;go_roundg (len - m)
    case measure=>omega
    case rel=>exact ⟨m1,ws ++ [u],by omega,by omega,by simp;omega,jH ⟨D.out,E2.out,E1.out,h5,O4.out.trans o5,S5⟩⟩
end
