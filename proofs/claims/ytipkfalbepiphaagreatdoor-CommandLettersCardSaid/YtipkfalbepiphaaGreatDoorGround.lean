import Derived.Test.YtipkfalbepiphaaGreatDoorProg
import Derived.WalkKit
import Derived.Deep.Draws
import Derived.Test.YtipkfalbepiphaaGreatDoorTabPl
import Derived.WalkSpells
import Derived.WalkLawsBesides
import Derived.Deep.QuietTactic
import Derived.Deep.RegionHeld3
import Derived.StillTailTactics
import Derived.Deep.RegionWith
import Derived.Deep.LoopGhost
import Derived.BigQuiet
import Derived.RegionTactic
import Derived.Lib.Hide
import Derived.Shelf.Abstract
namespace Go.Proofs.YtipkfalbepiphaaGreatDoor
open Tryz
section
open Go.RowKit
theorem jK {p:Prop}(h:p:=by kernel_rfl):p:=h
theorem jam:type_of% @World.block_lt_of_cell?:=@World.block_lt_of_cell?
theorem jan:type_of% @Below.refl:=@Below.refl
theorem jB {w w1:World}{p v}(hb:Below w.heap.size w w1)(h:w.cell? p=some v):w1.cell? p=some v:=(hb.cell (World.block_lt_of_cell? _ _ h)).trans h
end
theorem jH {p:Prop} (h:p):Go.RowKit.Hid p:=h
section
open Go.RowKit
theorem Kc {w w':World} (h:Below w.heap.size w w') {p:Addr} {v:Value} (t:w.cell? p=some v):w'.cell? p=some v:=(h.cell (jam _ _ t)).trans t
theorem below_drewN {B:Nat} {a w:World} (h:Below B a w) (n:Nat):Below B a (w.drewN n):=⟨h.os,h.tape,h.output,h.size,h.block⟩
theorem Ag {w w':World} (h:Below w.drew.heap.size w.drew w'):Below w.heap.size w w':=⟨h.os,h.tape,h.output,h.size,h.block⟩
theorem Ab (w:World) (o:Obj):Below w.heap.size w (w.alloc o):=(jan _ w).alloc (jaa _) o
theorem Ap {B:Nat} {a w:World} (h:Below B a w) (hB:B<=a.heap.size) (o:Obj):Below B a (w.alloc o):=h.alloc (Nat.le_trans hB h.size) o
theorem Aa {a b c:World} (h:Below a.heap.size a b) (k:Below b.heap.size b c):Below a.heap.size a c:=h.trans (k.mono h.size)
end
section
open Go.RowKit
def Ami (n:Nat) (p:Nat->Bool) (w0:World) (e:Ending) (w':World):Prop :=
 ∃ k:Nat,k<=n/\(∀ t,t<k->p t=false)/\(∀ t,k<=t->t<n->p t=true)/\e=.returned (.int .i64 k)/\Below w0.heap.size w0 w'
set_option maxHeartbeats 2000000 in
set_option maxRecDepth 100000 in
theorem M6 (g:Nat) (cb:Array Value) (n:Nat) (p:Nat->Bool) (w0 w:World) (hb:Below w0.heap.size w0 w) (eg:∀ args w,(callFunc g args).run prog w=.ok (.enter g args) w) (hsz:n<4611686018427387904)
  (hf:∀ (W:World) (i:Nat),Below w0.heap.size w0 W->i<n->Calls prog g (#[.int .i64 i] ++ cb) W λe w'=>e=.returned (.bool (p i))/\Below w0.heap.size w0 w')
  (hmono:∀ a b,a<=b->b<n->p a=true->p b=true) :
  Calls prog 272 #[.int .i64 n,.func (.func g) #[] cb] w (Ami n p w0):=by
 have HF:=Lib.hid hf;have M:=Lib.hid hmono;have HB:=Lib.hid hb;clear hf hmono hb;go_enter func272,ntmps272;go_wp2;go_loopg [5,6] n (λkx s5 s6 wr=>∃ (lo hi:Nat),s5=.int .i64 lo/\s6=.int .i64 hi/\lo<=hi/\hi<=n/\hi - lo<=kx/\Hid (Below w0.heap.size w0 wr) /\
  Hid ((∀ t,t<lo->p t=false)/\(∀ t,hi<=t->t<n->p t=true)))
 case atStart=>exact ⟨0,n,rfl,rfl,Nat.zero_le _,jaa _,by omega,HB,(⟨λt ht=>absurd ht (Nat.not_lt_zero _),λt h1 h2=>by omega⟩:(∀ t,t<0->p t=false)/\(∀ t,n<=t->t<n->p t=true))⟩
 case round =>
  obtain ⟨lo,hi,rfl,rfl,hlh,hin,hg,HW,I⟩:=hrel;by_cases hlt:lo<hi
  ·have hc:=HF.out wr ((lo+hi) / 2) HW.out jO;rw [show (((lo+hi) / 2:Nat):Int)=((lo:Int)+(hi:Int)) / 2 by omega] at hc;cases hp:p ((lo+hi) / 2)<;>rw [hp] at hc
   ·have HP:=Lib.hid hp;clear hp;go_wp2_with fail;refine hc.mono ?_;rintro e w2 ⟨rfl,hb'⟩;have HB2:=Lib.hid hb';clear hc hb';go_wp2;go_roundg (hi - ((lo+hi) / 2+1))
    case measure=>omega
    case rel =>
     have I2:Hid ((∀ t,t<(lo+hi) / 2+1->p t=false)/\(∀ t,hi<=t->t<n->p t=true)):=⟨λt ht=>(by
      cases h:p t with
      | false=>rfl
      | true=>have:=M.out t ((lo+hi) / 2) jO jO h;rw [HP.out] at this;cases this),I.out.2⟩
     exact ⟨(lo+hi) / 2+1,hi,by rw [show ((lo:Int)+(hi:Int)) / 2+1=(((lo+hi) / 2+1:Nat):Int) by omega],rfl,by omega,hin,jaa _,HB2,I2⟩
   ·have HP:=Lib.hid hp;clear hp;go_wp2_with fail;refine hc.mono ?_;rintro e w2 ⟨rfl,hb'⟩;have HB2:=Lib.hid hb';clear hc hb';go_wp2;go_roundg ((lo+hi) / 2 - lo)
    case measure=>omega
    case rel =>
     have I2:Hid ((∀ t,t<lo->p t=false)/\(∀ t,(lo+hi) / 2<=t->t<n->p t=true)):=⟨I.out.1,λt ht htn=>M.out ((lo+hi) / 2) t ht htn HP.out⟩
     exact ⟨lo,(lo+hi) / 2,rfl,by rw [show ((lo:Int)+(hi:Int)) / 2=(((lo+hi) / 2:Nat):Int) by omega],by omega,by omega,jaa _,HB2,I2⟩
  ·obtain rfl:hi=lo:=jO
   go_wp2;go_ret;exact ⟨hi,hin,I.out.1,I.out.2,rfl,HW.out⟩
section
variable {α:Type} [Inhabited α]
def Ko (enc:α->List Value) (k:Nat) (rows:List α) (b:Nat) (w:World):Prop :=
 b<w.heap.size/\∀ j,j<rows.length->∀ i v,(enc rows[j]!)[i]? = some v->w.cell? ⟨b,j*k+i,none⟩=some v
theorem Ko.below {enc:α->List Value} {k:Nat} {rows:List α} {b:Nat} {w w':World} (h:Ko enc k rows b w) (hb:Below w.heap.size w w'):Ko enc k rows b w' :=
 ⟨jas h.1 hb.size,λj hj i v hv=>(hb.cell (p:=⟨b,j*k+i,none⟩) h.1).trans (h.2 j hj i v hv)⟩
end
theorem Jf (W:World) (v:Value) (t:TypeId):(W.alloc (.cells #[v] t)).cell? ⟨W.heap.size,0,none⟩=some v:=by
 rw [World.cell?_alloc_at _ _ _ _ jS];rfl
theorem Ge {W:World} {a:Addr} {v:Value} (o:Obj) (h:W.cell? a=some v):(W.alloc o).cell? a=some v :=
 (Below.cell ((jan _ W).alloc (jaa _) o) (jam _ _ h)).trans h
end
