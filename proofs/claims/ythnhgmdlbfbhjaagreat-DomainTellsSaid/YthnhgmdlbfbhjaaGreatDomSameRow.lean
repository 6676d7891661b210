import Derived.Test.YthnhgmdlbfbhjaaGreatDomMid
namespace Go.Proofs.YthnhgmdlbfbhjaaGreat
open Go.RowKit
theorem Ajq {a b:List (List UInt8)} (hl:a.length=b.length) (h:∀ j,j<a.length->a[j]! = b[j]!):a=b:=by
 apply List.ext_getElem hl
 intro i h1 h2
 have:=h i h1
 rw [getElem!_pos a i h1,getElem!_pos b i h2] at this
 exact this
def Akc (a b:List (List UInt8)) (w:World) (e:Ending) (w':World):Prop:=e=.returned (.bool (decide (a=b)))/\Below w.heap.size w w'
set_option maxHeartbeats 2000000 in
set_option maxRecDepth 100000 in
theorem V9 (x y:Value) (a b:List (List UInt8)) (w:World) (hx:Te x a w) (hy:Te y b w) (hn:a.length<=100000):Calls Tryz.prog 17 #[x,y] w (Akc a b w):=by
 obtain ⟨A,c,rfl,-,hA⟩:=hx.form
 obtain ⟨B,d,rfl,-,hB⟩:=hy.form
 have HA:=jH hA
 have HB:=jH hB
 clear hx hy hA hB
 by_cases hl:a.length=b.length
 ·have HL:=jH hl
  have hle:b.length=a.length:=hl.symm
  rw [hle]
  clear hl hle
  go_enter Tryz.func17,Tryz.ntmps17
  go_wp2
  go_loopg [5] (a.length+1) (λgk i wr=>∃ k:Nat,k<=a.length/\i=.int .i64 k/\a.length - k<gk/\Hid ((∀ j,j<k->a[j]! = b[j]!)/\Below w.heap.size w wr))
  case atStart=>exact ⟨0,Nat.zero_le _,rfl,by omega,⟨λj hj=>absurd hj (by omega),Below.refl _ _⟩⟩
  case round =>
   obtain ⟨k,hk,rfl,hg,I⟩:=hrel
   by_cases hlt:k<a.length
   ·obtain ⟨ad,rfl,h1,hc1⟩:=HA.out k hlt
    obtain ⟨bd,rfl,h2,hc2⟩:=HB.out k (by rw [<- HL.out];exact hlt)
    have c1:=(I.out.2.cell (by rw [Ah];exact h1)).trans hc1
    have c2:=(I.out.2.cell (by rw [Ah];exact h2)).trans hc2
    unfold Rt at c1 c2
    obtain ⟨p,hp⟩:∃ p,p=a[k]!:=⟨_,rfl⟩
    obtain ⟨q,hq⟩:∃ q,q=b[k]!:=⟨_,rfl⟩
    rw [<- hp] at c1
    rw [<- hq] at c2
    have HP:=jH hp
    have HQ:=jH hq
    clear hp hq hc1 hc2 h1 h2
    have hkz:(k:Int)<(a.length:Int):=by omega
    by_cases he:p=q
    ·have I2:Hid ((∀ j,j<k+1->a[j]! = b[j]!)/\Below w.heap.size w wr):=⟨λj hj=>(by
      rcases (show j<k\/j=k by omega) with h | rfl
      · exact I.out.1 j h
      · rw [<- HP.out,<- HQ.out];exact he),I.out.2⟩
     subst he
     have hne:(p == p)=true:=by simp
     clear I
     go_wp2
     go_quiet (fail)
     go_wp2
     go_roundg (a.length - k)
     case measure=>omega
     case rel=>exact ⟨k+1,by omega,by go_num,by omega,⟨I2.out.1,below_drewN I2.out.2 _⟩⟩
    ·have hne:(p == q)=false:=by simpa using he
     have HE:=jH he
     clear he
     go_wp2
     go_quiet (fail)
     go_wp2
     go_ret
     refine ⟨?_,below_drewN I.out.2 _⟩
     rw [decide_eq_false (λe=>HE.out (by rw [HP.out,HQ.out,e]))]
     rfl
   ·obtain rfl:k=a.length:=by omega
    go_wp2
    go_ret
    refine ⟨?_,I.out.2⟩
    rw [decide_eq_true (Ajq HL.out I.out.1)]
    rfl
 ·have hne:((a.length:Int) != (b.length:Int))=true:=by simpa using (by omega:¬ (a.length:Int)=(b.length:Int))
  have HL:=jH hl
  clear hl
  go_enter Tryz.func17,Tryz.ntmps17
  go_wp2
  go_ret
  refine ⟨?_,Below.refl _ _⟩
  rw [decide_eq_false (λe=>HL.out (by rw [e]))]
  rfl
end Go.Proofs.YthnhgmdlbfbhjaaGreat
