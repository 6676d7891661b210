/-
  Proved here: the statement UtfWrites, as a call: it answers true at every slice of numbers and every number. Conditions: the slice can be read.
-/
import Derived.Test.YtadppccnngfjiaaUtfHead
namespace Go.Proofs.Ytadppccnngfjiaa
open Go.RowKit Utf
theorem below_start {a b c : World} (h : Below a.heap.size a b) (k : Below b.heap.size b c) : Below a.heap.size a c := below_then h k
/-- The two results of String, as a walk takes them. -/
def strB (l : List Int) : List UInt8 := if rightsZ l then encZ l else []
def StrAt (bs : List UInt8) (ok : Bool) (w : World) (e : Ending) (w' : World) : Prop := e = .returned (.tuple #[.string ⟨bs.toArray⟩, .bool ok]) ∧ Below w.heap.size w w'
theorem str_at {l : List Int} {bs : List UInt8} {ok : Bool} (hr : rightsZ l = ok) (hb : strB l = bs) {w : World} {e : Ending} {w' : World} (h : StrPost l w e w') : StrAt bs ok w e w' := by
  obtain ⟨he, hw⟩ := h
  refine ⟨?_, hw⟩
  unfold strB at hb
  cases ok with
  | true => rw [hr] at he hb; rw [if_pos rfl] at hb; rw [he, ← hb]; rfl
  | false => rw [hr] at he hb; rw [if_neg (by decide)] at hb; rw [he, ← hb]; rfl
theorem string_at (v : Value) (l : List Int) (w : World) (hl : Runes v l w) (hn : l.length ≤ 20000) {bs : List UInt8} {ok : Bool} (hr : rightsZ l = ok) (hb : strB l = bs) :
    Calls Try.prog 14 #[v] w (StrAt bs ok w) := (string_any v l w hl hn).mono fun _ _ h => str_at hr hb h
theorem refString_at (v : Value) (l : List Int) (w : World) (hl : Runes v l w) (hn : l.length ≤ 20000) {bs : List UInt8} {ok : Bool} (hr : rightsZ l = ok) (hb : strB l = bs) :
    Calls Try.prog 15 #[v] w (StrAt bs ok w) := (refString_any v l w hl hn).mono fun _ _ h => str_at hr hb h
set_option maxHeartbeats 4000000 in
set_option maxRecDepth 100000 in
theorem writes_walk (v : Value) (l : List Int) (r : Int) (w : World) (hl : Runes v l w) : Calls Try.prog 4 #[v, .int .i32 r] w fun e w' => e = .returned (.bool true) ∧ Below w.heap.size w w' := by
  obtain ⟨A, c, rfl, -, -⟩ := hl.form
  have HL := Lib.hid hl
  clear hl
  by_cases hn : l.length ≤ 2000
  · have hnz : (l.length : Int) ≤ 2000 := by omega
    obtain ⟨ok, hok⟩ : ∃ ok, rightsZ l = ok := ⟨_, rfl⟩
    obtain ⟨bs, hbs⟩ : ∃ bs, strB l = bs := ⟨_, rfl⟩
    obtain ⟨is, his⟩ : ∃ is, rightZ r = is := ⟨_, rfl⟩
    obtain ⟨n, hn'⟩ : ∃ n, lenZ r = n := ⟨_, rfl⟩
    have h1 := fun W (h : Runes (.slice A l.length c) l W) => string_at _ l W h (by omega) hok hbs
    have h2 := fun W (h : Runes (.slice A l.length c) l W) => refString_at _ l W h (by omega) hok hbs
    have h3 := fun W => right_any r W
    have h4 := fun W => refRight_any r W
    have h5 := fun W => len_any r W
    have h6 := fun W => refLen_any r W
    rw [his] at h3 h4
    rw [hn'] at h5 h6
    have H1 := Lib.hid h1
    have H2 := Lib.hid h2
    have H3 := Lib.hid h3
    have H4 := Lib.hid h4
    have H5 := Lib.hid h5
    have H6 := Lib.hid h6
    clear h1 h2 h3 h4 h5 h6 hok hbs his hn'
    go_enter Try.func4, Try.ntmps4
    go_wp2_with fail
    refine (small_any _).mono ?_
    rintro e w1 ⟨rfl, hb1⟩
    have B1 := Lib.hid hb1
    clear hb1
    go_wp2_with fail
    refine (H1.out _ (HL.out.keep B1.out)).mono ?_
    rintro e w2 ⟨rfl, hb2⟩
    have B2 := Lib.hid (below_then B1.out hb2)
    clear hb2 B1
    go_wp2_with fail
    refine (H2.out _ (HL.out.keep B2.out)).mono ?_
    rintro e w3 ⟨rfl, hb3⟩
    have B3 := Lib.hid (below_then B2.out hb3)
    clear hb3 B2
    go_wp2_with fail
    refine (H3.out _).mono ?_
    rintro e w4 ⟨rfl, rfl⟩
    go_wp2_with fail
    refine (H4.out _).mono ?_
    rintro e w4 ⟨rfl, rfl⟩
    go_wp2_with fail
    refine (H5.out _).mono ?_
    rintro e w4 ⟨rfl, rfl⟩
    go_wp2_with fail
    refine (H6.out _).mono ?_
    rintro e w4 ⟨rfl, rfl⟩
    go_wp2
    go_ret
    exact ⟨rfl, B3.out⟩
  · have hnz : (2000 : Int) < (l.length : Int) := by omega
    go_enter Try.func4, Try.ntmps4
    go_wp2_with fail
    refine (small_any _).mono ?_
    rintro e w1 ⟨rfl, hb1⟩
    have B1 := Lib.hid hb1
    clear hb1
    go_wp2
    go_ret
    exact ⟨rfl, B1.out⟩
end Go.Proofs.Ytadppccnngfjiaa
