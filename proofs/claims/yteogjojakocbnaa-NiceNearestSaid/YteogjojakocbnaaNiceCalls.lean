/- What nice.weigh and nice.Weight return, and that nothing that lay there before has changed. Conditions: each argument is a number of its kind. -/
import Derived.Test.YteogjojakocbnaaNicePower
import Derived.Test.YteogjojakocbnaaWideMul
namespace Go.Proofs.Yteogjojakocbnaa.Nice
open Go.ChangeShapes Go.WideShapes Go.ChangeAt Go.RowKit
set_option linter.unusedVariables false

def WordFresh (n : Int) (w : World) (e : Ending) (w' : World) : Prop := e = .returned (.int .u64 n) ∧ Below w.heap.size w w'
def NumFresh (n : Int) (w : World) (e : Ending) (w' : World) : Prop := e = .returned (.int .i64 n) ∧ Below w.heap.size w w'
def WordErrFresh (n k : Int) (w : World) (e : Ending) (w' : World) : Prop := e = .returned (.tuple #[.int .u64 n, .int .i64 k]) ∧ Below w.heap.size w w'
theorem wordfresh_of {a b : Int} {w w' : World} (h : a = b) (g : Below w.heap.size w w') : WordFresh b w (.returned (.int .u64 a)) w' := by subst h; exact ⟨rfl, g⟩
theorem numfresh_of {a b : Int} {w w' : World} (h : a = b) (g : Below w.heap.size w w') : NumFresh b w (.returned (.int .i64 a)) w' := by subst h; exact ⟨rfl, g⟩
theorem worderrfresh_of {a b c d : Int} {w w' : World} (h : a = c) (k : b = d) (g : Below w.heap.size w w') : WordErrFresh c d w (.returned (.tuple #[.int .u64 a, .int .i64 b])) w' := by subst h; subst k; exact ⟨rfl, g⟩

/-- One division of whole powers. -/
theorem divided (p q : Int) (w : World) (hp : 1 ≤ p ∧ p ≤ 95367431640625) (hq : 1 ≤ q ∧ q ≤ 95367431640625) (v : Int) (hv : v = 1024 * p / q) :
    Calls Try.prog 20 #[.int .u64 1024, .int .u64 p, .int .u64 q] w (Wide.TripleFresh v (Wide.rst 1024 p q) true w) := by
  have hc : Wide.can 1024 p q = true := by
    rw [Wide.can_iff 1024 p q (by unfold Wide.U64; omega) (by unfold Wide.U64; omega) (by unfold Wide.U64; omega)]
    unfold Wide.hi; omega
  have := Wide.mulDiv 1024 p q w (by unfold Wide.U64; omega) (by unfold Wide.U64; omega) (by unfold Wide.U64; omega)
  rwa [hc, Wide.quo_in hc, ← hv] at this

/-- The walk of weigh, over whatever both powers, and the quotient, are. -/
theorem weigh_up (n p q v r : Int) (w : World) (h : ¬ n < 0) (m1 : Hid (∀ w, Calls Try.prog 21 #[.int .u64 4, .int .i64 n] w (Word p w))) (m2 : Hid (∀ w, Calls Try.prog 21 #[.int .u64 5, .int .i64 n] w (Word q w)))
    (m3 : Hid (∀ w, Calls Try.prog 20 #[.int .u64 1024, .int .u64 p, .int .u64 q] w (Wide.TripleFresh v r true w))) :
    Calls Try.prog 18 #[.int .i64 n] w (WordFresh v w) := by
  go_enter Try.func18, Try.ntmps18
  go_wp2_with (first
    | (go_at_call 21; first | ((with_reducible refine (m1.out _).mono ?_); rintro e w1 ⟨rfl, rfl⟩) | ((with_reducible refine (m2.out _).mono ?_); rintro e w1 ⟨rfl, rfl⟩))
    | (go_at_call 20; refine (m3.out _).mono ?_; rintro e w1 ⟨rfl, hg⟩; have hz := hg.size))
  go_ret
  exact wordfresh_of rfl (by go_grown)

theorem weigh_down (n p q v r : Int) (w : World) (h : n < 0) (h' : -20 ≤ n) (m1 : Hid (∀ w, Calls Try.prog 21 #[.int .u64 5, .int .i64 (-n)] w (Word p w))) (m2 : Hid (∀ w, Calls Try.prog 21 #[.int .u64 4, .int .i64 (-n)] w (Word q w)))
    (m3 : Hid (∀ w, Calls Try.prog 20 #[.int .u64 1024, .int .u64 p, .int .u64 q] w (Wide.TripleFresh v r true w))) :
    Calls Try.prog 18 #[.int .i64 n] w (WordFresh v w) := by
  go_enter Try.func18, Try.ntmps18
  go_wp2_with (first
    | (go_at_call 21; first | ((with_reducible refine (m1.out _).mono ?_); rintro e w1 ⟨rfl, rfl⟩) | ((with_reducible refine (m2.out _).mono ?_); rintro e w1 ⟨rfl, rfl⟩))
    | (go_at_call 20; refine (m3.out _).mono ?_; rintro e w1 ⟨rfl, hg⟩; have hz := hg.size))
  go_ret
  exact wordfresh_of rfl (by go_grown)

theorem weigh (n : Int) (w : World) (h1 : -20 ≤ n) (h2 : n ≤ 19) : Calls Try.prog 18 #[.int .i64 n] w (WordFresh (wgt n) w) := by
  by_cases h : n < 0
  · have a := pow5 (-n).toNat (by omega)
    have b := pow4 (-n).toNat (by omega)
    exact weigh_down n _ _ _ _ w h h1 (Lib.hid (fun w => power5 (-n) w (by omega) (by omega))) (Lib.hid (fun w => power4 (-n) w (by omega) (by omega)))
      (Lib.hid (fun w => divided _ _ w a ⟨b.1, by omega⟩ _ (wgt_down n h)))
  · have a := pow4 n.toNat (by omega)
    have b := pow5 n.toNat (by omega)
    exact weigh_up n _ _ _ _ w h (Lib.hid (fun w => power4 n w (by omega) (by omega))) (Lib.hid (fun w => power5 n w (by omega) (by omega)))
      (Lib.hid (fun w => divided _ _ w ⟨a.1, by omega⟩ b _ (wgt_up n (by omega))))

/-- nice.Weight, at any number. -/
theorem weight (n : Int) (w : World) : Calls Try.prog 11 #[.int .i64 n] w (WordErrFresh (wt n) (er n) w) := by
  by_cases h : n < -20 ∨ 19 < n
  · have m := may_out h
    have e1 := Lib.hid (wt_out m)
    have e2 := Lib.hid (er_out m)
    clear m
    by_cases h1 : n < -20
    · go_enter Try.func11, Try.ntmps11
      go_wp2
      go_ret2
      exact worderrfresh_of e1.out.symm e2.out.symm (by go_grown)
    · have h2 : 19 < n := by omega
      go_enter Try.func11, Try.ntmps11
      go_wp2
      go_ret2
      exact worderrfresh_of e1.out.symm e2.out.symm (by go_grown)
  · have h1 : -20 ≤ n := by omega
    have h2 : n ≤ 19 := by omega
    have m := may_in h1 h2
    have e1 := Lib.hid (wt_in m)
    have e2 := Lib.hid (er_in m)
    have C := Lib.hid (fun w => weigh n w h1 h2)
    clear m h
    go_enter Try.func11, Try.ntmps11
    go_wp2_with (go_at_call 18; refine (C.out _).mono ?_; rintro e w1 ⟨rfl, hg⟩; have hz := hg.size)
    go_ret2
    exact worderrfresh_of e1.out.symm e2.out.symm (by go_grown)
end Go.Proofs.Yteogjojakocbnaa.Nice
