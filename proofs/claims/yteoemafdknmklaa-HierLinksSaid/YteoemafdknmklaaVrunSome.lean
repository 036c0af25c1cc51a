/- What each call of package vrun, and of the document's own answers for it, returns. Conditions: each argument is a number of its kind. -/
import Derived.Test.YteoemafdknmklaaRows
import Derived.Test.YteoemafdknmklaaVrunPlain
import Derived.WalkKit
import Derived.ProofKit
import Derived.OpenShut
import Derived.Handy
import Derived.IntWalk
import Derived.WalkMore
import Derived.WalkSmall
import Derived.Deep.QuietTactic
import Derived.BigQuiet
import Derived.Lib.Hide
namespace Go.Proofs.Yteoemafdknmklaa.Vrun
open Go.ChangeShapes Go.WideShapes Go.ChangeAt Go.RowKit
set_option linter.unusedVariables false

def IsBool (b : Bool) (w : World) (e : Ending) (w' : World) : Prop := e = .returned (.bool b) ∧ w = w'
def Chg (d r n : Int) (w : World) (e : Ending) (w' : World) : Prop := e = .returned (.tuple #[.int .i64 d, .int .u64 r, .int .i64 n]) ∧ Below w.heap.size w w'
def Ned (d n : Int) (w : World) (e : Ending) (w' : World) : Prop := e = .returned (.tuple #[.int .u64 d, .int .i64 n]) ∧ Below w.heap.size w w'
theorem chg_of {a b c d r n : Int} {w w' : World} (h1 : a = d) (h2 : b = r) (h3 : c = n) (g : Below w.heap.size w w') : Chg d r n w (.returned (.tuple #[.int .i64 a, .int .u64 b, .int .i64 c])) w' := by subst h1 h2 h3; exact ⟨rfl, g⟩
theorem ned_of {a b d n : Int} {w w' : World} (h1 : a = d) (h2 : b = n) (g : Below w.heap.size w w') : Ned d n w (.returned (.tuple #[.int .u64 a, .int .i64 b])) w' := by subst h1 h2; exact ⟨rfl, g⟩
theorem fresh_trans {a b c : World} (h : Below a.heap.size a b) (k : Below b.heap.size b c) : Below a.heap.size a c := h.trans (k.mono h.size)
theorem drawn (w : World) (n : Nat) : Below w.heap.size w (w.drewN n) := ⟨rfl, rfl, rfl, Nat.le_refl _, fun _ _ => rfl⟩

theorem mayBe_yes (x : Int) (w : World) (h1 : 2 ≤ x) (h2 : x ≤ 262144) : Calls Try.prog 73 #[.int .u64 x] w (IsBool true w) := by
  go_enter Try.func73, Try.ntmps73
  go_wp2
  go_ret; exact ⟨by simp, rfl⟩
theorem mayBe_no (x : Int) (w : World) (h : x < 2 ∨ 262144 < x) : Calls Try.prog 73 #[.int .u64 x] w (IsBool false w) := by
  by_cases h1 : x < 2
  all_goals
    go_enter Try.func73, Try.ntmps73
    go_wp2
    go_ret; exact ⟨by simp; try omega, rfl⟩
theorem charge (x r t : Int) (w : World) (hx : 0 ≤ x) (hr : 0 ≤ r) (ht : 0 ≤ t) :
    Calls Try.prog 58 #[.int .u64 x, .int .u64 r, .int .u64 t] w (Chg (cval x r t) (crem x r t) (cerr x r t) w) := by
  by_cases h1 : x < 2 ∨ 262144 < x
  · have e : cerr x r t = 4 := by unfold cerr; rw [if_pos h1]
    rw [show cval x r t = 0 by unfold cval; rw [if_neg (by omega)], show crem x r t = 0 by unfold crem; rw [if_neg (by omega)], e]
    go_enter Try.func58, Try.ntmps58
    go_wp2; go_step3; go_wp2; go_step3
    go_wp2_with (go_at_call 73; refine (mayBe_no x _ h1).mono ?_; rintro e w1 ⟨rfl, rfl⟩)
    try rw [Exit.noGoto_ret]
    go_ret3; exact ⟨rfl, Below.refl _ w⟩
  have g1 : 2 ≤ x := by omega
  have g2 : x ≤ 262144 := by omega
  by_cases h2 : x ≤ r
  · have e : cerr x r t = 1 := by unfold cerr; rw [if_neg h1, if_pos h2]
    rw [show cval x r t = 0 by unfold cval; rw [if_neg (by omega)], show crem x r t = 0 by unfold crem; rw [if_neg (by omega)], e]
    go_enter Try.func58, Try.ntmps58
    go_wp2; go_step3; go_wp2; go_step3
    go_wp2_with (go_at_call 73; refine (mayBe_yes x _ g1 g2).mono ?_; rintro e w1 ⟨rfl, rfl⟩)
    try rw [Exit.noGoto_ret]
    go_ret3; exact ⟨rfl, Below.refl _ w⟩
  by_cases h3 : 1000000000 < t
  · have e : cerr x r t = 8 := by unfold cerr; rw [if_neg h1, if_neg h2, if_pos h3]
    rw [show cval x r t = 0 by unfold cval; rw [if_neg (by omega)], show crem x r t = 0 by unfold crem; rw [if_neg (by omega)], e]
    go_enter Try.func58, Try.ntmps58
    go_wp2; go_step3; go_wp2; go_step3
    go_wp2_with (go_at_call 73; refine (mayBe_yes x _ g1 g2).mono ?_; rintro e w1 ⟨rfl, rfl⟩)
    try rw [Exit.noGoto_ret]
    go_ret3; exact ⟨rfl, Below.refl _ w⟩
  · have g3 : r < x := by omega
    have g4 : t ≤ 1000000000 := by omega
    rw [cval_in g1 g2 g3 g4, crem_in g1 g2 g3 g4, cerr_in g1 g2 g3 g4]
    obtain ⟨q1, q2, q3, q4⟩ := quot_bd g1 g3 hr g2 ht g4
    have d0 : (x == 0) = false := by simp; omega
    go_enter Try.func58, Try.ntmps58
    go_wp2; go_step3; go_wp2; go_step3
    go_wp2_with (go_at_call 73; refine (mayBe_yes x _ g1 g2).mono ?_; rintro e w1 ⟨rfl, rfl⟩)
    go_quiet (fail)
    go_wp2
    try rw [Exit.noGoto_ret]
    go_ret3; exact chg_of rfl rfl rfl (drawn w _)

end Go.Proofs.Yteoemafdknmklaa.Vrun
