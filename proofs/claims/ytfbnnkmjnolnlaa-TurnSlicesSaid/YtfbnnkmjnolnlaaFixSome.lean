/- What the calls Add, Sub, Hold, Sat and Less of package fix return: at all numbers of 64 bits; below the heap's old size the world is as it was. Conditions: each argument is a number of its kind. -/
import Derived.Test.YtfbnnkmjnolnlaaRows
import Derived.Test.YtfbnnkmjnolnlaaFixPlain
import Derived.WalkKit
import Derived.ProofKit
import Derived.OpenShut
import Derived.Handy
import Derived.IntWalk
import Derived.Below
import Derived.WalkSmall
namespace Go.Proofs.Ytfbnnkmjnolnlaa.Fix
open Go.ChangeShapes Go.WideShapes Go.ChangeAt Go.RowKit
set_option linter.unusedVariables false

/-- A world as it was; one with new blocks at most. -/
def Two (n : Int) (is : Bool) (w : World) (e : Ending) (w' : World) : Prop := e = .returned (.tuple #[.int .i64 n, .bool is]) ∧ w = w'
def One (n : Int) (w : World) (e : Ending) (w' : World) : Prop := e = .returned (.int .i64 n) ∧ w = w'
def OneB (n : Int) (w : World) (e : Ending) (w' : World) : Prop := e = .returned (.int .i64 n) ∧ Below w.heap.size w w'

theorem two_of {a b : Int} {is : Bool} {w : World} (h : a = b) : Two b is w (.returned (.tuple #[.int .i64 a, .bool is])) w := by subst h; exact ⟨rfl, rfl⟩
theorem oneB_of {a b : Int} {w w' : World} (h : a = b) (g : Below w.heap.size w w') : OneB b w (.returned (.int .i64 a)) w' := by subst h; exact ⟨rfl, g⟩
theorem one_of {a b : Int} {w : World} (h : a = b) : One b w (.returned (.int .i64 a)) w := by subst h; exact ⟨rfl, rfl⟩

theorem add (a b : Int) (w : World) (ha : I64 a) (hb : I64 b) :
    Calls Try.prog 39 #[.int .i64 a, .int .i64 b] w (Two (only (a + b)) (fits (a + b)) w) := by
  by_cases hs : I64 (a + b)
  · rw [only_in hs, fits_in hs]
    unfold I64 at *
    by_cases h1 : a < 0 <;> by_cases h2 : b < 0 <;> by_cases h3 : a + b < 0
    all_goals
      go_enter Try.func39, Try.ntmps39
      go_wp2
      first | (go_ret2; exact ⟨rfl, rfl⟩) | (exfalso; omega)
  · rw [only_out hs, fits_out hs]
    unfold I64 at *
    by_cases h1 : a < 0
    · have h2 : b < 0 := by omega
      have h3 : ¬ wrap64 (a + b) < 0 := by unfold wrap64; omega
      go_enter Try.func39, Try.ntmps39
      go_wp2
      go_ret2; exact ⟨rfl, rfl⟩
    · have h2 : ¬ b < 0 := by omega
      have h3 : wrap64 (a + b) < 0 := by unfold wrap64; omega
      go_enter Try.func39, Try.ntmps39
      go_wp2
      go_ret2; exact ⟨rfl, rfl⟩

theorem holds (n low high : Int) (w : World) :
    Calls Try.prog 31 #[.int .i64 n, .int .i64 low, .int .i64 high] w (One (hold n low high) w) := by
  by_cases h1 : n < low
  · go_enter Try.func31, Try.ntmps31
    go_wp2
    go_ret; exact one_of (by unfold hold; split <;> omega)
  · by_cases h2 : high < n
    all_goals
      go_enter Try.func31, Try.ntmps31
      go_wp2
      go_ret; exact one_of (by unfold hold; split <;> (try split) <;> omega)

theorem sat (a b : Int) (w : World) (ha : I64 a) (hb : I64 b) :
    Calls Try.prog 30 #[.int .i64 a, .int .i64 b] w (OneB (ends (a + b)) w) := by
  by_cases hs : I64 (a + b)
  · have e1 := only_in hs
    have e2 := fits_in hs
    go_enter Try.func30, Try.ntmps30
    go_wp2_with (first | (go_at_call 39; refine (add a b _ ha hb).mono ?_; rintro e w' ⟨rfl, rfl⟩) | go_in)
    go_ret; exact oneB_of (by unfold ends; unfold I64 at hs; split <;> (try split) <;> omega) (by go_grown)
  · have e1 := only_out hs
    have e2 := fits_out hs
    by_cases h1 : a < 0
    all_goals
      go_enter Try.func30, Try.ntmps30
      go_wp2_with (first | (go_at_call 39; refine (add a b _ ha hb).mono ?_; rintro e w' ⟨rfl, rfl⟩) | go_in)
      go_ret; exact oneB_of (by unfold ends; unfold I64 at *; split <;> (try split) <;> omega) (by go_grown)
theorem fresh_trans {a b c : World} (h : Below a.heap.size a b) (k : Below b.heap.size b c) : Below a.heap.size a c := h.trans (k.mono h.size)
end Go.Proofs.Ytfbnnkmjnolnlaa.Fix
