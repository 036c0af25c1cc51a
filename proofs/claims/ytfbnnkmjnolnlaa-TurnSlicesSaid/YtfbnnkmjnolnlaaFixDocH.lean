/- What the document's own Add, Sat and Hold return: at all numbers of 64 bits. Conditions: each argument is a number of its kind. -/
import Derived.Test.YtfbnnkmjnolnlaaFixSome
namespace Go.Proofs.Ytfbnnkmjnolnlaa.Fix
open Go.ChangeShapes Go.WideShapes Go.ChangeAt Go.RowKit
set_option linter.unusedVariables false

theorem refAdd (a b : Int) (w : World) (ha : I64 a) (hb : I64 b) :
    Calls Try.prog 42 #[.int .i64 a, .int .i64 b] w (Two (only (a + b)) (fits (a + b)) w) := by
  by_cases hs : I64 (a + b)
  · rw [only_in hs, fits_in hs]
    unfold I64 at *
    by_cases h1 : 0 < b <;> by_cases h2 : b < 0
    all_goals
      go_enter Try.func42, Try.ntmps42
      go_wp2
      all_goals first | (exfalso; omega) | (go_ret2; exact ⟨rfl, rfl⟩)
  · rw [only_out hs, fits_out hs]
    unfold I64 at *
    by_cases h1 : 0 < b <;> by_cases h2 : b < 0
    all_goals
      go_enter Try.func42, Try.ntmps42
      go_wp2
      all_goals first | (exfalso; omega) | (go_ret2; exact ⟨rfl, rfl⟩)

theorem refSat (a b : Int) (w : World) (ha : I64 a) (hb : I64 b) :
    Calls Try.prog 32 #[.int .i64 a, .int .i64 b] w (One (ends (a + b)) w) := by
  by_cases hs : I64 (a + b)
  · have e1 := only_in hs
    have e2 := fits_in hs
    go_enter Try.func32, Try.ntmps32
    go_wp2_with (go_at_call 42; refine (refAdd a b _ ha hb).mono ?_; rintro e w' ⟨rfl, rfl⟩)
    go_ret; exact one_of (by unfold ends; unfold I64 at hs; split <;> (try split) <;> omega)
  · have e1 := only_out hs
    have e2 := fits_out hs
    by_cases h1 : 0 < b
    all_goals
      go_enter Try.func32, Try.ntmps32
      go_wp2_with (go_at_call 42; refine (refAdd a b _ ha hb).mono ?_; rintro e w' ⟨rfl, rfl⟩)
      go_ret; exact one_of (by unfold ends; unfold I64 at *; split <;> (try split) <;> omega)

theorem refHold (n low high : Int) (w : World) :
    Calls Try.prog 33 #[.int .i64 n, .int .i64 low, .int .i64 high] w (One (hold n low high) w) := by
  by_cases h1 : n < low
  · go_enter Try.func33, Try.ntmps33
    go_wp2
    go_ret; exact one_of (by unfold hold; split <;> omega)
  · by_cases h2 : high < n
    all_goals
      go_enter Try.func33, Try.ntmps33
      go_wp2
      go_ret; exact one_of (by unfold hold; split <;> (try split) <;> omega)

end Go.Proofs.Ytfbnnkmjnolnlaa.Fix
