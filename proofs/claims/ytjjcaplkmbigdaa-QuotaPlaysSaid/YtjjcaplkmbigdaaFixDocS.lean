/- What the document's own Add and Sat return: at all numbers of 64 bits. Conditions: each argument is a number of its kind. -/
import Derived.Test.YtjjcaplkmbigdaaFixFew
namespace Go.Proofs.Ytjjcaplkmbigdaa.Fix
open Go.ChangeShapes Go.WideShapes Go.ChangeAt Go.RowKit
set_option linter.unusedVariables false

theorem refAdd (a b : Int) (w : World) (ha : I64 a) (hb : I64 b) :
    Calls Try.prog 43 #[.int .i64 a, .int .i64 b] w (Two (only (a + b)) (fits (a + b)) w) := by
  by_cases hs : I64 (a + b)
  · rw [only_in hs, fits_in hs]
    unfold I64 at *
    by_cases h1 : 0 < b <;> by_cases h2 : b < 0
    all_goals
      go_enter Try.func43, Try.ntmps43
      go_wp2
      all_goals first | (exfalso; omega) | (go_ret2; exact ⟨rfl, rfl⟩)
  · rw [only_out hs, fits_out hs]
    unfold I64 at *
    by_cases h1 : 0 < b <;> by_cases h2 : b < 0
    all_goals
      go_enter Try.func43, Try.ntmps43
      go_wp2
      all_goals first | (exfalso; omega) | (go_ret2; exact ⟨rfl, rfl⟩)

theorem refSat (a b : Int) (w : World) (ha : I64 a) (hb : I64 b) :
    Calls Try.prog 37 #[.int .i64 a, .int .i64 b] w (One (ends (a + b)) w) := by
  by_cases hs : I64 (a + b)
  · have e1 := only_in hs
    have e2 := fits_in hs
    go_enter Try.func37, Try.ntmps37
    go_wp2_with (go_at_call 43; refine (refAdd a b _ ha hb).mono ?_; rintro e w' ⟨rfl, rfl⟩)
    go_ret; exact one_of (by unfold ends; unfold I64 at hs; split <;> (try split) <;> omega)
  · have e1 := only_out hs
    have e2 := fits_out hs
    by_cases h1 : 0 < b
    all_goals
      go_enter Try.func37, Try.ntmps37
      go_wp2_with (go_at_call 43; refine (refAdd a b _ ha hb).mono ?_; rintro e w' ⟨rfl, rfl⟩)
      go_ret; exact one_of (by unfold ends; unfold I64 at *; split <;> (try split) <;> omega)
end Go.Proofs.Ytjjcaplkmbigdaa.Fix
