/- What each call of package fix returns: at all numbers of 64 bits. Conditions: each argument is a number of its kind. -/
import Derived.Test.YtjdokpeiefcijaaRows
import Derived.Test.YtjdokpeiefcijaaFixPlain
import Derived.WalkKit
import Derived.ProofKit
import Derived.OpenShut
import Derived.Handy
import Derived.IntWalk
namespace Go.Proofs.Ytjdokpeiefcijaa.Fix
open Go.ChangeShapes Go.WideShapes Go.ChangeAt Go.RowKit
set_option linter.unusedVariables false

/-- A world as it was; one with new blocks at most. -/
def Two (n : Int) (is : Bool) (w : World) (e : Ending) (w' : World) : Prop := e = .returned (.tuple #[.int .i64 n, .bool is]) ∧ w = w'
def One (n : Int) (w : World) (e : Ending) (w' : World) : Prop := e = .returned (.int .i64 n) ∧ w = w'
def OneGrown (n : Int) (w : World) (e : Ending) (w' : World) : Prop := e = .returned (.int .i64 n) ∧ Grown w w'

theorem two_of {a b : Int} {is : Bool} {w : World} (h : a = b) : Two b is w (.returned (.tuple #[.int .i64 a, .bool is])) w := by subst h; exact ⟨rfl, rfl⟩
theorem grown_of {a b : Int} {w w' : World} (h : a = b) (g : Grown w w') : OneGrown b w (.returned (.int .i64 a)) w' := by subst h; exact ⟨rfl, g⟩
theorem one_of {a b : Int} {w : World} (h : a = b) : One b w (.returned (.int .i64 a)) w := by subst h; exact ⟨rfl, rfl⟩

theorem add (a b : Int) (w : World) (ha : I64 a) (hb : I64 b) :
    Calls Try.prog 11 #[.int .i64 a, .int .i64 b] w (Two (only (a + b)) (fits (a + b)) w) := by
  by_cases hs : I64 (a + b)
  · rw [only_in hs, fits_in hs]
    unfold I64 at *
    by_cases h1 : a < 0 <;> by_cases h2 : b < 0 <;> by_cases h3 : a + b < 0
    all_goals
      go_enter Try.func11, Try.ntmps11
      go_wp2
      first | (go_ret2; exact ⟨rfl, rfl⟩) | (exfalso; omega)
  · rw [only_out hs, fits_out hs]
    unfold I64 at *
    by_cases h1 : a < 0
    · have h2 : b < 0 := by omega
      have h3 : ¬ wrap64 (a + b) < 0 := by unfold wrap64; omega
      go_enter Try.func11, Try.ntmps11
      go_wp2
      go_ret2; exact ⟨rfl, rfl⟩
    · have h2 : ¬ b < 0 := by omega
      have h3 : wrap64 (a + b) < 0 := by unfold wrap64; omega
      go_enter Try.func11, Try.ntmps11
      go_wp2
      go_ret2; exact ⟨rfl, rfl⟩

theorem sub (a b : Int) (w : World) (ha : I64 a) (hb : I64 b) :
    Calls Try.prog 13 #[.int .i64 a, .int .i64 b] w (Two (only (a - b)) (fits (a - b)) w) := by
  by_cases hs : I64 (a - b)
  · rw [only_in hs, fits_in hs]
    unfold I64 at *
    by_cases h1 : a < 0 <;> by_cases h2 : b < 0 <;> by_cases h3 : a - b < 0
    all_goals
      go_enter Try.func13, Try.ntmps13
      go_wp2
      first | (go_ret2; exact ⟨rfl, rfl⟩) | (exfalso; omega)
  · rw [only_out hs, fits_out hs]
    unfold I64 at *
    by_cases h1 : a < 0
    · have h2 : ¬ b < 0 := by omega
      have h3 : ¬ wrap64 (a - b) < 0 := by unfold wrap64; omega
      go_enter Try.func13, Try.ntmps13
      go_wp2
      go_ret2; exact ⟨rfl, rfl⟩
    · have h2 : b < 0 := by omega
      have h3 : wrap64 (a - b) < 0 := by unfold wrap64; omega
      go_enter Try.func13, Try.ntmps13
      go_wp2
      go_ret2; exact ⟨rfl, rfl⟩

theorem holds (n low high : Int) (w : World) :
    Calls Try.prog 21 #[.int .i64 n, .int .i64 low, .int .i64 high] w (One (hold n low high) w) := by
  by_cases h1 : n < low
  · go_enter Try.func21, Try.ntmps21
    go_wp2
    go_ret; exact one_of (by unfold hold; split <;> omega)
  · by_cases h2 : high < n
    all_goals
      go_enter Try.func21, Try.ntmps21
      go_wp2
      go_ret; exact one_of (by unfold hold; split <;> (try split) <;> omega)

theorem mul (a b : Int) (w : World) (ha : I64 a) (hb : I64 b) :
    Calls Try.prog 15 #[.int .i64 a, .int .i64 b] w (Two (only (a * b)) (fits (a * b)) w) := by
  by_cases h0 : b = 0
  · subst h0
    rw [Int.mul_zero]
    go_enter Try.func15, Try.ntmps15
    go_wp2
    go_ret2; exact two_of rfl
  by_cases h1 : b = -1
  · subst h1
    have e : a * -1 = -a := by omega
    rw [e]
    go_enter Try.func15, Try.ntmps15
    go_wp2_with (go_at_call 13; refine (sub 0 a _ (by unfold I64; omega) ha).mono ?_; rintro e w' ⟨rfl, rfl⟩)
    go_ret2; exact two_of rfl
  by_cases hs : I64 (a * b)
  · have t : (wrap64 a != a) = false := by rw [IntWalk.wrap64_in a ha]; simp
    have e : wrap64 (a * b) = a * b := IntWalk.wrap64_in _ hs
    rw [only_in hs, fits_in hs]
    go_enter Try.func15, Try.ntmps15
    go_wp2
    go_ret2; exact two_of e
  · rw [only_out hs, fits_out hs]
    have hp : I64 (wrap64 (a * b)) := by unfold I64 wrap64; omega
    have t : wrap64 ((wrap64 (a * b)).tdiv b) ≠ a := by
      rw [IntWalk.wrap64_in _ (tdiv_i64 _ b hp h1)]
      have e : ∃ k : Int, k ≠ 0 ∧ wrap64 (a * b) = a * b + k * 18446744073709551616 := by
        refine ⟨-((a * b + 9223372036854775808) / 18446744073709551616), ?_, ?_⟩
        · unfold I64 at hs; omega
        · unfold wrap64; omega
      obtain ⟨k, hk, e⟩ := e
      rw [e]; exact mul_tells a b k hb h0 hk
    go_enter Try.func15, Try.ntmps15
    go_wp2
    go_ret2; exact two_of rfl

theorem sat (a b : Int) (w : World) (ha : I64 a) (hb : I64 b) :
    Calls Try.prog 17 #[.int .i64 a, .int .i64 b] w (OneGrown (ends (a + b)) w) := by
  by_cases hs : I64 (a + b)
  · have e1 := only_in hs
    have e2 := fits_in hs
    go_enter Try.func17, Try.ntmps17
    go_wp2_with (first | (go_at_call 11; refine (add a b _ ha hb).mono ?_; rintro e w' ⟨rfl, rfl⟩) | go_in)
    go_ret; exact grown_of (by unfold ends; unfold I64 at hs; split <;> (try split) <;> omega) (by go_grown)
  · have e1 := only_out hs
    have e2 := fits_out hs
    by_cases h1 : a < 0
    all_goals
      go_enter Try.func17, Try.ntmps17
      go_wp2_with (first | (go_at_call 11; refine (add a b _ ha hb).mono ?_; rintro e w' ⟨rfl, rfl⟩) | go_in)
      go_ret; exact grown_of (by unfold ends; unfold I64 at *; split <;> (try split) <;> omega) (by go_grown)
theorem less (a b : Int) (w : World) (ha : I64 a) (hb : I64 b) :
    Calls Try.prog 19 #[.int .i64 a, .int .i64 b] w (OneGrown (ends (a - b)) w) := by
  by_cases hs : I64 (a - b)
  · have e1 := only_in hs
    have e2 := fits_in hs
    go_enter Try.func19, Try.ntmps19
    go_wp2_with (first | (go_at_call 13; refine (sub a b _ ha hb).mono ?_; rintro e w' ⟨rfl, rfl⟩) | go_in)
    go_ret; exact grown_of (by unfold ends; unfold I64 at hs; split <;> (try split) <;> omega) (by go_grown)
  · have e1 := only_out hs
    have e2 := fits_out hs
    by_cases h1 : a < 0
    all_goals
      go_enter Try.func19, Try.ntmps19
      go_wp2_with (first | (go_at_call 13; refine (sub a b _ ha hb).mono ?_; rintro e w' ⟨rfl, rfl⟩) | go_in)
      go_ret; exact grown_of (by unfold ends; unfold I64 at *; split <;> (try split) <;> omega) (by go_grown)
end Go.Proofs.Ytjdokpeiefcijaa.Fix
