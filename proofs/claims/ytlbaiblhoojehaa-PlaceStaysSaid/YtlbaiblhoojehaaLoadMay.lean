/- What the document's answers return: May. Conditions: each argument is a number of its kind. -/
import Derived.Test.YtlbaiblhoojehaaLoadLies
import Derived.Deep.QuietTactic
namespace Go.Proofs.Ytlbaiblhoojehaa.Load
open Go.ChangeShapes Go.WideShapes Go.ChangeAt Go.RowKit
set_option linter.unusedVariables false
set_option linter.unusedSimpArgs false
attribute [local irreducible] Go.wpQuiet

def IsBool (b : Bool) (w : World) (e : Ending) (w' : World) : Prop := e = .returned (.bool b) ∧ w' = w
def can (n m p : Nat) : Bool := decide (p < n) && may m p
theorem can_in {n m p : Nat} (h : p < n) : can n m p = may m p := by unfold can; rw [decide_eq_true h]; rfl
theorem refMay (v : Option Addr) (n cap m p : Nat) (w : World) (hm : m < 18446744073709551616) :
    Calls Try.prog 15 #[.slice v n cap, .int .i64 p, .int .u64 m] w (IsBool (can n m p) w) := by
  by_cases h1 : p < n
  · have h1' : (p : Int) < n := by omega
    rw [can_in h1]
    by_cases h2 : p < 64
    · have h2' : (p : Int) < 64 := by omega
      have HB := bit_may m p hm h2
      generalize may m p = b at *
      go_enter Try.func15, Try.ntmps15
      go_wp2
      go_ret
      exact ⟨rfl, rfl⟩
    · have h2' : ¬ (p : Int) < 64 := by omega
      have e : may m p = false := by unfold may; rw [decide_eq_false h2]; rfl
      rw [e]
      go_enter Try.func15, Try.ntmps15
      go_wp2
      go_ret
      exact ⟨rfl, rfl⟩
  · have h1' : ¬ (p : Int) < n := by omega
    have e : can n m p = false := by unfold can; rw [decide_eq_false h1]; rfl
    rw [e]
    go_enter Try.func15, Try.ntmps15
    go_wp2
    go_ret
    exact ⟨rfl, rfl⟩

/-- The one whom none of the others is ahead of. -/
def IsB (S : Nat → Bool) (z : Nat → Int) (n p : Nat) : Prop := S p = true ∧ ∀ q, q < n → S q = true → z q ≤ z p
theorem isB_pick {S : Nat → Bool} {z : Nat → Int} {n p : Nat} (hp : p < n) (h : IsB S z n p) (hb : ∀ q, q < p → ¬ IsB S z n q) : (p : Int) = pick S z n := by
  refine best_only ?_ (pick_best S z n)
  refine .inr ⟨p, rfl, hp, h.1, fun q hq hS => ?_⟩
  have h1 := h.2 q hq hS
  by_cases h2 : z q = z p
  · refine .inr ⟨h2, ?_⟩
    by_cases h3 : q < p
    · exact absurd ⟨hS, fun r hr hSr => by rw [h2]; exact h.2 r hr hSr⟩ (hb q h3)
    · omega
  · left; omega
theorem isB_none {S : Nat → Bool} {z : Nat → Int} {n : Nat} (hb : ∀ q, q < n → ¬ IsB S z n q) : (-1 : Int) = pick S z n := by
  rcases pick_best S z n with ⟨e, _⟩ | ⟨p, e, hp, hS, h⟩
  · exact e.symm
  · exact absurd ⟨hS, fun q hq hSq => by have := h q hq hSq; omega⟩ (hb p hp)
end Go.Proofs.Ytlbaiblhoojehaa.Load
