/- Plain whole numbers: where a vruntime stands on another queue, and the least one of some; nothing of a program. Conditions: as each fact states them. -/
import Derived.Test.YteoemafdknmklaaFixPlain
namespace Go.Proofs.Yteoemafdknmklaa.Renorm
open Fix
set_option linter.unusedVariables false

def off (v m : Int) : Int := ends (v - m)
def offO (v m : Int) : Bool := !fits (v - m)
def on (o m : Int) : Int := ends (o + m)
def onO (o m : Int) : Bool := !fits (o + m)
def move (v f t : Int) : Int := on (off v f) t
def moveO (v f t : Int) : Bool := offO v f || onO (off v f) t
def wake (o m c : Int) : Int := max o (ends (m - hold c 0 1099511627776))
/-- The least one of z 0 to z k. -/
def lst (z : Nat → Int) : Nat → Int
  | 0 => z 0
  | k + 1 => min (lst z k) (z (k + 1))
/-- A least vruntime, made higher by z 0 to z (n - 1). -/
def hi (m : Int) (z : Nat → Int) (n : Nat) : Int := if n = 0 then m else max m (lst z (n - 1))

theorem lst_le (z : Nat → Int) : ∀ {k j : Nat}, j ≤ k → lst z k ≤ z j
  | 0, j, h => by obtain rfl : j = 0 := by omega
                  exact Int.le_refl _
  | k + 1, j, h => by
    unfold lst
    by_cases e : j = k + 1
    · subst e; omega
    · have := lst_le z (show j ≤ k by omega); omega
theorem lst_same {z y : Nat → Int} : ∀ {k : Nat}, (∀ j, j ≤ k → z j = y j) → lst z k = lst y k
  | 0, h => h 0 (by omega)
  | k + 1, h => by unfold lst; rw [lst_same fun j hj => h j (by omega), h (k + 1) (by omega)]
theorem lst_i64 {z : Nat → Int} (h : ∀ j, I64 (z j)) : ∀ k, I64 (lst z k)
  | 0 => h 0
  | k + 1 => by have a := lst_i64 h k; have b := h (k + 1); rw [lst]; unfold I64 at *; omega
theorem hi_none (m : Int) (z : Nat → Int) : hi m z 0 = m := if_pos rfl
theorem hi_some (m : Int) (z : Nat → Int) (k : Nat) : hi m z (k + 1) = max m (lst z k) := if_neg (by omega)
theorem hi_ge (m : Int) (z : Nat → Int) (n : Nat) : m ≤ hi m z n := by unfold hi; split <;> omega
theorem hi_le (m : Int) (z : Nat → Int) {n j : Nat} (h : j < n) : ¬ (m < hi m z n ∧ z j < hi m z n) := by
  obtain ⟨k, rfl⟩ : ∃ k, n = k + 1 := ⟨n - 1, by omega⟩
  have := lst_le z (show j ≤ k by omega)
  rw [hi_some]; omega
theorem hi_again (m : Int) (z : Nat → Int) (n : Nat) : hi (hi m z n) z n = hi m z n := by
  unfold hi; split <;> omega
/-- One more behind all. -/
def more (z : Nat → Int) (n : Nat) (v : Int) (j : Nat) : Int := if j < n then z j else v
theorem hi_more (m : Int) (z : Nat → Int) (n : Nat) (v : Int) : hi m (more z n v) (n + 1) ≤ hi m z n ∨ n = 0 := by
  match n with
  | 0 => exact .inr rfl
  | k + 1 =>
    rw [hi_some, hi_some, lst, lst_same (y := z) fun j hj => by unfold more; rw [if_pos (by omega)]]
    omega
theorem hi_one (m : Int) (z : Nat → Int) (v : Int) : hi m (more z 0 v) 1 = max m v := by
  rw [hi_some]; rfl
theorem hi_i64 {m : Int} {z : Nat → Int} (hm : I64 m) (h : ∀ j, I64 (z j)) (n : Nat) : I64 (hi m z n) := by
  have := lst_i64 h (n - 1)
  unfold hi; unfold I64 at *; split <;> omega
end Go.Proofs.Yteoemafdknmklaa.Renorm
