/- Where a task wakes, in plain numbers. Conditions: as each fact states them. -/
import Derived.Test.YtlbaiblhoojehaaLoadMay
namespace Go.Proofs.Ytlbaiblhoojehaa.Place
open Load
set_option linter.unusedVariables false
set_option linter.unusedSimpArgs false

/-- Whether something runs at a place, whether a place is idle, and either asked of any whole number. -/
def busy (r : Nat) (R : Nat → Bool) (p : Nat) : Bool := decide (p < r) && R p
def rest (z : Nat → Int) (n r : Nat) (R : Nat → Bool) (m p : Nat) : Bool := can n m p && (z p == 0) && !busy r R p
def over (S : Nat → Bool) (p : Int) : Bool := decide (0 ≤ p) && S p.toNat
theorem over_nat (S : Nat → Bool) (k : Nat) : over S (k : Int) = S k := by simp [over]
theorem over_neg {S : Nat → Bool} {p : Int} (h : p < 0) : over S p = false := by unfold over; rw [decide_eq_false (by omega)]; rfl
theorem over_yes {S : Nat → Bool} {p : Int} (h : over S p = true) : ∃ k : Nat, p = k ∧ S k = true := by
  by_cases hp : 0 ≤ p
  · obtain ⟨k, rfl⟩ : ∃ k : Nat, p = k := ⟨p.toNat, by omega⟩
    rw [over_nat] at h
    exact ⟨k, rfl, h⟩
  · rw [over_neg (by omega)] at h; cases h
theorem can_far {n m p : Nat} (h : 64 ≤ p) : can n m p = false := by unfold can may; rw [decide_eq_false (show ¬ p < 64 by omega)]; simp
theorem can_out {n m p : Nat} (h : n ≤ p) : can n m p = false := by unfold can; rw [decide_eq_false (by omega)]; rfl
theorem can_lt {n m p : Nat} (h : can n m p = true) : p < n ∧ p < 64 ∧ may m p = true := by
  unfold can may at *; simp at h; simp; omega
theorem rest_can {z : Nat → Int} {n r m p : Nat} {R : Nat → Bool} (h : rest z n r R m p = true) : can n m p = true ∧ z p = 0 ∧ busy r R p = false := by
  unfold rest at h; simp at h; exact ⟨h.1.1, h.1.2, h.2⟩
theorem rest_no {z : Nat → Int} {n r m p : Nat} {R : Nat → Bool} (h : can n m p = false) : rest z n r R m p = false := by unfold rest; rw [h]; rfl

/-- The first one, of the first n, that S lets. -/
def low (S : Nat → Bool) (n : Nat) : Int := pick S (fun _ => 0) n
theorem low_first {S : Nat → Bool} {n k : Nat} (hk : k < n) (hS : S k = true) (hb : ∀ j, j < k → S j = false) : low S n = k := by
  refine best_only (pick_best S _ n) (.inr ⟨k, rfl, hk, hS, fun q hq hSq => .inr ⟨rfl, ?_⟩⟩)
  by_cases h : q < k
  · rw [hb q h] at hSq; cases hSq
  · omega
theorem low_none {S : Nat → Bool} {n : Nat} (h : ∀ j, j < n → S j = false) : low S n = -1 := best_only (pick_best S _ n) (.inl ⟨rfl, h⟩)
theorem low_bd (S : Nat → Bool) (n : Nat) : (low S n = -1 ∧ ∀ j, j < n → S j = false) ∨ ∃ k : Nat, low S n = k ∧ k < n ∧ S k = true ∧ ∀ j, j < k → S j = false := by
  rcases pick_best S (fun _ => 0) n with ⟨e, h⟩ | ⟨k, e, hk, hS, h⟩
  · exact .inl ⟨e, h⟩
  · refine .inr ⟨k, e, hk, hS, fun j hj => ?_⟩
    cases hc : S j with
    | false => rfl
    | true => rcases h j (by omega) hc with h1 | h1 <;> simp only at h1 <;> omega
theorem low_congr {S T : Nat → Bool} {n : Nat} (h : ∀ j, j < n → S j = T j) : low S n = low T n := pick_congr h (fun _ _ => rfl)
theorem low_64 {S : Nat → Bool} {n : Nat} (h1 : ∀ j, n ≤ j → S j = false) (h2 : ∀ j, 64 ≤ j → S j = false) : low S 64 = low S n := by
  by_cases h : n ≤ 64
  · exact pick_more _ _ _ _ h (fun j a _ => h1 j a)
  · exact (pick_more _ _ _ _ (by omega) (fun j a _ => h2 j a)).symm
theorem low_rest (z : Nat → Int) (n r : Nat) (R : Nat → Bool) (m : Nat) : low (rest z n r R m) 64 = low (rest z n r R m) n := low_64 (fun j h => rest_no (can_out h)) (fun j h => rest_no (can_far h))

/-- Where a task wakes, and the error's number beside it. -/
def cho (z : Nat → Int) (n r : Nat) (R : Nat → Bool) (m : Nat) (prev : Int) : Int × Int :=
  if lea z n m = -1 then (0, 9)
  else if over (rest z n r R m) prev = true then (prev, 0)
  else if low (rest z n r R m) n = -1 then (if over (can n m) prev = true ∧ z prev.toNat ≤ z (lea z n m).toNat then (prev, 0) else (lea z n m, 0))
  else (low (rest z n r R m) n, 0)
theorem lea_bd (z : Nat → Int) (n m : Nat) : (lea z n m = -1 ∧ ∀ j, j < n → may m j = false) ∨ ∃ p : Nat, lea z n m = p ∧ p < n ∧ may m p = true ∧ ∀ q, q < n → may m q = true → z p ≤ z q := by
  rcases pick_best (may m) (fun j => - z j) n with ⟨e, h⟩ | ⟨p, e, hp, hS, h⟩
  · exact .inl ⟨e, h⟩
  · refine .inr ⟨p, e, hp, hS, fun q hq hm => ?_⟩
    have := h q hq hm
    simp only at this
    omega
end Go.Proofs.Ytlbaiblhoojehaa.Place
