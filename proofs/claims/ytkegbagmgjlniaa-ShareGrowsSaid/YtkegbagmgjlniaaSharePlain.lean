/- What a group weighs on a P, in plain numbers. Conditions: as each fact states them. -/
import Derived.Test.YtkegbagmgjlniaaWidePlain
namespace Go.Proofs.Ytkegbagmgjlniaa.Share
open Wide
set_option linter.unusedVariables false
set_option linter.unusedSimpArgs false

def hold (w : Int) : Int := if w < 2 then 2 else if 262144 < w then 262144 else w
theorem hold_bd (w : Int) : 2 ≤ hold w ∧ hold w ≤ 262144 := by unfold hold; repeat' split <;> omega
theorem hold_mono {a b : Int} (h : a ≤ b) : hold a ≤ hold b := by unfold hold; repeat' split <;> omega
theorem hold_in {w : Int} (h1 : 2 ≤ w) (h2 : w ≤ 262144) : hold w = w := by unfold hold; repeat' split <;> omega
def wt (s h a : Int) : Int := if a = 0 then 2 else hold (s * h / a)
theorem wt_bd (s h a : Int) : 2 ≤ wt s h a ∧ wt s h a ≤ 262144 := by
  unfold wt; split
  · omega
  · exact hold_bd _
theorem wt_mono_s {s t h a : Int} (hst : s ≤ t) (h0 : 0 ≤ h) (a0 : 0 ≤ a) : wt s h a ≤ wt t h a := by
  unfold wt; split
  · omega
  · exact hold_mono (Int.ediv_le_ediv (by omega) (Int.mul_le_mul_of_nonneg_right hst h0))
theorem wt_mono_h {s h k a : Int} (hk : h ≤ k) (s0 : 0 ≤ s) (a0 : 0 ≤ a) : wt s h a ≤ wt s k a := by
  unfold wt; split
  · omega
  · exact hold_mono (Int.ediv_le_ediv (by omega) (Int.mul_le_mul_of_nonneg_left hk s0))
theorem wt_zero (s a : Int) : wt s 0 a = 2 := by
  unfold wt; split
  · rfl
  · simp [hold]
theorem wt_none (s h : Int) : wt s h 0 = 2 := if_pos rfl
theorem wt_whole {s a : Int} (ha : a ≠ 0) : wt s a a = hold s := by
  unfold wt; rw [if_neg ha, Int.mul_ediv_cancel _ ha]
theorem wt_scale {s h a b : Int} (hb : 0 < b) (a0 : 0 ≤ a) : wt s (h * b) (a * b) = wt s h a := by
  unfold wt
  by_cases ha : a = 0
  · subst ha; simp
  · rw [if_neg ha, if_neg (by have := Int.mul_pos (show 0 < a by omega) hb; omega), ← Int.mul_assoc, Int.mul_ediv_mul_of_pos_left _ _ hb]
theorem wt_can {s h a : Int} (hs : U64 s) (hh : U64 h) (a1 : 1 ≤ a) : (can s h a = true → wt s h a = hold (quo s h a)) ∧ (can s h a = false → wt s h a = 262144) := by
  unfold can quo wt
  constructor
  · intro h1
    rw [decide_eq_true_iff] at h1
    rw [if_neg (by omega), if_pos h1]
  · intro h1
    rw [decide_eq_false_iff_not] at h1
    rw [if_neg (by omega)]
    have : ¬ s * h / a ≤ 18446744073709551615 := fun h2 => h1 ⟨a1, h2⟩
    unfold hold
    rw [if_neg (by omega), if_pos (by omega)]

/-- A sum that stays at the greatest number of 64 bits. -/
def tot (z : Nat → Int) : Nat → Int
  | 0 => 0
  | n + 1 => min (tot z n + z n) 18446744073709551615
def sum (z : Nat → Int) : Nat → Int
  | 0 => 0
  | n + 1 => sum z n + z n
theorem sum_pos {z : Nat → Int} {n : Nat} (hz : ∀ j, j < n → 0 ≤ z j) : 0 ≤ sum z n := by
  induction n with
  | zero => exact Int.le_refl _
  | succ n ih => have := ih (fun j hj => hz j (by omega)); have := hz n (by omega); simp only [sum]; omega
theorem tot_eq {z : Nat → Int} {n : Nat} (hz : ∀ j, j < n → 0 ≤ z j) : tot z n = min (sum z n) 18446744073709551615 := by
  induction n with
  | zero => simp only [tot, sum]; omega
  | succ n ih =>
    have h1 := ih (fun j hj => hz j (by omega)); have h2 := hz n (by omega)
    have h3 := sum_pos (n := n) (fun j hj => hz j (by omega))
    simp only [tot, sum]; omega
theorem tot_bd {z : Nat → Int} {n : Nat} (hz : ∀ j, j < n → 0 ≤ z j) : 0 ≤ tot z n ∧ tot z n ≤ 18446744073709551615 := by
  have := sum_pos hz; rw [tot_eq hz]; omega
theorem sum_le {z : Nat → Int} {k n : Nat} (h : k ≤ n) (hz : ∀ j, j < n → 0 ≤ z j) : sum z k ≤ sum z n := by
  induction n with
  | zero => obtain rfl : k = 0 := by omega
            exact Int.le_refl _
  | succ n ih =>
    by_cases hk : k = n + 1
    · subst hk; exact Int.le_refl _
    · have := ih (by omega) (fun j hj => hz j (by omega)); have := hz n (by omega); simp only [sum]; omega
theorem tot_top {z : Nat → Int} {k n : Nat} (h : k < n) (hz : ∀ j, j < n → 0 ≤ z j) (ht : 18446744073709551615 - tot z k < z k) : tot z n = 18446744073709551615 := by
  have h1 := sum_le (k := k + 1) (n := n) h hz
  have h2 := tot_eq (n := k) (z := z) (fun j hj => hz j (by omega))
  rw [tot_eq hz]
  simp only [sum] at h1
  omega
theorem tot_next {z : Nat → Int} {k : Nat} (ht : ¬ 18446744073709551615 - tot z k < z k) : tot z (k + 1) = tot z k + z k := by simp only [tot]; omega
theorem sum_congr {y z : Nat → Int} {n : Nat} (h : ∀ j, j < n → y j = z j) : sum y n = sum z n := by
  induction n with
  | zero => rfl
  | succ n ih => simp only [sum]; rw [ih (fun j hj => h j (by omega)), h n (by omega)]
theorem sum_scale (z : Nat → Int) (b : Int) (n : Nat) : sum (fun j => z j * b) n = sum z n * b := by
  induction n with
  | zero => simp [sum]
  | succ n ih => simp only [sum]; rw [ih, Int.add_mul]
theorem sum_cons (z : Nat → Int) (n : Nat) : sum z (n + 1) = z 0 + sum (fun j => z (j + 1)) n := by
  induction n with
  | zero => simp [sum]
  | succ n ih => rw [sum, ih]; simp only [sum]; omega
theorem sum_back (z : Nat → Int) (n : Nat) : sum (fun j => z (n - 1 - j)) n = sum z n := by
  induction n generalizing z with
  | zero => rfl
  | succ n ih =>
    rw [sum_cons, sum]
    have := ih z
    rw [← this]
    have e : sum (fun j => z (n + 1 - 1 - (j + 1))) n = sum (fun j => z (n - 1 - j)) n := sum_congr fun j hj => by
      show z _ = z _
      congr 1; omega
    rw [e]
    simp only [Nat.add_sub_cancel, Nat.sub_zero]
    omega
theorem sum_bd {z : Nat → Int} {n : Nat} {B : Int} (hz : ∀ j, j < n → z j ≤ B) : sum z n ≤ B * n := by
  induction n with
  | zero => simp [sum]
  | succ n ih =>
    have h1 := ih (fun j hj => hz j (by omega)); have h2 := hz n (by omega)
    have : B * ((n + 1 : Nat) : Int) = B * n + B := by rw [Int.natCast_add, Int.mul_add]; simp
    simp only [sum]; omega
end Go.Proofs.Ytkegbagmgjlniaa.Share
