/- Plain whole numbers: what a nice number weighs, and which one is nearest; nothing of a program. Conditions: as each fact states them. -/
import Derived.IntWalk
namespace Go.Proofs.Yteogjojakocbnaa.Nice
set_option linter.unusedVariables false

/-- 1024 times 5/4, or 4/5, as often as the nice number asks, cut once. -/
def wgt (n : Int) : Int := if 0 ≤ n then 1024 * 4 ^ n.toNat / 5 ^ n.toNat else 1024 * 5 ^ (-n).toNat / 4 ^ (-n).toNat
def may (n : Int) : Bool := decide (-20 ≤ n ∧ n ≤ 19)
def wt (n : Int) : Int := if may n then wgt n else 0
def er (n : Int) : Int := if may n then 0 else 1

/-- What holds of each nice number, one by one. -/
theorem each {P : Int → Prop} (h : ∀ k : Fin 40, P ((k.val : Int) - 20)) (n : Int) (h1 : -20 ≤ n) (h2 : n ≤ 19) : P n := by
  have := h ⟨(n + 20).toNat, by omega⟩
  have e : (((n + 20).toNat : Nat) : Int) - 20 = n := by omega
  rwa [e] at this

theorem wgt_bd (n : Int) (h1 : -20 ≤ n) (h2 : n ≤ 19) : 14 ≤ wgt n ∧ wgt n ≤ 88817 :=
  each (P := fun n => 14 ≤ wgt n ∧ wgt n ≤ 88817) (by decide +kernel) n h1 h2
theorem falls (n : Int) (h1 : -19 ≤ n) (h2 : n ≤ 19) : wgt n < wgt (n - 1) ∧ 4 * wgt (n - 1) ≤ 5 * wgt n + 4 ∧ 5 * wgt n ≤ 4 * wgt (n - 1) + 3 :=
  each (P := fun n => -19 ≤ n → wgt n < wgt (n - 1) ∧ 4 * wgt (n - 1) ≤ 5 * wgt n + 4 ∧ 5 * wgt n ≤ 4 * wgt (n - 1) + 3) (by decide +kernel) n (by omega) h2 h1
theorem across (n : Int) (h1 : 0 ≤ n) (h2 : n ≤ 19) : 1 ≤ wgt n ∧ wgt n ≤ wgt (-n) ∧ wgt n * wgt (-n) ≤ 1048576 ∧ 1048576 ≤ wgt n * wgt (-n) + wgt n + wgt (-n) + 1 :=
  each (P := fun n => 0 ≤ n → 1 ≤ wgt n ∧ wgt n ≤ wgt (-n) ∧ wgt n * wgt (-n) ≤ 1048576 ∧ 1048576 ≤ wgt n * wgt (-n) + wgt n + wgt (-n) + 1) (by decide +kernel) n (by omega) h2 h1
theorem wgt_zero : wgt 0 = 1024 := by decide +kernel
theorem wgt_one : wgt (-1) = 1280 := by decide +kernel

theorem drops (a : Int) (h1 : -20 ≤ a) : ∀ k : Nat, a + k ≤ 19 → wgt (a + k) + k ≤ wgt a
  | 0, _ => by simp
  | k + 1, h => by
    have h3 := drops a h1 k (by omega)
    have h4 := (falls (a + (k + 1 : Nat)) (by omega) (by omega)).1
    have e : a + ((k + 1 : Nat) : Int) - 1 = a + (k : Int) := by omega
    rw [e] at h4
    omega
theorem lower (a b : Int) (h1 : -20 ≤ a) (h2 : a ≤ b) (h3 : b ≤ 19) : wgt b ≤ wgt a := by
  have := drops a h1 (b - a).toNat (by omega)
  have e : a + ((b - a).toNat : Int) = b := by omega
  rw [e] at this
  omega

/-- The greatest nice number whose weight is not below w; -20 if all are. -/
def nstAux (w : Int) : Nat → Int
  | 0 => -20
  | k + 1 => if w ≤ wgt ((k : Int) + 1 - 20) then (k : Int) + 1 - 20 else nstAux w k
def nst (w : Int) : Int := nstAux w 39
def IsNst (w r : Int) : Prop := -20 ≤ r ∧ r ≤ 19 ∧ (r < 19 → wgt (r + 1) < w) ∧ (-20 < r → w ≤ wgt r)

theorem nstAux_is (w : Int) : ∀ k : Nat, k ≤ 39 → (k < 39 → wgt ((k : Int) + 1 - 20) < w) → IsNst w (nstAux w k)
  | 0, _, h => ⟨by simp [nstAux], by simp [nstAux], fun _ => by simpa [nstAux] using h (by omega), by simp [nstAux]⟩
  | k + 1, hk, h => by
    unfold nstAux
    split
    · rename_i hw
      refine ⟨by omega, by omega, fun h2 => ?_, fun _ => hw⟩
      have := h (by omega)
      have e : (k : Int) + 1 - 20 + 1 = ((k + 1 : Nat) : Int) + 1 - 20 := by omega
      rw [e]; exact this
    · exact nstAux_is w k (by omega) (fun _ => by omega)
theorem nst_is (w : Int) : IsNst w (nst w) := nstAux_is w 39 (by omega) (by omega)
theorem nst_only (w r : Int) (h : IsNst w r) : r = nst w := by
  have k := nst_is w
  generalize nst w = s at *
  obtain ⟨h1, h2, h3, h4⟩ := h
  obtain ⟨k1, k2, k3, k4⟩ := k
  rcases Int.lt_trichotomy r s with c | c | c
  · have := h3 (by omega); have := k4 (by omega); have := lower (r + 1) s (by omega) (by omega) k2; omega
  · exact c
  · have := k3 (by omega); have := h4 (by omega); have := lower (s + 1) r (by omega) (by omega) h2; omega
theorem nst_bd (w : Int) : -20 ≤ nst w ∧ nst w ≤ 19 := ⟨(nst_is w).1, (nst_is w).2.1⟩

theorem pow4 (k : Nat) (h : k ≤ 20) : 1 ≤ (4 : Int) ^ k ∧ (4 : Int) ^ k ≤ 1099511627776 := by
  have : ∀ k : Fin 21, 1 ≤ (4 : Int) ^ k.val ∧ (4 : Int) ^ k.val ≤ 1099511627776 := by decide +kernel
  exact this ⟨k, by omega⟩
theorem pow5 (k : Nat) (h : k ≤ 20) : 1 ≤ (5 : Int) ^ k ∧ (5 : Int) ^ k ≤ 95367431640625 := by
  have : ∀ k : Fin 21, 1 ≤ (5 : Int) ^ k.val ∧ (5 : Int) ^ k.val ≤ 95367431640625 := by decide +kernel
  exact this ⟨k, by omega⟩
theorem pow_step (b : Int) (k : Nat) : b ^ k * b = b ^ (k + 1) := (Int.pow_succ b k).symm
theorem wgt_up (n : Int) (h : 0 ≤ n) : wgt n = 1024 * 4 ^ n.toNat / 5 ^ n.toNat := if_pos h
theorem wgt_down (n : Int) (h : n < 0) : wgt n = 1024 * 5 ^ (-n).toNat / 4 ^ (-n).toNat := if_neg (by omega)
theorem may_in {n : Int} (h1 : -20 ≤ n) (h2 : n ≤ 19) : may n = true := decide_eq_true ⟨h1, h2⟩
theorem may_out {n : Int} (h : n < -20 ∨ 19 < n) : may n = false := decide_eq_false (by omega)
theorem wt_in {n : Int} (h : may n = true) : wt n = wgt n := if_pos h
theorem er_in {n : Int} (h : may n = true) : er n = 0 := if_pos h
theorem wt_out {n : Int} (h : may n = false) : wt n = 0 := if_neg (by simp [h])
theorem er_out {n : Int} (h : may n = false) : er n = 1 := if_neg (by simp [h])
end Go.Proofs.Yteogjojakocbnaa.Nice
