/- The walk of TurnShares. Conditions: each number is one of its kind. -/
import Derived.Test.YtfbnnkmjnolnlaaTurnDueW
namespace Go.Proofs.Ytfbnnkmjnolnlaa.Turn
open Go.ChangeShapes Go.WideShapes Go.ChangeAt Go.RowKit Mem
set_option linter.unusedVariables false
set_option linter.unusedSimpArgs false
set_option maxRecDepth 100000

/-- The weights together. -/
def tot (z : Nat → Int) : Nat → Int
  | 0 => 0
  | k + 1 => tot z k + 2 + z k
theorem tot_least {z : Nat → Int} : ∀ n, (∀ j, j < n → 0 ≤ z j) → 2 * (n : Int) ≤ tot z n
  | 0, _ => by simp [tot]
  | n + 1, h => by have := tot_least n (fun j hj => h j (by omega)); have := h n (by omega); simp only [tot]; omega
theorem tot_most {z : Nat → Int} : ∀ n, (∀ j, j < n → z j ≤ 65535) → tot z n ≤ 65537 * (n : Int)
  | 0, _ => by simp [tot]
  | n + 1, h => by have := tot_most n (fun j hj => h j (by omega)); have := h n (by omega); simp only [tot]; omega
/-- Each weight is all of them, or the others are 2 at least. -/
theorem tot_has {z : Nat → Int} : ∀ n, (∀ j, j < n → 0 ≤ z j) → ∀ k, k < n → (n = 1 ∧ tot z n = 2 + z k) ∨ 4 + z k ≤ tot z n
  | 0, _, k, hk => by omega
  | n + 1, h, k, hk => by
    have l := tot_least n (fun j hj => h j (by omega))
    have hn := h n (by omega)
    simp only [tot]
    rcases Nat.lt_succ_iff_lt_or_eq.1 hk with h1 | rfl
    · rcases tot_has n (fun j hj => h j (by omega)) k h1 with ⟨h2, h3⟩ | h2 <;> right <;> omega
    · cases k with
      | zero => left; simp [tot]
      | succ m => right; omega
theorem quo_is {a b c : Int} (a0 : 0 ≤ a) (a1 : a ≤ 4294967295) (b0 : 0 ≤ b) (hc : 1 ≤ c) (hb : b ≤ c) : Wide.quo a b c = a * b / c := by
  have h : a * b / c ≤ a := Int.ediv_le_of_le_mul (by omega) (Int.mul_le_mul_of_nonneg_left hb a0)
  refine Wide.quo_in ?_
  unfold Wide.can
  rw [decide_eq_true_iff]
  omega
theorem slice_mul {a b c : Int} (a0 : 0 ≤ a) (a1 : a ≤ 4294967295) (b0 : 1 ≤ b) (hb : b ≤ c) : slice a b c * c ≤ a * b + c := by
  have h0 : 0 ≤ a * b := Int.mul_nonneg a0 (by omega)
  unfold slice
  split
  · obtain rfl : b = c := by omega
    omega
  · rw [quo_is a0 a1 (by omega) (by omega) hb]
    split
    · omega
    · have := Int.ediv_mul_le (a * b) (show c ≠ 0 by omega)
      omega
theorem slice_nonneg {a b c : Int} (a0 : 0 ≤ a) : 0 ≤ slice a b c := by unfold slice; split <;> (try split) <;> omega
theorem slice_small {a b c : Int} (a0 : 0 ≤ a) (a1 : a ≤ 4294967295) (b0 : 1 ≤ b) (hb : b ≤ c) : slice a b c ≤ 4294967296 := by
  have h : a * b / c ≤ a := Int.ediv_le_of_le_mul (by omega) (Int.mul_le_mul_of_nonneg_left hb a0)
  unfold slice
  rw [quo_is a0 a1 (by omega) (by omega) hb]
  split <;> (try split) <;> omega
theorem slice_more {a b c : Int} (a0 : 0 ≤ a) (a1 : a ≤ 4294967295) (b0 : 1 ≤ b) (hb : b = c ∨ b + 2 ≤ c) : slice a b c ≤ slice a (b + 1) c := by
  unfold slice
  rcases hb with rfl | hb
  · rw [if_pos (by omega), if_pos (by omega)]; exact Int.le_refl _
  · have n1 : ¬ c ≤ b := by omega
    have n2 : ¬ c ≤ b + 1 := by omega
    simp only [if_neg n1, if_neg n2, quo_is a0 a1 (show 0 ≤ b by omega) (show 1 ≤ c by omega) (show b ≤ c by omega), quo_is a0 a1 (show 0 ≤ b + 1 by omega) (show 1 ≤ c by omega) (show b + 1 ≤ c by omega)]
    have : a * b / c ≤ a * (b + 1) / c := Int.ediv_le_ediv (by omega) (Int.mul_le_mul_of_nonneg_left (by omega) a0)
    split <;> split <;> omega
/-- What the first k were given. -/
theorem sum_step {a s sum P c k : Int} {b : Int} (h : sum * c ≤ a * P + k * c) (hs : s * c ≤ a * b + c) : (sum + s) * c ≤ a * (P + b) + (k + 1) * c := by
  rw [Int.add_mul, Int.mul_add, Int.add_mul]; omega
theorem sum_end {a sum c n : Int} (hc : 1 ≤ c) (h : sum * c ≤ a * c + n * c) : sum ≤ a + n := by
  rw [← Int.add_mul] at h
  exact Int.le_of_mul_le_mul_right h (by omega)

def LoadI (z : Nat → Int) (len : Nat) (w : World) (left : Nat) (tl tn : Value) (wr : World) : Prop := ∃ k : Nat, k ≤ len ∧ k ≤ 100 ∧ left = 100 - k ∧ tl = .int .u64 (tot z k) ∧ tn = .int .i64 k ∧ wr = w
def SumI (z : Nat → Int) (a : Int) (n : Nat) (w : World) (left : Nat) (ts ti : Value) (wr : World) : Prop := ∃ (k : Nat) (s : Int), k ≤ n ∧ left = n - k ∧ ts = .int .u64 s ∧ ti = .int .i64 k ∧ 0 ≤ s ∧ s ≤ k * 4294967296 ∧ s * tot z n ≤ a * tot z k + k * tot z n ∧ Below w.heap.size w wr
set_option maxHeartbeats 4000000 in
theorem sharesLaw (a : Int) (v : Option Addr) (len cap : Nat) (z : Nat → Int) (w : World) (ha : 0 ≤ a ∧ a ≤ 4294967295) (hlen : len ≤ 9223372036854775807) (hC : PiecesL v len z w) (hz : ∀ j, j < len → 0 ≤ z j ∧ z j ≤ 65535) :
    Calls Try.prog 6 #[.int .u32 a, .slice v len cap] w (Yes w) := by
  have HC := Lib.hid (fun w1 (h : Below w.heap.size w w1) => hC.fresh h)
  clear hC
  have Z := Lib.hid hz
  clear hz
  go_enter Try.func6, Try.ntmps6
  go_wp2_with fail
  go_at_call 10; refine (awake _).mono ?_; rintro e W1 ⟨rfl, hg1⟩
  replace HC := Lib.hid (HC.out _ hg1)
  go_wp2_with fail
  go_loopg [6, 7] 100 (fun left tl tn wr => LoadI z len W1 left tl tn wr)
  case atStart => exact ⟨0, by omega, by omega, rfl, rfl, rfl, rfl⟩
  case round =>
    obtain ⟨k, hk, hk2, rfl, rfl, rfl, hw⟩ := hrel
    obtain rfl : W1 = wr := hw.symm
    by_cases hlt : k < len ∧ k < 100
    · obtain ⟨l1, l2⟩ := hlt
      have q1 : (k : Int) < len := by omega
      have q2 : (k : Int) < 100 := by omega
      obtain ⟨kb, off, rfl, hkb, ⟨z0, z1⟩, c0⟩ := HC.out k l1
      have m0 := tot_least (z := z) k (fun j hj => (Z.out j (by omega)).1)
      have m1 := tot_most (z := z) k (fun j hj => (Z.out j (by omega)).2)
      have hN : Hid (LoadI z len W1 (100 - (k + 1)) (.int .u64 (tot z k + 2 + z k)) (.int .i64 ((k : Int) + 1)) W1) := Lib.hid ⟨k + 1, by omega, by omega, by omega, rfl, by go_num, rfl⟩
      generalize z k = n at *
      generalize tot z k = p at *
      go_wp2_with fail
      go_roundg (100 - (k + 1))
      case measure => omega
      case rel => exact hN.out
    · have hcond : (¬ (k : Int) < len) ∨ ((k : Int) < len ∧ ¬ (k : Int) < 100) := by omega
      have kl : k ≤ len := hk
      have M0 := Lib.hid (tot_least (z := z) k (fun j hj => (Z.out j (by omega)).1))
      have M1 := Lib.hid (tot_most (z := z) k (fun j hj => (Z.out j (by omega)).2))
      have MH := Lib.hid (tot_has (z := z) k (fun j hj => (Z.out j (by omega)).1))
      clear hlt hk
      obtain ⟨c, hc⟩ : ∃ c, tot z k = c := ⟨_, rfl⟩
      have I0 : Hid (SumI z a k W1 k (.int .u64 0) (.int .i64 0) W1) := Lib.hid ⟨0, 0, by omega, by omega, rfl, rfl, by omega, by omega, by simp [tot], Below.refl _ _⟩
      rw [hc] at M0 M1 MH
      simp only [hc]
      have HCC := Lib.hid hc
      clear hc
      rcases hcond with q1 | ⟨q1, q2⟩
      all_goals
        go_wp2_with fail
        go_loopg [8, 9] k (fun left ts ti w2 => SumI z a k W1 left ts ti w2)
        case atStart => exact I0.out
        case round =>
          clear I0
          obtain ⟨i, s, hi, rfl, rfl, rfl, s0, s1, hs, hg2⟩ := hrel
          rw [HCC.out] at hs
          have m0 := M0.out
          have m1 := M1.out
          by_cases hlt : i < k
          · have q3 : (i : Int) < k := by omega
            have q4 : (i : Int) < len := by omega
            have m2 := MH.out i hlt
            obtain ⟨kb, off, rfl, hkb, ⟨z0, z1⟩, c0'⟩ := HC.out i (by omega)
            have c0 := (hg2.cell hkb).trans c0'
            clear c0'
            have e1 := slice_mul (a := a) (b := 2 + z i) (c := c) ha.1 ha.2 (by omega) (by omega)
            have e2 := slice_more (a := a) (b := 2 + z i) (c := c) ha.1 ha.2 (by omega) (by omega)
            have e0 := slice_nonneg (a := a) (b := 2 + z i) (c := c) ha.1
            have e3 : slice a (2 + z i) c ≤ 4294967296 := slice_small ha.1 ha.2 (by omega) (by omega)
            have S1 := Lib.hid (fun W => slices W a (2 + z i) c ⟨ha.1, by omega⟩ ⟨by omega, by omega⟩ ⟨by omega, by omega⟩)
            have S2 := Lib.hid (fun W => slices W a (2 + z i + 1) c ⟨ha.1, by omega⟩ ⟨by omega, by omega⟩ ⟨by omega, by omega⟩)
            have FIN : Hid (∀ w', Below W1.heap.size W1 w' → SumI z a k W1 (k - (i + 1)) (.int .u64 (s + slice a (2 + z i) c)) (.int .i64 ((i : Int) + 1)) w') := Lib.hid fun w' h => ⟨i + 1, _, by omega, by omega, rfl, by go_num, by omega, by omega, by
              have := sum_step hs e1
              rw [HCC.out]
              simp only [tot]
              rw [show tot z i + 2 + z i = tot z i + (2 + z i) by omega]
              simpa using this, h⟩
            clear hs e1 m2
            generalize slice a (2 + z i + 1) c = y at *
            generalize slice a (2 + z i) c = x at *
            generalize z i = n at *
            have e4 : ¬ y < x := by omega
            go_wp2_with fail
            go_at_call 21; (with_reducible refine (S1.out _).mono ?_); rintro e w5 ⟨rfl, hg5⟩
            go_wp2_with fail
            go_at_call 21; (with_reducible refine (S2.out _).mono ?_); rintro e w6 ⟨rfl, hg6⟩
            have N := Lib.hid (FIN.out _ (fresh_trans (fresh_trans hg2 hg5) hg6))
            clear FIN
            go_wp2_with fail
            go_roundg (k - (i + 1))
            case measure => omega
            case rel => exact N.out
          · obtain rfl : i = k := by omega
            rw [HCC.out] at hs
            have e1 : s ≤ a + i := by
              rcases Nat.eq_zero_or_pos i with h | h
              · subst h; omega
              · exact sum_end (c := c) (by omega) hs
            have q3 : ¬ (i : Int) < i := by omega
            have FIN := Lib.hid (fresh_trans hg1 hg2)
            clear hs
            go_wp2_with fail
            go_ret
            exact ⟨rfl, FIN.out⟩
end Go.Proofs.Ytfbnnkmjnolnlaa.Turn
