/- What each call of the document's own answers for package fix returns: at all numbers of 64 bits. Conditions: each argument is a number of its kind. -/
import Derived.Test.YtjdokpeiefcijaaFixCalls
import Derived.Lib.Hide
namespace Go.Proofs.Ytjdokpeiefcijaa.Fix
open Go.ChangeShapes Go.WideShapes Go.ChangeAt Go.RowKit
set_option linter.unusedVariables false

theorem refAdd (a b : Int) (w : World) (ha : I64 a) (hb : I64 b) :
    Calls Try.prog 12 #[.int .i64 a, .int .i64 b] w (Two (only (a + b)) (fits (a + b)) w) := by
  by_cases hs : I64 (a + b)
  · rw [only_in hs, fits_in hs]
    unfold I64 at *
    by_cases h1 : 0 < b <;> by_cases h2 : b < 0
    all_goals
      go_enter Try.func12, Try.ntmps12
      go_wp2
      all_goals first | (exfalso; omega) | (go_ret2; exact ⟨rfl, rfl⟩)
  · rw [only_out hs, fits_out hs]
    unfold I64 at *
    by_cases h1 : 0 < b <;> by_cases h2 : b < 0
    all_goals
      go_enter Try.func12, Try.ntmps12
      go_wp2
      all_goals first | (exfalso; omega) | (go_ret2; exact ⟨rfl, rfl⟩)

theorem refSub (a b : Int) (w : World) (ha : I64 a) (hb : I64 b) :
    Calls Try.prog 14 #[.int .i64 a, .int .i64 b] w (Two (only (a - b)) (fits (a - b)) w) := by
  by_cases hs : I64 (a - b)
  · rw [only_in hs, fits_in hs]
    unfold I64 at *
    by_cases h1 : 0 < b <;> by_cases h2 : b < 0
    all_goals
      go_enter Try.func14, Try.ntmps14
      go_wp2
      all_goals first | (exfalso; omega) | (go_ret2; exact ⟨rfl, rfl⟩)
  · rw [only_out hs, fits_out hs]
    unfold I64 at *
    by_cases h1 : 0 < b <;> by_cases h2 : b < 0
    all_goals
      go_enter Try.func14, Try.ntmps14
      go_wp2
      all_goals first | (exfalso; omega) | (go_ret2; exact ⟨rfl, rfl⟩)

theorem refSat (a b : Int) (w : World) (ha : I64 a) (hb : I64 b) :
    Calls Try.prog 18 #[.int .i64 a, .int .i64 b] w (One (ends (a + b)) w) := by
  by_cases hs : I64 (a + b)
  · have e1 := only_in hs
    have e2 := fits_in hs
    go_enter Try.func18, Try.ntmps18
    go_wp2_with (go_at_call 12; refine (refAdd a b _ ha hb).mono ?_; rintro e w' ⟨rfl, rfl⟩)
    go_ret; exact one_of (by unfold ends; unfold I64 at hs; split <;> (try split) <;> omega)
  · have e1 := only_out hs
    have e2 := fits_out hs
    by_cases h1 : 0 < b
    all_goals
      go_enter Try.func18, Try.ntmps18
      go_wp2_with (go_at_call 12; refine (refAdd a b _ ha hb).mono ?_; rintro e w' ⟨rfl, rfl⟩)
      go_ret; exact one_of (by unfold ends; unfold I64 at *; split <;> (try split) <;> omega)

theorem refLess (a b : Int) (w : World) (ha : I64 a) (hb : I64 b) :
    Calls Try.prog 20 #[.int .i64 a, .int .i64 b] w (One (ends (a - b)) w) := by
  by_cases hs : I64 (a - b)
  · have e1 := only_in hs
    have e2 := fits_in hs
    go_enter Try.func20, Try.ntmps20
    go_wp2_with (go_at_call 14; refine (refSub a b _ ha hb).mono ?_; rintro e w' ⟨rfl, rfl⟩)
    go_ret; exact one_of (by unfold ends; unfold I64 at hs; split <;> (try split) <;> omega)
  · have e1 := only_out hs
    have e2 := fits_out hs
    by_cases h1 : b < 0
    all_goals
      go_enter Try.func20, Try.ntmps20
      go_wp2_with (go_at_call 14; refine (refSub a b _ ha hb).mono ?_; rintro e w' ⟨rfl, rfl⟩)
      go_ret; exact one_of (by unfold ends; unfold I64 at *; split <;> (try split) <;> omega)

theorem refHold (n low high : Int) (w : World) :
    Calls Try.prog 22 #[.int .i64 n, .int .i64 low, .int .i64 high] w (One (hold n low high) w) := by
  by_cases h1 : n < low
  · go_enter Try.func22, Try.ntmps22
    go_wp2
    go_ret; exact one_of (by unfold hold; split <;> omega)
  · by_cases h2 : high < n
    all_goals
      go_enter Try.func22, Try.ntmps22
      go_wp2
      go_ret; exact one_of (by unfold hold; split <;> (try split) <;> omega)

theorem refSize (n : Int) (w : World) (hn : I64 n) :
    Calls Try.prog 23 #[.int .i64 n] w fun e w' => e = .returned (.int .u64 (n.natAbs : Int)) ∧ w = w' := by
  unfold I64 at hn
  by_cases h : n < 0
  · have e : ((n.natAbs : Nat) : Int) = -(n + 1) + 1 := by omega
    rw [e]
    go_enter Try.func23, Try.ntmps23
    go_wp2
    go_ret; exact ⟨rfl, rfl⟩
  · have e : ((n.natAbs : Nat) : Int) = n := by omega
    rw [e]
    go_enter Try.func23, Try.ntmps23
    go_wp2
    go_ret; exact ⟨rfl, rfl⟩

theorem refSizeAs (n p : Int) (w : World) (hn : I64 n) (hp : p = (n.natAbs : Int)) :
    Calls Try.prog 23 #[.int .i64 n] w fun e w' => e = .returned (.int .u64 p) ∧ w = w' := by
  subst hp; exact refSize n w hn

theorem mul_room (p q r : Int) (h1 : 1 ≤ q) (h : p * q ≤ r) : p ≤ r / q := (Int.le_ediv_iff_mul_le (by omega)).2 h
theorem mul_over (p q r : Int) (h1 : 1 ≤ q) (h : r < p * q) : r / q < p := (Int.ediv_lt_iff_lt_mul (by omega)).2 h

set_option maxHeartbeats 400000 in
theorem refMul_same1 (a b p q : Int) (w : World) (HA : Hid (I64 a)) (HB : Hid (I64 b)) (HP : Hid (p = (a.natAbs : Int))) (HQ : Hid (q = (b.natAbs : Int))) (h1 : 1 ≤ p) (h2 : 1 ≤ q) (p3 : p ≤ 9223372036854775808) (q3 : q ≤ 9223372036854775808) (s1 : a < 0) (s2 : b < 0) (hr : p ≤ 9223372036854775807 / q) (bd : p * q ≤ 9223372036854775807) (b1 : 1 ≤ p * q) :
    Calls Try.prog 16 #[.int .i64 a, .int .i64 b] w (Two (p * q) true w) := by
  have a0 : (a == 0) = false := by simp; omega
  have b0 : (b == 0) = false := by simp; omega
  have da : decide (a < 0) = true := by simp; omega
  have db : decide (b < 0) = true := by simp; omega
  clear s1 s2
  go_enter Try.func16, Try.ntmps16
  go_wp2_with (go_at_call 23; first | ((with_reducible refine (refSizeAs a p _ HA.out HP.out).mono ?_); rintro e w' ⟨rfl, rfl⟩) | ((with_reducible refine (refSizeAs b q _ HB.out HQ.out).mono ?_); rintro e w' ⟨rfl, rfl⟩))
  go_ret2; exact two_of rfl

set_option maxHeartbeats 400000 in
theorem refMul_same2 (a b p q : Int) (w : World) (HA : Hid (I64 a)) (HB : Hid (I64 b)) (HP : Hid (p = (a.natAbs : Int))) (HQ : Hid (q = (b.natAbs : Int))) (h1 : 1 ≤ p) (h2 : 1 ≤ q) (p3 : p ≤ 9223372036854775808) (q3 : q ≤ 9223372036854775808) (s1 : 0 < a) (s2 : 0 < b) (hr : p ≤ 9223372036854775807 / q) (bd : p * q ≤ 9223372036854775807) (b1 : 1 ≤ p * q) :
    Calls Try.prog 16 #[.int .i64 a, .int .i64 b] w (Two (p * q) true w) := by
  have a0 : (a == 0) = false := by simp; omega
  have b0 : (b == 0) = false := by simp; omega
  have da : decide (a < 0) = false := by simp; omega
  have db : decide (b < 0) = false := by simp; omega
  clear s1 s2
  go_enter Try.func16, Try.ntmps16
  go_wp2_with (go_at_call 23; first | ((with_reducible refine (refSizeAs a p _ HA.out HP.out).mono ?_); rintro e w' ⟨rfl, rfl⟩) | ((with_reducible refine (refSizeAs b q _ HB.out HQ.out).mono ?_); rintro e w' ⟨rfl, rfl⟩))
  go_ret2; exact two_of rfl

set_option maxHeartbeats 400000 in
theorem refMul_cross1 (a b p q : Int) (w : World) (HA : Hid (I64 a)) (HB : Hid (I64 b)) (HP : Hid (p = (a.natAbs : Int))) (HQ : Hid (q = (b.natAbs : Int))) (h1 : 1 ≤ p) (h2 : 1 ≤ q) (p3 : p ≤ 9223372036854775808) (q3 : q ≤ 9223372036854775808) (s1 : a < 0) (s2 : 0 < b) (hr : p ≤ 9223372036854775808 / q) (bd : p * q ≤ 9223372036854775808) (b1 : 1 ≤ p * q) :
    Calls Try.prog 16 #[.int .i64 a, .int .i64 b] w (Two (-(p * q - 1) - 1) true w) := by
  have a0 : (a == 0) = false := by simp; omega
  have b0 : (b == 0) = false := by simp; omega
  have da : decide (a < 0) = true := by simp; omega
  have db : decide (b < 0) = false := by simp; omega
  clear s1 s2
  go_enter Try.func16, Try.ntmps16
  go_wp2_with (go_at_call 23; first | ((with_reducible refine (refSizeAs a p _ HA.out HP.out).mono ?_); rintro e w' ⟨rfl, rfl⟩) | ((with_reducible refine (refSizeAs b q _ HB.out HQ.out).mono ?_); rintro e w' ⟨rfl, rfl⟩))
  go_ret2; exact two_of rfl

set_option maxHeartbeats 400000 in
theorem refMul_cross2 (a b p q : Int) (w : World) (HA : Hid (I64 a)) (HB : Hid (I64 b)) (HP : Hid (p = (a.natAbs : Int))) (HQ : Hid (q = (b.natAbs : Int))) (h1 : 1 ≤ p) (h2 : 1 ≤ q) (p3 : p ≤ 9223372036854775808) (q3 : q ≤ 9223372036854775808) (s1 : 0 < a) (s2 : b < 0) (hr : p ≤ 9223372036854775808 / q) (bd : p * q ≤ 9223372036854775808) (b1 : 1 ≤ p * q) :
    Calls Try.prog 16 #[.int .i64 a, .int .i64 b] w (Two (-(p * q - 1) - 1) true w) := by
  have a0 : (a == 0) = false := by simp; omega
  have b0 : (b == 0) = false := by simp; omega
  have da : decide (a < 0) = false := by simp; omega
  have db : decide (b < 0) = true := by simp; omega
  clear s1 s2
  go_enter Try.func16, Try.ntmps16
  go_wp2_with (go_at_call 23; first | ((with_reducible refine (refSizeAs a p _ HA.out HP.out).mono ?_); rintro e w' ⟨rfl, rfl⟩) | ((with_reducible refine (refSizeAs b q _ HB.out HQ.out).mono ?_); rintro e w' ⟨rfl, rfl⟩))
  go_ret2; exact two_of rfl

set_option maxHeartbeats 400000 in
theorem refMul_sameNo1 (a b p q : Int) (w : World) (HA : Hid (I64 a)) (HB : Hid (I64 b)) (HP : Hid (p = (a.natAbs : Int))) (HQ : Hid (q = (b.natAbs : Int))) (h1 : 1 ≤ p) (h2 : 1 ≤ q) (p3 : p ≤ 9223372036854775808) (q3 : q ≤ 9223372036854775808) (s1 : a < 0) (s2 : b < 0) (hr : 9223372036854775807 / q < p) :
    Calls Try.prog 16 #[.int .i64 a, .int .i64 b] w (Two (0) false w) := by
  have a0 : (a == 0) = false := by simp; omega
  have b0 : (b == 0) = false := by simp; omega
  have da : decide (a < 0) = true := by simp; omega
  have db : decide (b < 0) = true := by simp; omega
  clear s1 s2
  go_enter Try.func16, Try.ntmps16
  go_wp2_with (go_at_call 23; first | ((with_reducible refine (refSizeAs a p _ HA.out HP.out).mono ?_); rintro e w' ⟨rfl, rfl⟩) | ((with_reducible refine (refSizeAs b q _ HB.out HQ.out).mono ?_); rintro e w' ⟨rfl, rfl⟩))
  go_ret2; exact two_of rfl

set_option maxHeartbeats 400000 in
theorem refMul_sameNo2 (a b p q : Int) (w : World) (HA : Hid (I64 a)) (HB : Hid (I64 b)) (HP : Hid (p = (a.natAbs : Int))) (HQ : Hid (q = (b.natAbs : Int))) (h1 : 1 ≤ p) (h2 : 1 ≤ q) (p3 : p ≤ 9223372036854775808) (q3 : q ≤ 9223372036854775808) (s1 : 0 < a) (s2 : 0 < b) (hr : 9223372036854775807 / q < p) :
    Calls Try.prog 16 #[.int .i64 a, .int .i64 b] w (Two (0) false w) := by
  have a0 : (a == 0) = false := by simp; omega
  have b0 : (b == 0) = false := by simp; omega
  have da : decide (a < 0) = false := by simp; omega
  have db : decide (b < 0) = false := by simp; omega
  clear s1 s2
  go_enter Try.func16, Try.ntmps16
  go_wp2_with (go_at_call 23; first | ((with_reducible refine (refSizeAs a p _ HA.out HP.out).mono ?_); rintro e w' ⟨rfl, rfl⟩) | ((with_reducible refine (refSizeAs b q _ HB.out HQ.out).mono ?_); rintro e w' ⟨rfl, rfl⟩))
  go_ret2; exact two_of rfl

set_option maxHeartbeats 400000 in
theorem refMul_crossNo1 (a b p q : Int) (w : World) (HA : Hid (I64 a)) (HB : Hid (I64 b)) (HP : Hid (p = (a.natAbs : Int))) (HQ : Hid (q = (b.natAbs : Int))) (h1 : 1 ≤ p) (h2 : 1 ≤ q) (p3 : p ≤ 9223372036854775808) (q3 : q ≤ 9223372036854775808) (s1 : a < 0) (s2 : 0 < b) (hr : 9223372036854775808 / q < p) :
    Calls Try.prog 16 #[.int .i64 a, .int .i64 b] w (Two (0) false w) := by
  have a0 : (a == 0) = false := by simp; omega
  have b0 : (b == 0) = false := by simp; omega
  have da : decide (a < 0) = true := by simp; omega
  have db : decide (b < 0) = false := by simp; omega
  clear s1 s2
  go_enter Try.func16, Try.ntmps16
  go_wp2_with (go_at_call 23; first | ((with_reducible refine (refSizeAs a p _ HA.out HP.out).mono ?_); rintro e w' ⟨rfl, rfl⟩) | ((with_reducible refine (refSizeAs b q _ HB.out HQ.out).mono ?_); rintro e w' ⟨rfl, rfl⟩))
  go_ret2; exact two_of rfl

set_option maxHeartbeats 400000 in
theorem refMul_crossNo2 (a b p q : Int) (w : World) (HA : Hid (I64 a)) (HB : Hid (I64 b)) (HP : Hid (p = (a.natAbs : Int))) (HQ : Hid (q = (b.natAbs : Int))) (h1 : 1 ≤ p) (h2 : 1 ≤ q) (p3 : p ≤ 9223372036854775808) (q3 : q ≤ 9223372036854775808) (s1 : 0 < a) (s2 : b < 0) (hr : 9223372036854775808 / q < p) :
    Calls Try.prog 16 #[.int .i64 a, .int .i64 b] w (Two (0) false w) := by
  have a0 : (a == 0) = false := by simp; omega
  have b0 : (b == 0) = false := by simp; omega
  have da : decide (a < 0) = false := by simp; omega
  have db : decide (b < 0) = true := by simp; omega
  clear s1 s2
  go_enter Try.func16, Try.ntmps16
  go_wp2_with (go_at_call 23; first | ((with_reducible refine (refSizeAs a p _ HA.out HP.out).mono ?_); rintro e w' ⟨rfl, rfl⟩) | ((with_reducible refine (refSizeAs b q _ HB.out HQ.out).mono ?_); rintro e w' ⟨rfl, rfl⟩))
  go_ret2; exact two_of rfl

theorem one_le_mul {p q : Int} (h1 : 1 ≤ p) (h2 : 1 ≤ q) : 1 ≤ p * q := by
  have := Int.mul_le_mul h1 h2 (by omega) (by omega); omega

theorem refMul (a b : Int) (w : World) (ha : I64 a) (hb : I64 b) :
    Calls Try.prog 16 #[.int .i64 a, .int .i64 b] w (Two (only (a * b)) (fits (a * b)) w) := by
  by_cases a0 : a = 0
  · subst a0
    rw [Int.zero_mul]
    go_enter Try.func16, Try.ntmps16
    go_wp2
    go_ret2; exact two_of rfl
  by_cases b0 : b = 0
  · subst b0
    rw [Int.mul_zero]
    have a1 : (a == 0) = false := by simpa using a0
    go_enter Try.func16, Try.ntmps16
    go_wp2
    go_ret2; exact two_of rfl
  have p1 : (1 : Int) ≤ (a.natAbs : Int) := by omega
  have q1 : (1 : Int) ≤ (b.natAbs : Int) := by omega
  have p3 : (a.natAbs : Int) ≤ 9223372036854775808 := by unfold I64 at ha; omega
  have q3 : (b.natAbs : Int) ≤ 9223372036854775808 := by unfold I64 at hb; omega
  have pq := one_le_mul p1 q1
  have HA := Lib.hid ha
  have HB := Lib.hid hb
  have HP : Hid ((a.natAbs : Int) = (a.natAbs : Int)) := Lib.hid rfl
  have HQ : Hid ((b.natAbs : Int) = (b.natAbs : Int)) := Lib.hid rfl
  have same (e : a * b = (a.natAbs : Int) * (b.natAbs : Int)) (s : a < 0 ∧ b < 0 ∨ 0 < a ∧ 0 < b) :
      Calls Try.prog 16 #[.int .i64 a, .int .i64 b] w (Two (only (a * b)) (fits (a * b)) w) := by
    by_cases hs : I64 (a * b)
    · rw [only_in hs, fits_in hs, e]
      rw [e] at hs
      have hr := mul_room _ _ _ q1 hs.2
      rcases s with ⟨s1, s2⟩ | ⟨s1, s2⟩
      · exact refMul_same1 a b _ _ w HA HB HP HQ p1 q1 p3 q3 s1 s2 hr hs.2 pq
      · exact refMul_same2 a b _ _ w HA HB HP HQ p1 q1 p3 q3 s1 s2 hr hs.2 pq
    · rw [only_out hs, fits_out hs]
      have hr := mul_over (a.natAbs : Int) (b.natAbs : Int) 9223372036854775807 q1 (by unfold I64 at hs; omega)
      rcases s with ⟨s1, s2⟩ | ⟨s1, s2⟩
      · exact refMul_sameNo1 a b _ _ w HA HB HP HQ p1 q1 p3 q3 s1 s2 hr
      · exact refMul_sameNo2 a b _ _ w HA HB HP HQ p1 q1 p3 q3 s1 s2 hr
  have cross (e : a * b = -((a.natAbs : Int) * (b.natAbs : Int))) (s : a < 0 ∧ 0 < b ∨ 0 < a ∧ b < 0) :
      Calls Try.prog 16 #[.int .i64 a, .int .i64 b] w (Two (only (a * b)) (fits (a * b)) w) := by
    by_cases hs : I64 (a * b)
    · have e' : a * b = -((a.natAbs : Int) * (b.natAbs : Int) - 1) - 1 := by omega
      rw [only_in hs, fits_in hs, e']
      have bd : (a.natAbs : Int) * (b.natAbs : Int) ≤ 9223372036854775808 := by unfold I64 at hs; omega
      have hr := mul_room _ _ _ q1 bd
      rcases s with ⟨s1, s2⟩ | ⟨s1, s2⟩
      · exact refMul_cross1 a b _ _ w HA HB HP HQ p1 q1 p3 q3 s1 s2 hr bd pq
      · exact refMul_cross2 a b _ _ w HA HB HP HQ p1 q1 p3 q3 s1 s2 hr bd pq
    · rw [only_out hs, fits_out hs]
      have hr := mul_over (a.natAbs : Int) (b.natAbs : Int) 9223372036854775808 q1 (by unfold I64 at hs; omega)
      rcases s with ⟨s1, s2⟩ | ⟨s1, s2⟩
      · exact refMul_crossNo1 a b _ _ w HA HB HP HQ p1 q1 p3 q3 s1 s2 hr
      · exact refMul_crossNo2 a b _ _ w HA HB HP HQ p1 q1 p3 q3 s1 s2 hr
  by_cases s1 : a < 0 <;> by_cases s2 : b < 0
  · have ea : a = -(a.natAbs : Int) := by omega
    have eb : b = -(b.natAbs : Int) := by omega
    exact same (by conv => lhs; rw [ea, eb, Int.neg_mul_neg]) (by omega)
  · have ea : a = -(a.natAbs : Int) := by omega
    have eb : b = (b.natAbs : Int) := by omega
    exact cross (by conv => lhs; rw [ea, eb, Int.neg_mul]) (by omega)
  · have ea : a = (a.natAbs : Int) := by omega
    have eb : b = -(b.natAbs : Int) := by omega
    exact cross (by conv => lhs; rw [ea, eb, Int.mul_neg]) (by omega)
  · have ea : a = (a.natAbs : Int) := by omega
    have eb : b = (b.natAbs : Int) := by omega
    exact same (by conv => lhs; rw [ea, eb]) (by omega)
end Go.Proofs.Ytjdokpeiefcijaa.Fix
