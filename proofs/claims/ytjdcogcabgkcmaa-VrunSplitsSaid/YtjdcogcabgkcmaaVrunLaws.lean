/- The walks of the statements of package vrun. Conditions: each argument is a number of its kind. -/
import Derived.Test.YtjdcogcabgkcmaaVrunCalls
import Derived.Laws.Cover1
namespace Go.Proofs.Ytjdcogcabgkcmaa.Vrun
open Go.ChangeShapes Go.WideShapes Go.ChangeAt Go.RowKit
set_option linter.unusedVariables false

def Yes (w : World) (e : Ending) (w' : World) : Prop := e = .returned (.bool true) ∧ Below w.heap.size w w'
theorem yes_of {b : Bool} {w w' : World} (h : b = true) (g : Below w.heap.size w w') : Yes w (.returned (.bool b)) w' := by subst h; exact ⟨rfl, g⟩

/-- A charge, and a need, in the form in which the laws ask for them. -/
theorem chg_in (a b c x r t : Int) (w : World) (h1 : a = x) (h2 : b = r) (h3 : c = t) (x1 : 2 ≤ x) (x2 : x ≤ 262144) (r0 : 0 ≤ r) (r1 : r < x) (t0 : 0 ≤ t) (t1 : t ≤ 1000000000) :
    Calls Try.prog 11 #[.int .u64 a, .int .u64 b, .int .u64 c] w (Chg ((r + 1024 * t) / x) ((r + 1024 * t) % x) 0 w) := by
  subst h1 h2 h3
  have := charge a b c w (by omega) r0 t0
  rwa [cval_in x1 x2 r1 t1, crem_in x1 x2 r1 t1, cerr_in x1 x2 r1 t1] at this
/-- How long is needed: enough, and a nanosecond less is not. -/
def nv (x l v : Int) : Int := if v * x ≤ l then 0 else (v * x - l + 1023) / 1024
theorem ned_in (a b c x r d : Int) (w : World) (h1 : a = x) (h2 : b = r) (h3 : c = d) (x1 : 2 ≤ x) (x2 : x ≤ 262144) (r0 : 0 ≤ r) (r1 : r < x) (t0 : 0 ≤ d) (t1 : d ≤ 1099511627776) :
    Calls Try.prog 13 #[.int .u64 a, .int .u64 b, .int .i64 c] w (Ned (nv x r d) 0 w) := by
  subst h1 h2 h3
  have := need a b c w (by omega) r0
  rwa [nval_in x1 x2 r1 t0 t1, nerr_in x1 x2 r1 t0 t1] at this

theorem awake (w : World) : Calls Try.prog 10 #[] w (Yes w) := by
  have m1 := Lib.hid (fun w => chg_in 3 0 1 3 0 1 w rfl rfl rfl (by omega) (by omega) (by omega) (by omega) (by omega) (by omega))
  have m2 := Lib.hid (fun w => ned_in 3 0 342 3 0 342 w rfl rfl rfl (by omega) (by omega) (by omega) (by omega) (by omega) (by omega))
  rw [show ((0 : Int) + 1024 * 1) / 3 = 341 by decide, show ((0 : Int) + 1024 * 1) % 3 = 1 by decide] at m1
  rw [show nv 3 0 342 = 2 by decide] at m2
  have hg := Below.refl w.heap.size w
  go_enter Try.func10, Try.ntmps10
  go_wp2_with (first
    | (go_at_call 11; refine (m1.out _).mono ?_; rintro e w1 ⟨rfl, hg1⟩; replace hg := fresh_trans hg hg1; clear hg1)
    | (go_at_call 13; refine (m2.out _).mono ?_; rintro e w1 ⟨rfl, hg1⟩; replace hg := fresh_trans hg hg1; clear hg1))
  go_ret
  exact yes_of rfl hg

/-- A weight that may be, and what is left over of it. -/
def wx (a : Int) : Int := 2 + a % 262143
def lx (a b : Int) : Int := b % wx a
theorem wx_bd (a : Int) : 2 ≤ wx a ∧ wx a ≤ 262144 := by unfold wx; omega
theorem lx_bd (a b : Int) : 0 ≤ lx a b ∧ lx a b < wx a := ⟨Int.emod_nonneg _ (by have := wx_bd a; omega), Int.emod_lt_of_pos _ (by have := wx_bd a; omega)⟩
def Two (a b : Int) (w : World) (e : Ending) (w' : World) : Prop := e = .returned (.tuple #[.int .u64 a, .int .u64 b]) ∧ Below w.heap.size w w'
theorem weight (a b : Int) (w : World) (a0 : 0 ≤ a) (a1 : a ≤ 4294967295) (b0 : 0 ≤ b) (b1 : b ≤ 4294967295) :
    Calls Try.prog 15 #[.int .u32 a, .int .u32 b] w (Two (wx a) (lx a b) w) := by
  have d0 : (2 + a % 262143 == 0) = false := by simp; omega
  obtain ⟨k0, k1⟩ := lx_bd a b
  unfold lx wx at *
  go_enter Try.func15, Try.ntmps15
  go_wp2
  go_quiet (fail)
  go_wp2
  go_ret2
  exact ⟨rfl, drawn w _⟩

theorem exact_as (a b n x l t d s : Int) (w : World) (C0 : Hid (∀ w, Calls Try.prog 15 #[.int .u32 a, .int .u32 b] w (Two x l w)))
    (C1 : Hid (∀ k w, k = t → Calls Try.prog 11 #[.int .u64 x, .int .u64 l, .int .u64 k] w (Chg d s 0 w)))
    (n0 : 0 ≤ n) (n1 : n ≤ 4294967295) (ht : t = n % 1000000001) (l0 : 0 ≤ l) (l1 : l ≤ 262144) (d0 : 0 ≤ d) (s1 : s < x) (h : d * x + s = l + 1024 * t) (d1 : 0 ≤ d * x) (s0 : 0 ≤ s) (d2 : d ≤ 1099511627776) :
    Calls Try.prog 5 #[.int .u32 a, .int .u32 b, .int .u32 n] w (Yes w) := by
  have hg := Below.refl w.heap.size w
  go_enter Try.func5, Try.ntmps5
  go_wp2_with (first
    | (go_at_call 10; refine (awake _).mono ?_; rintro e w1 ⟨rfl, hg1⟩; replace hg := fresh_trans hg hg1; clear hg1)
    | (go_at_call 15; refine (C0.out _).mono ?_; rintro e w1 ⟨rfl, hg1⟩; replace hg := fresh_trans hg hg1; clear hg1)
    | (go_at_call 11; refine (C1.out _ _ (by omega)).mono ?_; rintro e w1 ⟨rfl, hg1⟩; replace hg := fresh_trans hg hg1; clear hg1))
  go_ret
  exact yes_of (by simp) hg
theorem exactLaw (a b n : Int) (w : World) (a0 : 0 ≤ a) (a1 : a ≤ 4294967295) (b0 : 0 ≤ b) (b1 : b ≤ 4294967295) (n0 : 0 ≤ n) (n1 : n ≤ 4294967295) :
    Calls Try.prog 5 #[.int .u32 a, .int .u32 b, .int .u32 n] w (Yes w) := by
  obtain ⟨x1, x2⟩ := wx_bd a
  obtain ⟨l0, l1⟩ := lx_bd a b
  obtain ⟨q1, q2, q3, q4⟩ := quot_bd (t := n % 1000000001) x1 l1 l0 x2 (by omega) (by omega)
  refine exact_as a b n _ _ _ _ _ w (Lib.hid fun w => weight a b w a0 a1 b0 b1) (Lib.hid fun k w hk => chg_in _ _ _ _ _ _ w rfl rfl hk x1 x2 l0 l1 (by omega) (by omega)) n0 n1 rfl l0 (by omega) q1 q4 ?_ (Int.mul_nonneg q1 (by omega)) q3 q2
  have := Int.emod_add_mul_ediv (lx a b + 1024 * (n % 1000000001)) (wx a)
  rw [Int.mul_comm (wx a)] at this
  omega

theorem needs_as (a b n x l v k d s d' s' : Int) (w : World) (C0 : Hid (∀ w, Calls Try.prog 15 #[.int .u32 a, .int .u32 b] w (Two x l w)))
    (C1 : Hid (∀ j w, j = v → Calls Try.prog 13 #[.int .u64 x, .int .u64 l, .int .i64 j] w (Ned k 0 w)))
    (C2 : Hid (∀ w, Calls Try.prog 11 #[.int .u64 x, .int .u64 l, .int .u64 k] w (Chg d s 0 w)))
    (C3 : 1 ≤ k → Hid (∀ j w, j = k - 1 → Calls Try.prog 11 #[.int .u64 x, .int .u64 l, .int .u64 j] w (Chg d' s' 0 w)))
    (n0 : 0 ≤ n) (n1 : n ≤ 4294967295) (hv : v = n % 1000000) (k0 : 0 ≤ k) (k1 : k ≤ 1000000000) (h1 : v ≤ d) (h2 : 1 ≤ k → d' < v) :
    Calls Try.prog 6 #[.int .u32 a, .int .u32 b, .int .u32 n] w (Yes w) := by
  have hg := Below.refl w.heap.size w
  have h3 : ¬ d < v := by omega
  have h4 : ¬ 1000000000 < k := by omega
  by_cases hk : k = 0
  · subst hk
    go_enter Try.func6, Try.ntmps6
    go_wp2_with (first
      | (go_at_call 10; refine (awake _).mono ?_; rintro e w1 ⟨rfl, hg1⟩; replace hg := fresh_trans hg hg1; clear hg1)
      | (go_at_call 15; refine (C0.out _).mono ?_; rintro e w1 ⟨rfl, hg1⟩; replace hg := fresh_trans hg hg1; clear hg1)
      | (go_at_call 13; refine (C1.out _ _ (by omega)).mono ?_; rintro e w1 ⟨rfl, hg1⟩; replace hg := fresh_trans hg hg1; clear hg1)
      | (go_at_call 11; refine (C2.out _).mono ?_; rintro e w1 ⟨rfl, hg1⟩; replace hg := fresh_trans hg hg1; clear hg1))
    go_ret
    exact yes_of rfl hg
  · have D3 := C3 (by omega)
    have h5 := h2 (by omega)
    have h6 : (k == 0) = false := by simpa using hk
    clear h2 C3
    go_enter Try.func6, Try.ntmps6
    go_wp2_with (first
      | (go_at_call 10; refine (awake _).mono ?_; rintro e w1 ⟨rfl, hg1⟩; replace hg := fresh_trans hg hg1; clear hg1)
      | (go_at_call 15; refine (C0.out _).mono ?_; rintro e w1 ⟨rfl, hg1⟩; replace hg := fresh_trans hg hg1; clear hg1)
      | (go_at_call 13; refine (C1.out _ _ (by omega)).mono ?_; rintro e w1 ⟨rfl, hg1⟩; replace hg := fresh_trans hg hg1; clear hg1)
      | (go_at_call 11; first | ((with_reducible refine (C2.out _).mono ?_); rintro e w1 ⟨rfl, hg1⟩; replace hg := fresh_trans hg hg1; clear hg1) | (refine (D3.out _ _ (by omega)).mono ?_; rintro e w1 ⟨rfl, hg1⟩; replace hg := fresh_trans hg hg1; clear hg1)))
    go_ret
    exact yes_of (by simp; omega) hg
theorem nv_is (x l v : Int) (x1 : 2 ≤ x) (x2 : x ≤ 262144) (l0 : 0 ≤ l) (v0 : 0 ≤ v) (v1 : v ≤ 1000000) :
    0 ≤ nv x l v ∧ nv x l v ≤ 1000000000 ∧ v ≤ (l + 1024 * nv x l v) / x ∧ (1 ≤ nv x l v → (l + 1024 * (nv x l v - 1)) / x < v) := by
  have p0 : 0 ≤ v * x := Int.mul_nonneg v0 (by omega)
  have p1 : v * x ≤ 1000000 * 262144 := Int.mul_le_mul v1 x2 (by omega) (by omega)
  have k : 0 ≤ nv x l v ∧ nv x l v ≤ 1000000000 ∧ v * x ≤ l + 1024 * nv x l v ∧ (1 ≤ nv x l v → l + 1024 * (nv x l v - 1) < v * x) := by
    unfold nv; split <;> omega
  obtain ⟨k0, k1, k2, k3⟩ := k
  exact ⟨k0, k1, (Int.le_ediv_iff_mul_le (by omega)).2 k2, fun h => (Int.ediv_lt_iff_lt_mul (by omega)).2 (k3 h)⟩
theorem needsLaw (a b n : Int) (w : World) (a0 : 0 ≤ a) (a1 : a ≤ 4294967295) (b0 : 0 ≤ b) (b1 : b ≤ 4294967295) (n0 : 0 ≤ n) (n1 : n ≤ 4294967295) :
    Calls Try.prog 6 #[.int .u32 a, .int .u32 b, .int .u32 n] w (Yes w) := by
  obtain ⟨x1, x2⟩ := wx_bd a
  obtain ⟨l0, l1⟩ := lx_bd a b
  obtain ⟨k0, k1, k2, k3⟩ := nv_is (wx a) (lx a b) (n % 1000000) x1 x2 l0 (by omega) (by omega)
  exact needs_as a b n _ _ _ _ _ _ _ _ w (Lib.hid fun w => weight a b w a0 a1 b0 b1) (Lib.hid fun j w hj => ned_in _ _ _ _ _ _ w rfl rfl hj x1 x2 l0 l1 (by omega) (by omega))
    (Lib.hid fun w => chg_in _ _ _ _ _ _ w rfl rfl rfl x1 x2 l0 l1 k0 k1) (fun h => Lib.hid fun j w hj => chg_in _ _ _ _ _ _ w rfl rfl hj x1 x2 l0 l1 (by omega) (by omega)) n0 n1 rfl k0 k1 k2 k3

theorem units_as (a b n x l t s : Int) (w : World) (C0 : Hid (∀ w, Calls Try.prog 15 #[.int .u32 a, .int .u32 b] w (Two x l w)))
    (C1 : Hid (∀ i j w, i = s → j = t → Calls Try.prog 11 #[.int .u64 1024, .int .u64 i, .int .u64 j] w (Chg t s 0 w)))
    (C2 : Hid (∀ w, Calls Try.prog 11 #[.int .u64 x, .int .u64 l, .int .u64 0] w (Chg 0 l 0 w)))
    (C3 : Hid (∀ w, Calls Try.prog 13 #[.int .u64 x, .int .u64 l, .int .i64 0] w (Ned 0 0 w)))
    (n0 : 0 ≤ n) (n1 : n ≤ 4294967295) (b0 : 0 ≤ b) (b1 : b ≤ 4294967295) (ht : t = n % 1000000001) (hs : s = b % 1024) :
    Calls Try.prog 8 #[.int .u32 a, .int .u32 b, .int .u32 n] w (Yes w) := by
  have hg := Below.refl w.heap.size w
  go_enter Try.func8, Try.ntmps8
  go_wp2_with (first
    | (go_at_call 10; refine (awake _).mono ?_; rintro e w1 ⟨rfl, hg1⟩; replace hg := fresh_trans hg hg1; clear hg1)
    | (go_at_call 15; refine (C0.out _).mono ?_; rintro e w1 ⟨rfl, hg1⟩; replace hg := fresh_trans hg hg1; clear hg1)
    | (go_at_call 11; first | ((with_reducible refine (C2.out _).mono ?_); rintro e w1 ⟨rfl, hg1⟩; replace hg := fresh_trans hg hg1; clear hg1) | (refine (C1.out _ _ _ (by omega) (by omega)).mono ?_; rintro e w1 ⟨rfl, hg1⟩; replace hg := fresh_trans hg hg1; clear hg1))
    | (go_at_call 13; refine (C3.out _).mono ?_; rintro e w1 ⟨rfl, hg1⟩; replace hg := fresh_trans hg hg1; clear hg1))
  go_ret
  exact yes_of (by simp) hg
theorem unitsLaw (a b n : Int) (w : World) (a0 : 0 ≤ a) (a1 : a ≤ 4294967295) (b0 : 0 ≤ b) (b1 : b ≤ 4294967295) (n0 : 0 ≤ n) (n1 : n ≤ 4294967295) :
    Calls Try.prog 8 #[.int .u32 a, .int .u32 b, .int .u32 n] w (Yes w) := by
  obtain ⟨x1, x2⟩ := wx_bd a
  obtain ⟨l0, l1⟩ := lx_bd a b
  refine units_as a b n _ _ _ _ w (Lib.hid fun w => weight a b w a0 a1 b0 b1) (Lib.hid fun i j w hi hj => ?_) (Lib.hid fun w => ?_) (Lib.hid fun w => ?_) n0 n1 b0 b1 rfl rfl
  · have := chg_in 1024 i j 1024 _ _ w rfl hi hj (by omega) (by omega) (by omega) (by omega) (by omega) (by omega)
    rwa [show (b % 1024 + 1024 * (n % 1000000001)) / 1024 = n % 1000000001 by omega, show (b % 1024 + 1024 * (n % 1000000001)) % 1024 = b % 1024 by omega] at this
  · have := chg_in _ _ 0 _ _ 0 w rfl rfl rfl x1 x2 l0 l1 (by omega) (by omega)
    rwa [show lx a b + 1024 * 0 = lx a b by omega, Int.ediv_eq_zero_of_lt l0 l1, Int.emod_eq_of_lt l0 l1] at this
  · have := ned_in _ _ 0 _ _ 0 w rfl rfl rfl x1 x2 l0 l1 (by omega) (by omega)
    rwa [show nv (wx a) (lx a b) 0 = 0 by unfold nv; rw [if_pos (by omega)]] at this

theorem ones_as (a b n x y v k m c r1 d r2 p q : Int) (w : World) (C0 : Hid (∀ w, Calls Try.prog 15 #[.int .u32 a, .int .u32 0] w (Two x 0 w)))
    (C1 : Hid (∀ w, Calls Try.prog 15 #[.int .u32 b, .int .u32 0] w (Two y 0 w)))
    (C2 : Hid (∀ j w, j = v → Calls Try.prog 13 #[.int .u64 x, .int .u64 0, .int .i64 j] w (Ned k 0 w)))
    (C3 : Hid (∀ j w, j = v → Calls Try.prog 13 #[.int .u64 y, .int .u64 0, .int .i64 j] w (Ned m 0 w)))
    (C4 : Hid (∀ w, Calls Try.prog 11 #[.int .u64 x, .int .u64 0, .int .u64 k] w (Chg c r1 0 w)))
    (C5 : Hid (∀ w, Calls Try.prog 11 #[.int .u64 y, .int .u64 0, .int .u64 m] w (Chg d r2 0 w)))
    (n0 : 0 ≤ n) (n1 : n ≤ 4294967295) (x1 : (x == 0) = false) (y1 : (y == 0) = false) (x0 : 2 ≤ x) (y0 : 2 ≤ y) (hv : v = n % 1000000) (hp : 1024 / x = p) (hq : 1024 / y = q)
    (p0 : 0 ≤ p) (p1 : p ≤ 1024) (q0 : 0 ≤ q) (q1 : q ≤ 1024) (h1 : v ≤ c) (h2 : c - v ≤ p) (h3 : v ≤ d) (h4 : d - v ≤ q) :
    Calls Try.prog 9 #[.int .u32 a, .int .u32 b, .int .u32 n] w (Yes w) := by
  have hg := Below.refl w.heap.size w
  go_enter Try.func9, Try.ntmps9
  go_wp2_with (first
    | (go_at_call 10; refine (awake _).mono ?_; rintro e w1 ⟨rfl, hg1⟩; replace hg := fresh_trans hg hg1; clear hg1)
    | (go_at_call 15; first | ((with_reducible refine (C0.out _).mono ?_); rintro e w1 ⟨rfl, hg1⟩; replace hg := fresh_trans hg hg1; clear hg1) | ((with_reducible refine (C1.out _).mono ?_); rintro e w1 ⟨rfl, hg1⟩; replace hg := fresh_trans hg hg1; clear hg1))
    | (go_at_call 13; first | ((with_reducible refine (C2.out _ _ (by omega)).mono ?_); rintro e w1 ⟨rfl, hg1⟩; replace hg := fresh_trans hg hg1; clear hg1) | ((with_reducible refine (C3.out _ _ (by omega)).mono ?_); rintro e w1 ⟨rfl, hg1⟩; replace hg := fresh_trans hg hg1; clear hg1))
    | (go_at_call 11; first | ((with_reducible refine (C4.out _).mono ?_); rintro e w1 ⟨rfl, hg1⟩; replace hg := fresh_trans hg hg1; clear hg1) | ((with_reducible refine (C5.out _).mono ?_); rintro e w1 ⟨rfl, hg1⟩; replace hg := fresh_trans hg hg1; clear hg1)))
  go_ret
  exact yes_of (by simp; omega) hg
theorem ones_is (x v : Int) (x1 : 2 ≤ x) (x2 : x ≤ 262144) (v0 : 0 ≤ v) (v1 : v ≤ 1000000) : (0 + 1024 * nv x 0 v) / x - v ≤ 1024 / x := by
  have p0 : 0 ≤ v * x := Int.mul_nonneg v0 (by omega)
  have k : 1024 * nv x 0 v ≤ v * x + 1023 := by unfold nv; split <;> omega
  rw [Int.le_ediv_iff_mul_le (by omega), Int.sub_mul]
  have := Int.ediv_mul_le (0 + 1024 * nv x 0 v) (b := x) (by omega)
  omega
theorem onesLaw (a b n : Int) (w : World) (a0 : 0 ≤ a) (a1 : a ≤ 4294967295) (b0 : 0 ≤ b) (b1 : b ≤ 4294967295) (n0 : 0 ≤ n) (n1 : n ≤ 4294967295) :
    Calls Try.prog 9 #[.int .u32 a, .int .u32 b, .int .u32 n] w (Yes w) := by
  obtain ⟨x1, x2⟩ := wx_bd a
  obtain ⟨y1, y2⟩ := wx_bd b
  obtain ⟨k0, k1, k2, k3⟩ := nv_is (wx a) 0 (n % 1000000) x1 x2 (by omega) (by omega) (by omega)
  obtain ⟨m0, m1, m2, m3⟩ := nv_is (wx b) 0 (n % 1000000) y1 y2 (by omega) (by omega) (by omega)
  have z : ∀ c : Int, lx c 0 = 0 := fun c => Int.zero_emod _
  exact ones_as a b n _ _ _ _ _ _ _ _ _ _ _ w (Lib.hid fun w => by have := weight a 0 w a0 a1 (by omega) (by omega); rwa [z] at this) (Lib.hid fun w => by have := weight b 0 w b0 b1 (by omega) (by omega); rwa [z] at this)
    (Lib.hid fun j w hj => ned_in _ _ _ _ _ _ w rfl rfl hj x1 x2 (by omega) (by omega) (by omega) (by omega)) (Lib.hid fun j w hj => ned_in _ _ _ _ _ _ w rfl rfl hj y1 y2 (by omega) (by omega) (by omega) (by omega))
    (Lib.hid fun w => chg_in _ _ _ _ _ _ w rfl rfl rfl x1 x2 (by omega) (by omega) k0 k1) (Lib.hid fun w => chg_in _ _ _ _ _ _ w rfl rfl rfl y1 y2 (by omega) (by omega) m0 m1)
    n0 n1 (by simp; omega) (by simp; omega) x1 y1 rfl rfl rfl (Int.ediv_nonneg (by omega) (by omega)) (Int.ediv_le_self _ (by omega)) (Int.ediv_nonneg (by omega) (by omega)) (Int.ediv_le_self _ (by omega))
    k2 (ones_is _ _ x1 x2 (by omega) (by omega)) m2 (ones_is _ _ y1 y2 (by omega) (by omega))

theorem weighs_as (a b n x y c r1 d r2 f r3 r4 : Int) (w : World) (C0 : Hid (∀ w, Calls Try.prog 15 #[.int .u32 a, .int .u32 0] w (Two x 0 w)))
    (C1 : Hid (∀ w, Calls Try.prog 15 #[.int .u32 b, .int .u32 0] w (Two y 0 w)))
    (C2 : Hid (∀ i j w, i = min x y → j = n % 500000001 → Calls Try.prog 11 #[.int .u64 i, .int .u64 0, .int .u64 j] w (Chg c r1 0 w)))
    (C3 : Hid (∀ i j w, i = max x y → j = n % 500000001 → Calls Try.prog 11 #[.int .u64 i, .int .u64 0, .int .u64 j] w (Chg d r2 0 w)))
    (C4 : Hid (∀ i j w, i = 2 + x % 131071 → j = n % 500000001 → Calls Try.prog 11 #[.int .u64 i, .int .u64 0, .int .u64 j] w (Chg f r3 0 w)))
    (C5 : Hid (∀ i j w, i = 2 * (2 + x % 131071) → j = 2 * (n % 500000001) → Calls Try.prog 11 #[.int .u64 i, .int .u64 0, .int .u64 j] w (Chg f r4 0 w)))
    (n0 : 0 ≤ n) (n1 : n ≤ 4294967295) (x1 : 2 ≤ x) (x2 : x ≤ 262144) (y1 : 2 ≤ y) (y2 : y ≤ 262144) (h1 : d ≤ c) (r0 : 0 ≤ r3) (r5 : r3 ≤ 262144) (h2 : r4 = 2 * r3) :
    Calls Try.prog 7 #[.int .u32 a, .int .u32 b, .int .u32 n] w (Yes w) := by
  subst h2
  have hg := Below.refl w.heap.size w
  go_enter Try.func7, Try.ntmps7
  go_wp2_with (first
    | (go_at_call 10; refine (awake _).mono ?_; rintro e w1 ⟨rfl, hg1⟩; replace hg := fresh_trans hg hg1; clear hg1)
    | (go_at_call 15; first | ((with_reducible refine (C0.out _).mono ?_); rintro e w1 ⟨rfl, hg1⟩; replace hg := fresh_trans hg hg1; clear hg1) | ((with_reducible refine (C1.out _).mono ?_); rintro e w1 ⟨rfl, hg1⟩; replace hg := fresh_trans hg hg1; clear hg1))
    | (go_at_call 11; first | (refine (C5.out _ _ _ (by omega) (by omega)).mono ?_; rintro e w1 ⟨rfl, hg1⟩; replace hg := fresh_trans hg hg1; clear hg1) | (refine (C4.out _ _ _ (by omega) (by omega)).mono ?_; rintro e w1 ⟨rfl, hg1⟩; replace hg := fresh_trans hg hg1; clear hg1) | (refine (C2.out _ _ _ (by omega) (by omega)).mono ?_; rintro e w1 ⟨rfl, hg1⟩; replace hg := fresh_trans hg hg1; clear hg1) | (refine (C3.out _ _ _ (by omega) (by omega)).mono ?_; rintro e w1 ⟨rfl, hg1⟩; replace hg := fresh_trans hg hg1; clear hg1)))
  all_goals
    go_ret
    exact yes_of (by simp) hg
theorem weighsLaw (a b n : Int) (w : World) (a0 : 0 ≤ a) (a1 : a ≤ 4294967295) (b0 : 0 ≤ b) (b1 : b ≤ 4294967295) (n0 : 0 ≤ n) (n1 : n ≤ 4294967295) :
    Calls Try.prog 7 #[.int .u32 a, .int .u32 b, .int .u32 n] w (Yes w) := by
  obtain ⟨x1, x2⟩ := wx_bd a
  obtain ⟨y1, y2⟩ := wx_bd b
  have z : ∀ c : Int, lx c 0 = 0 := fun c => Int.zero_emod _
  have t0 : 0 ≤ n % 500000001 := by omega
  have e1 : (0 + 1024 * (2 * (n % 500000001))) / (2 * (2 + wx a % 131071)) = (0 + 1024 * (n % 500000001)) / (2 + wx a % 131071) := by
    rw [show 0 + 1024 * (2 * (n % 500000001)) = 2 * (0 + 1024 * (n % 500000001)) by omega, Int.mul_ediv_mul_of_pos _ _ (by omega)]
  have e2 : (0 + 1024 * (2 * (n % 500000001))) % (2 * (2 + wx a % 131071)) = 2 * ((0 + 1024 * (n % 500000001)) % (2 + wx a % 131071)) := by
    rw [show 0 + 1024 * (2 * (n % 500000001)) = 2 * (0 + 1024 * (n % 500000001)) by omega, Int.mul_emod_mul_of_pos _ _ (by omega)]
  have r3 := Int.emod_nonneg (0 + 1024 * (n % 500000001)) (show 2 + wx a % 131071 ≠ 0 by omega)
  have r4 := Int.emod_lt_of_pos (0 + 1024 * (n % 500000001)) (show 0 < 2 + wx a % 131071 by omega)
  refine weighs_as a b n _ _ _ _ _ _ _ _ _ w (Lib.hid fun w => by have := weight a 0 w a0 a1 (by omega) (by omega); rwa [z] at this) (Lib.hid fun w => by have := weight b 0 w b0 b1 (by omega) (by omega); rwa [z] at this)
    (Lib.hid fun i j w hi hj => chg_in _ _ _ _ _ _ w hi rfl hj (by omega) (by omega) (by omega) (by omega) t0 (by omega)) (Lib.hid fun i j w hi hj => chg_in _ _ _ _ _ _ w hi rfl hj (by omega) (by omega) (by omega) (by omega) t0 (by omega))
    (Lib.hid fun i j w hi hj => chg_in _ _ _ _ _ _ w hi rfl hj (by omega) (by omega) (by omega) (by omega) t0 (by omega))
    (Lib.hid fun i j w hi hj => by have := chg_in i 0 j _ _ _ w hi rfl hj (by omega) (by omega) (by omega) (by omega) (by omega) (by omega); rwa [e1] at this) n0 n1 x1 x2 y1 y2 ?_ r3 (by omega) e2
  have h1 : 0 < min (wx a) (wx b) := by omega
  have h2 : 0 < max (wx a) (wx b) := by omega
  refine (Int.le_ediv_iff_mul_le h1).2 (Int.le_trans (Int.mul_le_mul_of_nonneg_left (by omega : min (wx a) (wx b) ≤ max (wx a) (wx b)) (Int.ediv_nonneg (by omega) (by omega))) ?_)
  exact Int.ediv_mul_le _ (by omega)
end Go.Proofs.Ytjdcogcabgkcmaa.Vrun
