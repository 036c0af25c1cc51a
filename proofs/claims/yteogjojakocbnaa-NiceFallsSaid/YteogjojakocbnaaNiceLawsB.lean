/- The walks of the other statements of package nice. Conditions: each argument is a number of its kind. -/
import Derived.Test.YteogjojakocbnaaNiceLaws
import Derived.Laws.Cover1
namespace Go.Proofs.Yteogjojakocbnaa.Nice
open Go.ChangeShapes Go.WideShapes Go.ChangeAt Go.RowKit
set_option linter.unusedVariables false

/-- A nice number's weight, in the form in which the laws ask for it. -/
theorem weight_in (j k : Int) (w : World) (h : j = k) (h1 : -20 ≤ k) (h2 : k ≤ 19) : Calls Try.prog 11 #[.int .i64 j] w (WordErrFresh (wgt k) 0 w) := by
  subst h
  have := weight j w
  have m := may_in h1 h2
  rwa [wt_in m, er_in m] at this
theorem nst_mono (x y : Int) (h : x ≤ y) : nst y ≤ nst x := by
  obtain ⟨h1, h2, h3, h4⟩ := nst_is x
  obtain ⟨k1, k2, k3, k4⟩ := nst_is y
  refine Decidable.byContradiction fun c => ?_
  have := h3 (by omega); have := k4 (by omega); have := lower (nst x + 1) (nst y) (by omega) (by omega) k2
  omega
theorem nst_holds (x : Int) (h : ¬ x ≤ wgt (nst x)) : nst x = -20 := by
  obtain ⟨h1, h2, h3, h4⟩ := nst_is x
  refine Decidable.byContradiction fun c => h (h4 (by omega))
/-- A weight, or one just above another, tells the nice number back. -/
theorem nst_back (k x : Int) (h1 : -20 ≤ k) (h2 : k ≤ 19) (h : k < 19 → wgt (k + 1) < x) (h3 : x ≤ wgt k) : nst x = k := (nst_only x k ⟨h1, h2, h, fun _ => h3⟩).symm

theorem noneLaw (n : Int) (w : World) : Calls Try.prog 9 #[.int .i64 n] w (BoolFresh true w) := by
  have m1 := Lib.hid (fun w => weight n w)
  have hg := Below.refl w.heap.size w
  by_cases h : n < -20 ∨ 19 < n
  · have m := may_out h
    rw [wt_out m, er_out m] at m1
    clear m
    by_cases h1 : n < -20
    · go_enter Try.func9, Try.ntmps9
      go_wp2_with (first
        | (go_at_call 10; refine (awake _).mono ?_; rintro e w1 ⟨rfl, hg1⟩; replace hg := Wide.fresh_trans hg hg1; clear hg1)
        | (go_at_call 11; refine (m1.out _).mono ?_; rintro e w1 ⟨rfl, hg1⟩; replace hg := Wide.fresh_trans hg hg1; clear hg1))
      go_ret
      exact boolfresh_of rfl hg
    · have h2 : 19 < n := by omega
      go_enter Try.func9, Try.ntmps9
      go_wp2_with (first
        | (go_at_call 10; refine (awake _).mono ?_; rintro e w1 ⟨rfl, hg1⟩; replace hg := Wide.fresh_trans hg hg1; clear hg1)
        | (go_at_call 11; refine (m1.out _).mono ?_; rintro e w1 ⟨rfl, hg1⟩; replace hg := Wide.fresh_trans hg hg1; clear hg1))
      go_ret
      exact boolfresh_of (by simp; omega) hg
  · have h1 : -20 ≤ n := by omega
    have h2 : n ≤ 19 := by omega
    have m := may_in h1 h2
    rw [wt_in m, er_in m] at m1
    clear m h
    generalize wgt n = a at m1
    go_enter Try.func9, Try.ntmps9
    go_wp2_with (first
      | (go_at_call 10; refine (awake _).mono ?_; rintro e w1 ⟨rfl, hg1⟩; replace hg := Wide.fresh_trans hg hg1; clear hg1)
      | (go_at_call 11; refine (m1.out _).mono ?_; rintro e w1 ⟨rfl, hg1⟩; replace hg := Wide.fresh_trans hg hg1; clear hg1))
    go_ret
    exact boolfresh_of rfl hg

theorem holds_as (x v n m a : Int) (w : World) (m1 : Hid (∀ w, Calls Try.prog 16 #[.int .u64 x] w (NumFresh n w))) (m2 : Hid (∀ w, Calls Try.prog 16 #[.int .u64 (max x v)] w (NumFresh m w)))
    (m3 : Hid (∀ w, Calls Try.prog 11 #[.int .i64 n] w (WordErrFresh a 0 w))) (h1 : 14 ≤ a) (h2 : a ≤ 88817) (h3 : m ≤ n) (h4 : ¬ x ≤ a → n = -20) :
    Calls Try.prog 8 #[.int .u64 x, .int .u64 v] w (BoolFresh true w) := by
  have hg := Below.refl w.heap.size w
  by_cases hx : x ≤ a
  · clear h4
    go_enter Try.func8, Try.ntmps8
    go_wp2_with (first
      | (go_at_call 10; refine (awake _).mono ?_; rintro e w1 ⟨rfl, hg1⟩; replace hg := Wide.fresh_trans hg hg1; clear hg1)
      | (go_at_call 16; first | ((with_reducible refine (m1.out _).mono ?_); rintro e w1 ⟨rfl, hg1⟩; replace hg := Wide.fresh_trans hg hg1; clear hg1) | ((with_reducible refine (m2.out _).mono ?_); rintro e w1 ⟨rfl, hg1⟩; replace hg := Wide.fresh_trans hg hg1; clear hg1))
      | (go_at_call 11; refine (m3.out _).mono ?_; rintro e w1 ⟨rfl, hg1⟩; replace hg := Wide.fresh_trans hg hg1; clear hg1))
    go_ret
    exact boolfresh_of (by simp) hg
  · obtain rfl := h4 hx
    clear h4
    go_enter Try.func8, Try.ntmps8
    go_wp2_with (first
      | (go_at_call 10; refine (awake _).mono ?_; rintro e w1 ⟨rfl, hg1⟩; replace hg := Wide.fresh_trans hg hg1; clear hg1)
      | (go_at_call 16; first | ((with_reducible refine (m1.out _).mono ?_); rintro e w1 ⟨rfl, hg1⟩; replace hg := Wide.fresh_trans hg hg1; clear hg1) | ((with_reducible refine (m2.out _).mono ?_); rintro e w1 ⟨rfl, hg1⟩; replace hg := Wide.fresh_trans hg hg1; clear hg1))
      | (go_at_call 11; refine (m3.out _).mono ?_; rintro e w1 ⟨rfl, hg1⟩; replace hg := Wide.fresh_trans hg hg1; clear hg1))
    go_ret
    exact boolfresh_of (by simp) hg
theorem holdsLaw (x v : Int) (w : World) : Calls Try.prog 8 #[.int .u64 x, .int .u64 v] w (BoolFresh true w) := by
  obtain ⟨h1, h2⟩ := nst_bd x
  obtain ⟨h3, h4⟩ := wgt_bd (nst x) h1 h2
  exact holds_as x v _ _ _ w (Lib.hid (fun w => nearest x w)) (Lib.hid (fun w => nearest (max x v) w)) (Lib.hid (fun w => weight_in _ _ w rfl h1 h2)) h3 h4 (nst_mono x _ (by omega)) (nst_holds x)

theorem across_as (n a b : Int) (w : World) (h0 : 0 ≤ n) (h1 : n ≤ 255) (A : Hid (∀ j w, j = n % 20 → Calls Try.prog 11 #[.int .i64 j] w (WordErrFresh a 0 w))) (B : Hid (∀ j w, j = -(n % 20) → Calls Try.prog 11 #[.int .i64 j] w (WordErrFresh b 0 w)))
    (k1 : 1 ≤ a) (k2 : a ≤ b) (k0 : b ≤ 88817) (k3 : a * b ≤ 1048576) (k4 : 1048576 ≤ a * b + a + b + 1) (k5 : 0 ≤ a * b) :
    Calls Try.prog 7 #[.int .u8 n] w (BoolFresh true w) := by
  have hg := Below.refl w.heap.size w
  go_enter Try.func7, Try.ntmps7
  go_wp2_with (first
    | (go_at_call 10; refine (awake _).mono ?_; rintro e w1 ⟨rfl, hg1⟩; replace hg := Wide.fresh_trans hg hg1; clear hg1)
    | (go_at_call 11; first | (refine (A.out _ _ (by omega)).mono ?_; rintro e w1 ⟨rfl, hg1⟩; replace hg := Wide.fresh_trans hg hg1; clear hg1) | (refine (B.out _ _ (by omega)).mono ?_; rintro e w1 ⟨rfl, hg1⟩; replace hg := Wide.fresh_trans hg hg1; clear hg1)))
  go_ret
  exact boolfresh_of (by simp) hg
theorem acrossLaw (n : Int) (w : World) (h0 : 0 ≤ n) (h1 : n ≤ 255) : Calls Try.prog 7 #[.int .u8 n] w (BoolFresh true w) := by
  obtain ⟨k1, k2, k3, k4⟩ := across (n % 20) (by omega) (by omega)
  have kb := wgt_bd (-(n % 20)) (by omega) (by omega)
  exact across_as n _ _ w h0 h1 (Lib.hid (fun j w h => weight_in j _ w h (by omega) (by omega))) (Lib.hid (fun j w h => weight_in j _ w h (by omega) (by omega))) k1 k2 kb.2 k3 k4 (Int.mul_nonneg (by omega) (by omega))

theorem falls_as (n a b : Int) (w : World) (h0 : 0 ≤ n) (h1 : n ≤ 255) (A : Hid (∀ j w, j = n % 39 - 19 - 1 → Calls Try.prog 11 #[.int .i64 j] w (WordErrFresh a 0 w))) (B : Hid (∀ j w, j = n % 39 - 19 → Calls Try.prog 11 #[.int .i64 j] w (WordErrFresh b 0 w)))
    (C : Hid (∀ j : Int, j = n % 39 - 19 → wgt j = b)) (k1 : 14 ≤ b) (k2 : b < a) (k0 : a ≤ 88817) (k3 : 4 * a ≤ 5 * b + 4) (k4 : 5 * b ≤ 4 * a + 3) :
    Calls Try.prog 5 #[.int .u8 n] w (BoolFresh true w) := by
  have hg := Below.refl w.heap.size w
  go_enter Try.func5, Try.ntmps5
  go_wp2_with (first
    | (go_at_call 10; refine (awake _).mono ?_; rintro e w1 ⟨rfl, hg1⟩; replace hg := Wide.fresh_trans hg hg1; clear hg1)
    | (go_at_call 11; first | (refine (A.out _ _ (by omega)).mono ?_; rintro e w1 ⟨rfl, hg1⟩; replace hg := Wide.fresh_trans hg hg1; clear hg1) | (refine (B.out _ _ (by omega)).mono ?_; rintro e w1 ⟨rfl, hg1⟩; replace hg := Wide.fresh_trans hg hg1; clear hg1))
    | (go_at_call 14; refine (table _).mono ?_; rintro e w1 ⟨g1, c1, rfl, hc1, hg1⟩; replace hg := Wide.fresh_trans hg hg1; clear hg1; have hcell := hc1.2 (n % 39 - 19 + 20).toNat (by omega); rw [C.out _ (by omega)] at hcell))
  go_ret
  exact boolfresh_of (by simp) hg
theorem fallsLaw (n : Int) (w : World) (h0 : 0 ≤ n) (h1 : n ≤ 255) : Calls Try.prog 5 #[.int .u8 n] w (BoolFresh true w) := by
  obtain ⟨k1, k2, k3⟩ := falls (n % 39 - 19) (by omega) (by omega)
  have ka := wgt_bd (n % 39 - 19 - 1) (by omega) (by omega)
  have kb := wgt_bd (n % 39 - 19) (by omega) (by omega)
  exact falls_as n _ _ w h0 h1 (Lib.hid (fun j w h => weight_in j _ w h (by omega) (by omega))) (Lib.hid (fun j w h => weight_in j _ w h (by omega) (by omega))) (Lib.hid (fun j h => by rw [h])) kb.1 k1 ka.2 k2 k3

theorem back_as (n x a b : Int) (w : World) (h0 : 0 ≤ n) (h1 : n ≤ 255) (x0 : 0 ≤ x) (x1 : x ≤ 18446744073709551615) (A : Hid (∀ j w, j = n % 39 - 19 - 1 → Calls Try.prog 11 #[.int .i64 j] w (WordErrFresh a 0 w))) (B : Hid (∀ j w, j = n % 39 - 19 → Calls Try.prog 11 #[.int .i64 j] w (WordErrFresh b 0 w)))
    (M1 : Hid (∀ w, Calls Try.prog 16 #[.int .u64 b] w (NumFresh (n % 39 - 19) w))) (M2 : Hid (∀ w, Calls Try.prog 16 #[.int .u64 a] w (NumFresh (n % 39 - 19 - 1) w)))
    (M3 : Hid (∀ j w, b < j → j ≤ a → Calls Try.prog 16 #[.int .u64 j] w (NumFresh (n % 39 - 19 - 1) w)))
    (k1 : 14 ≤ b) (k2 : b < a) (k0 : a ≤ 88817) :
    Calls Try.prog 6 #[.int .u8 n, .int .u64 x] w (BoolFresh true w) := by
  have hg := Below.refl w.heap.size w
  have d0 : (a - b == 0) = false := by simp; omega
  have r0 : 0 ≤ x % (a - b) := Int.emod_nonneg x (by omega)
  have r1 : x % (a - b) < a - b := Int.emod_lt_of_pos x (by omega)
  go_enter Try.func6, Try.ntmps6
  go_wp2_with (first
    | (go_at_call 10; refine (awake _).mono ?_; rintro e w1 ⟨rfl, hg1⟩; replace hg := Wide.fresh_trans hg hg1; clear hg1)
    | (go_at_call 11; first | (refine (A.out _ _ (by omega)).mono ?_; rintro e w1 ⟨rfl, hg1⟩; replace hg := Wide.fresh_trans hg hg1; clear hg1) | (refine (B.out _ _ (by omega)).mono ?_; rintro e w1 ⟨rfl, hg1⟩; replace hg := Wide.fresh_trans hg hg1; clear hg1))
    | (go_at_call 16; first | ((with_reducible refine (M1.out _).mono ?_); rintro e w1 ⟨rfl, hg1⟩; replace hg := Wide.fresh_trans hg hg1; clear hg1) | ((with_reducible refine (M2.out _).mono ?_); rintro e w1 ⟨rfl, hg1⟩; replace hg := Wide.fresh_trans hg hg1; clear hg1) | (refine (M3.out _ _ (by omega) (by omega)).mono ?_; rintro e w1 ⟨rfl, hg1⟩; replace hg := Wide.fresh_trans hg hg1; clear hg1)))
  go_ret
  exact boolfresh_of (by simp) hg
theorem backLaw (n x : Int) (w : World) (h0 : 0 ≤ n) (h1 : n ≤ 255) (x0 : 0 ≤ x) (x1 : x ≤ 18446744073709551615) : Calls Try.prog 6 #[.int .u8 n, .int .u64 x] w (BoolFresh true w) := by
  obtain ⟨k1, k2, k3⟩ := falls (n % 39 - 19) (by omega) (by omega)
  have ka := wgt_bd (n % 39 - 19 - 1) (by omega) (by omega)
  have kb := wgt_bd (n % 39 - 19) (by omega) (by omega)
  have e0 : n % 39 - 19 - 1 + 1 = n % 39 - 19 := by omega
  have up : ∀ j, wgt (n % 39 - 19) < j → j ≤ wgt (n % 39 - 19 - 1) → nst j = n % 39 - 19 - 1 := fun j h2 h3 => nst_back _ j (by omega) (by omega) (fun _ => by rw [e0]; exact h2) h3
  refine back_as n x _ _ w h0 h1 x0 x1 (Lib.hid (fun j w h => weight_in j _ w h (by omega) (by omega))) (Lib.hid (fun j w h => weight_in j _ w h (by omega) (by omega))) (Lib.hid (fun w => ?_)) (Lib.hid (fun w => ?_)) (Lib.hid (fun j w h2 h3 => ?_)) kb.1 k1 ka.2
  · have e : nst (wgt (n % 39 - 19)) = n % 39 - 19 := nst_back _ _ (by omega) (by omega) (fun h => by have := (falls (n % 39 - 19 + 1) (by omega) (by omega)).1; rwa [show n % 39 - 19 + 1 - 1 = n % 39 - 19 by omega] at this) (Int.le_refl _)
    have := nearest (wgt (n % 39 - 19)) w
    rwa [e] at this
  · have := nearest (wgt (n % 39 - 19 - 1)) w
    rwa [up _ k1 (Int.le_refl _)] at this
  · have := nearest j w
    rwa [up j h2 h3] at this
end Go.Proofs.Yteogjojakocbnaa.Nice
