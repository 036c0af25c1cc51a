/- The walks of the seven laws of package wide: each returns true, at all words of 64 bits. Conditions: each argument is a number of its kind. -/
import Derived.Test.YtnpfheajofgdpaaWideRefs
namespace Go.Proofs.Ytnpfheajofgdpaa.Wide
open Go.ChangeShapes Go.WideShapes Go.ChangeAt Go.RowKit
set_option linter.unusedVariables false

def Yes (w : World) (e : Ending) (w' : World) : Prop := e = .returned (.bool true) ∧ Grown w w'
theorem yes_of {b : Bool} {w w' : World} (h : b = true) (g : Grown w w') : Yes w (.returned (.bool b)) w' := by subst h; exact ⟨rfl, g⟩
theorem u64_of {n : Int} (h : (Lit.int .u64 n).wf = true) : U64 n := bounds_u64 h

theorem awake1 (w : World) : Calls Try.prog 11 #[.int .u64 9223372036854775808, .int .u64 4, .int .u64 8] w (TripleGrown 4611686018427387904 0 true w) := by
  have h := mulDiv 9223372036854775808 4 8 w (by unfold U64; omega) (by unfold U64; omega) (by unfold U64; omega)
  rwa [show quo 9223372036854775808 4 8 = 4611686018427387904 from by decide, show rst 9223372036854775808 4 8 = 0 from by decide, show can 9223372036854775808 4 8 = true from by decide] at h
theorem awake2 (w : World) : Calls Try.prog 13 #[.int .u64 1, .int .u64 1, .int .u64 2] w (NumGrown 1 true w) := by
  have h := up 1 1 2 w (by unfold U64; omega) (by unfold U64; omega) (by unfold U64; omega)
  rwa [show ups 1 1 2 = 1 from by decide, show upc 1 1 2 = true from by decide] at h
theorem awake3 (w : World) : Calls Try.prog 15 #[.int .u64 1099511627776, .int .u64 1099511627776, .int .u64 1, .int .u64 1] w (IntGrown 1 w) := by
  have h := compare 1099511627776 1099511627776 1 1 w (by unfold U64; omega) (by unfold U64; omega) (by unfold U64; omega) (by unfold U64; omega)
  rwa [show cmpr 1099511627776 1099511627776 1 1 = 1 from by decide] at h

theorem awake (w : World) : Calls Try.prog 10 #[] w (Yes w) := by
  go_enter Try.func10, Try.ntmps10
  go_wp2_with (first
    | (go_at_call 11; refine (awake1 _).mono ?_; rintro e w1 ⟨rfl, hg1⟩)
    | (go_at_call 13; refine (awake2 _).mono ?_; rintro e w2 ⟨rfl, hg2⟩)
    | (go_at_call 15; refine (awake3 _).mono ?_; rintro e w3 ⟨rfl, hg3⟩))
  go_ret
  exact ⟨rfl, grown_trans (grown_trans hg1 hg2) hg3⟩

theorem four {w w1 : World} {x0 x1 x2 x3 : Value} {t : TypeId} (h : Grown (w.alloc (.cells #[x0, x1, x2, x3] t)) w1) :
    w1.cell? ⟨w.heap.size, 0, none⟩ = some x0 ∧ w1.cell? ⟨w.heap.size, 1, none⟩ = some x1 ∧ w1.cell? ⟨w.heap.size, 2, none⟩ = some x2 ∧ w1.cell? ⟨w.heap.size, 3, none⟩ = some x3 := by
  refine ⟨?_, ?_, ?_, ?_⟩ <;> (rw [h.1.cell (by simp) id]; simp [go_sem])

theorem divsLaw (a b c d : Int) (w : World) (ha : U64 a) (hb : U64 b) (hc : U64 c) (hd : U64 d) :
    Calls Try.prog 3 #[.agg #[.int .u64 a, .int .u64 b, .int .u64 c, .int .u64 d]] w (Yes w) := by
  go_enter Try.func3, Try.ntmps3
  go_wp2_with (first
    | (go_at_call 10; refine (awake _).mono ?_; rintro e w1 ⟨rfl, hg⟩; obtain ⟨k0, k1, k2, k3⟩ := four hg)
    | (go_at_call 11; refine (mulDiv a b c _ ha hb hc).mono ?_; rintro e w2 ⟨rfl, hg2⟩)
    | (go_at_call 12; refine (refMulDiv a b c _ ha hb hc).mono ?_; rintro e w3 ⟨rfl, hg3⟩)
    | (go_at_call 13; refine (up a b c _ ha hb hc).mono ?_; rintro e w4 ⟨rfl, hg4⟩)
    | (go_at_call 14; refine (refUp a b c _ ha hb hc).mono ?_; rintro e w5 ⟨rfl, hg5⟩)
    | (go_at_call 15; refine (compare a b c d _ ha hb hc hd).mono ?_; rintro e w6 ⟨rfl, hg6⟩)
    | (go_at_call 16; refine (refCompare a b c d _ ha hb hc hd).mono ?_; rintro e w7 ⟨rfl, hg7⟩))
  go_ret
  exact ⟨rfl, grown_trans (((Grown.refl w).alloc _ _)) (grown_trans (grown_trans (grown_trans (grown_trans (grown_trans (grown_trans hg hg2) hg3) hg4) hg5) hg6) hg7)⟩

/-! ### Quotient and rest make up the product. -/
theorem back_no (a b c : Int) (w : World) (C1 : Hid (∀ w, Calls Try.prog 11 #[.int .u64 a, .int .u64 b, .int .u64 c] w (TripleGrown 0 0 false w))) :
    Calls Try.prog 4 #[.int .u64 a, .int .u64 b, .int .u64 c] w (Yes w) := by
  go_enter Try.func4, Try.ntmps4
  go_wp2_with (first
    | (go_at_call 10; refine (awake _).mono ?_; rintro e w1 ⟨rfl, hg⟩)
    | (go_at_call 11; refine (C1.out _).mono ?_; rintro e w2 ⟨rfl, hg2⟩))
  go_ret
  exact ⟨rfl, grown_trans hg hg2⟩

theorem back_yes (a b c q r n : Int) (w : World) (C1 : Hid (∀ w, Calls Try.prog 11 #[.int .u64 a, .int .u64 b, .int .u64 c] w (TripleGrown q r true w)))
    (C2 : Hid (∀ w, Calls Try.prog 15 #[.int .u64 q, .int .u64 c, .int .u64 a, .int .u64 b] w (IntGrown n w)))
    (hr : r < c) (hw : (IntKind.u64.wrap (IntKind.u64.wrap (q * c) + r) == IntKind.u64.wrap (a * b)) = true) (hn : n = 0 ∧ r = 0 ∨ n = -1 ∧ 0 < r) :
    Calls Try.prog 4 #[.int .u64 a, .int .u64 b, .int .u64 c] w (Yes w) := by
  rcases hn with ⟨rfl, rfl⟩ | ⟨rfl, h0⟩
  · rw [Int.add_zero] at hw
    go_enter Try.func4, Try.ntmps4
    go_wp2_with (first
      | (go_at_call 10; refine (awake _).mono ?_; rintro e w1 ⟨rfl, hg⟩)
      | (go_at_call 11; refine (C1.out _).mono ?_; rintro e w2 ⟨rfl, hg2⟩)
      | (go_at_call 15; refine (C2.out _).mono ?_; rintro e w3 ⟨rfl, hg3⟩))
    go_ret
    exact ⟨rfl, grown_trans (grown_trans hg hg2) hg3⟩
  · have h1 : (r == 0) = false := by simp; omega
    go_enter Try.func4, Try.ntmps4
    go_wp2_with (first
      | (go_at_call 10; refine (awake _).mono ?_; rintro e w1 ⟨rfl, hg⟩)
      | (go_at_call 11; refine (C1.out _).mono ?_; rintro e w2 ⟨rfl, hg2⟩)
      | (go_at_call 15; refine (C2.out _).mono ?_; rintro e w3 ⟨rfl, hg3⟩))
    go_ret
    exact ⟨rfl, grown_trans (grown_trans hg hg2) hg3⟩

theorem div_facts (a b c : Int) (ha : U64 a) (hb : U64 b) (h : can a b c = true) : 1 ≤ c ∧ quo a b c * c + rst a b c = a * b ∧ 0 ≤ rst a b c ∧ rst a b c < c ∧ 0 ≤ quo a b c := by
  have p := prod_bd a b ha hb
  rw [quo_in h, rst_in h]
  obtain ⟨h1, h2⟩ := decide_eq_true_iff.1 h
  have e := Int.emod_add_mul_ediv (a * b) c
  rw [Int.mul_comm c] at e
  exact ⟨h1, by omega, Int.emod_nonneg _ (by omega), Int.emod_lt_of_pos _ (by omega), Int.ediv_nonneg p.1 (by omega)⟩

theorem back (a b c : Int) (w : World) (ha : U64 a) (hb : U64 b) (hc : U64 c) :
    Calls Try.prog 4 #[.int .u64 a, .int .u64 b, .int .u64 c] w (Yes w) := by
  cases h : can a b c
  · refine back_no a b c w (Lib.hid fun w => ?_)
    have := mulDiv a b c w ha hb hc
    rwa [quo_out h, rst_out h, h] at this
  · obtain ⟨c1, e, r0, r1, q0⟩ := div_facts a b c ha hb h
    refine back_yes a b c _ _ _ w (Lib.hid fun w => ?_) (Lib.hid fun w => compare (quo a b c) c a b w (quo_bd a b c ha hb hc) hc ha hb) r1 ?_ ?_
    · have := mulDiv a b c w ha hb hc
      rwa [h] at this
    · rw [beq_iff_eq]
      simp only [IntKind.wrap_u64]
      omega
    · unfold cmpr
      split
      · omega
      · split <;> omega

/-! ### Rounded up. -/
theorem ups_as (a b c q r n m : Int) (is was : Bool) (w : World) (C1 : Hid (∀ w, Calls Try.prog 11 #[.int .u64 a, .int .u64 b, .int .u64 c] w (TripleGrown q r is w)))
    (C2 : Hid (∀ w, Calls Try.prog 13 #[.int .u64 a, .int .u64 b, .int .u64 c] w (NumGrown n was w)))
    (C3 : Hid (∀ w, Calls Try.prog 15 #[.int .u64 n, .int .u64 c, .int .u64 a, .int .u64 b] w (IntGrown m w))) (q0 : 0 ≤ q)
    (hm : is = false ∧ was = false ∧ n = 0 ∨ is = true ∧ 0 < r ∧ q = 18446744073709551615 ∧ was = false ∧ n = 0 ∨ is = true ∧ 0 < r ∧ q < 18446744073709551615 ∧ was = true ∧ n = q + 1 ∧ 0 ≤ m ∨ is = true ∧ r = 0 ∧ was = true ∧ n = q ∧ 0 ≤ m) :
    Calls Try.prog 5 #[.int .u64 a, .int .u64 b, .int .u64 c] w (Yes w) := by
  rcases hm with ⟨rfl, rfl, rfl⟩ | ⟨rfl, h1, rfl, rfl, rfl⟩ | ⟨rfl, h1, h2, rfl, rfl, h3⟩ | ⟨rfl, rfl, rfl, rfl, h3⟩
  case' inr.inr.inl => have h4 : (q == 18446744073709551615) = false := by simp; omega
  all_goals
    go_enter Try.func5, Try.ntmps5
    go_wp2_with (first
      | (go_at_call 10; refine (awake _).mono ?_; rintro e w1 ⟨rfl, hg⟩)
      | (go_at_call 11; refine (C1.out _).mono ?_; rintro e w2 ⟨rfl, hg2⟩; have hg := grown_trans hg hg2; clear hg2)
      | (go_at_call 13; refine (C2.out _).mono ?_; rintro e w3 ⟨rfl, hg2⟩; have hg := grown_trans hg hg2; clear hg2)
      | (go_at_call 15; refine (C3.out _).mono ?_; rintro e w4 ⟨rfl, hg2⟩; have hg := grown_trans hg hg2; clear hg2))
    go_ret
    exact ⟨rfl, by assumption⟩

theorem ups_which (a b c : Int) (ha : U64 a) (hb : U64 b) (hc : U64 c) :
    can a b c = false ∧ upc a b c = false ∧ ups a b c = 0 ∨ can a b c = true ∧ 0 < rst a b c ∧ quo a b c = 18446744073709551615 ∧ upc a b c = false ∧ ups a b c = 0 ∨
    can a b c = true ∧ 0 < rst a b c ∧ quo a b c < 18446744073709551615 ∧ upc a b c = true ∧ ups a b c = quo a b c + 1 ∧ 0 ≤ cmpr (ups a b c) c a b ∨ can a b c = true ∧ rst a b c = 0 ∧ upc a b c = true ∧ ups a b c = quo a b c ∧ 0 ≤ cmpr (ups a b c) c a b := by
  cases h : can a b c
  · left; unfold ups upc; rw [h]; exact ⟨rfl, rfl, rfl⟩
  · right
    obtain ⟨c1, e, r0, r1, q0⟩ := div_facts a b c ha hb h
    have q1 := (quo_bd a b c ha hb hc).2
    by_cases h2 : rst a b c = 0
    · right; right
      have u : ups a b c = quo a b c := by unfold ups; rw [if_pos h, if_pos h2]
      refine ⟨rfl, h2, by unfold upc; rw [h, h2]; rfl, u, ?_⟩
      rw [u]; unfold cmpr; split
      · omega
      · split <;> omega
    · have h3 : (rst a b c == 0) = false := by simpa using h2
      by_cases h4 : quo a b c = 18446744073709551615
      · left
        exact ⟨rfl, by omega, h4, by unfold upc; rw [h, h3, h4]; rfl, by unfold ups; rw [if_pos h, if_neg h2, if_pos h4]⟩
      · right; left
        have h5 : (quo a b c == 18446744073709551615) = false := by simpa using h4
        have u : ups a b c = quo a b c + 1 := by unfold ups; rw [if_pos h, if_neg h2, if_neg h4]
        refine ⟨rfl, by omega, by omega, by unfold upc; rw [h, h3, bne, h5]; rfl, u, ?_⟩
        rw [u]; unfold cmpr; rw [Int.add_mul, Int.one_mul]; split
        · omega
        · split <;> omega

theorem ups_bd (a b c : Int) (ha : U64 a) (hb : U64 b) (hc : U64 c) : U64 (ups a b c) := by
  have := quo_bd a b c ha hb hc
  unfold U64 at *
  rcases ups_which a b c ha hb hc with h | h | h | h <;> omega

theorem upsLaw (a b c : Int) (w : World) (ha : U64 a) (hb : U64 b) (hc : U64 c) :
    Calls Try.prog 5 #[.int .u64 a, .int .u64 b, .int .u64 c] w (Yes w) :=
  ups_as a b c _ _ _ _ _ _ w (Lib.hid fun w => mulDiv a b c w ha hb hc) (Lib.hid fun w => up a b c w ha hb hc) (Lib.hid fun w => compare _ c a b w (ups_bd a b c ha hb hc) hc ha hb) (quo_bd a b c ha hb hc).1 (ups_which a b c ha hb hc)

/-! ### By a number, by 1, by 0. -/
theorem ones_as (a c n m q r : Int) (is has : Bool) (w : World) (C1 : Hid (∀ w, Calls Try.prog 11 #[.int .u64 a, .int .u64 c, .int .u64 0] w (TripleGrown 0 0 false w)))
    (C2 : Hid (∀ w, Calls Try.prog 13 #[.int .u64 a, .int .u64 c, .int .u64 0] w (NumGrown 0 false w))) (C3 : Hid (∀ w, Calls Try.prog 11 #[.int .u64 a, .int .u64 c, .int .u64 1] w (TripleGrown n 0 is w)))
    (C4 : Hid (∀ w, Calls Try.prog 15 #[.int .u64 a, .int .u64 c, .int .u64 4294967296, .int .u64 4294967296] w (IntGrown m w))) (C5 : Hid (∀ w, Calls Try.prog 11 #[.int .u64 a, .int .u64 c, .int .u64 c] w (TripleGrown q r has w)))
    (hm : is = true ∧ m = -1 ∧ n = IntKind.u64.wrap (a * c) ∨ is = false ∧ 0 ≤ m ∧ m ≤ 1) (hc : c ≠ 0 ∧ c ≠ 1 ∧ q = a ∧ r = 0 ∧ has = true) :
    Calls Try.prog 6 #[.int .u64 a, .int .u64 c] w (Yes w) := by
  obtain ⟨h0, h1, rfl, rfl, rfl⟩ := hc
  have h2 : (c == 0) = false := by simpa using h0
  rcases hm with ⟨rfl, rfl, rfl⟩ | ⟨rfl, hm, hm1⟩
  all_goals
    go_enter Try.func6, Try.ntmps6
    go_wp2_with (first
      | (go_at_call 10; refine (awake _).mono ?_; rintro e w1 ⟨rfl, hg⟩)
      | (go_at_call 11; first | ((with_reducible refine (C1.out _).mono ?_); rintro e w2 ⟨rfl, hg2⟩; have hg := grown_trans hg hg2; clear hg2) | ((with_reducible refine (C3.out _).mono ?_); rintro e w2 ⟨rfl, hg2⟩; have hg := grown_trans hg hg2; clear hg2) | ((with_reducible refine (C5.out _).mono ?_); rintro e w2 ⟨rfl, hg2⟩; have hg := grown_trans hg hg2; clear hg2))
      | (go_at_call 13; refine (C2.out _).mono ?_; rintro e w3 ⟨rfl, hg2⟩; have hg := grown_trans hg hg2; clear hg2)
      | (go_at_call 15; refine (C4.out _).mono ?_; rintro e w4 ⟨rfl, hg2⟩; have hg := grown_trans hg hg2; clear hg2))
    go_ret
    exact ⟨rfl, by assumption⟩

theorem small_as (a b c m : Int) (w : World) (ha : 0 ≤ a) (ha1 : a ≤ 4294967295) (hb : 0 ≤ b) (hb1 : b ≤ 4294967295) (hc : 1 ≤ c) (hc1 : c ≤ 4294967295)
    (C1 : Hid (∀ w, Calls Try.prog 11 #[.int .u64 a, .int .u64 b, .int .u64 c] w (TripleGrown (a * b / c) (a * b % c) true w)))
    (C2 : Hid (∀ w, Calls Try.prog 15 #[.int .u64 a, .int .u64 b, .int .u64 c, .int .u64 1] w (IntGrown m w)))
    (hm : m < 0 ∧ a * b < c ∨ 0 ≤ m ∧ c ≤ a * b) :
    Calls Try.prog 7 #[.int .u32 a, .int .u32 b, .int .u32 c] w (Yes w) := by
  obtain ⟨p0, p1⟩ := half_mul ha ha1 hb hb1
  have h2 : (c == 0) = false := by simp; omega
  have h5 : (decide (m < 0) == decide (a * b < c)) = true := by
    rcases hm with ⟨h3, h4⟩ | ⟨h3, h4⟩ <;> simp <;> omega
  rcases hm with ⟨h3, h4⟩ | ⟨h3, h4⟩
  all_goals
    go_enter Try.func7, Try.ntmps7
    go_wp2_with (first
      | (go_at_call 10; refine (awake _).mono ?_; rintro e w1 ⟨rfl, hg⟩)
      | (go_at_call 11; (refine (C1.out _).mono ?_); rintro e w2 ⟨rfl, hg2⟩; have hg := grown_trans hg hg2; clear hg2)
      | (go_at_call 15; refine (C2.out _).mono ?_; rintro e w4 ⟨rfl, hg2⟩; have hg := grown_trans hg hg2; clear hg2))
    go_ret
    exact ⟨rfl, by assumption⟩
theorem small_no (a b : Int) (w : World) (ha : 0 ≤ a) (ha1 : a ≤ 4294967295) (hb : 0 ≤ b) (hb1 : b ≤ 4294967295) (q r : Int)
    (C1 : Hid (∀ w, Calls Try.prog 11 #[.int .u64 a, .int .u64 b, .int .u64 0] w (TripleGrown q r false w))) :
    Calls Try.prog 7 #[.int .u32 a, .int .u32 b, .int .u32 0] w (Yes w) := by
  obtain ⟨p0, p1⟩ := half_mul ha ha1 hb hb1
  go_enter Try.func7, Try.ntmps7
  go_wp2_with (first
    | (go_at_call 10; refine (awake _).mono ?_; rintro e w1 ⟨rfl, hg⟩)
    | (go_at_call 11; (refine (C1.out _).mono ?_); rintro e w2 ⟨rfl, hg2⟩; have hg := grown_trans hg hg2; clear hg2))
  go_ret
  exact ⟨rfl, by assumption⟩

end Go.Proofs.Ytnpfheajofgdpaa.Wide
