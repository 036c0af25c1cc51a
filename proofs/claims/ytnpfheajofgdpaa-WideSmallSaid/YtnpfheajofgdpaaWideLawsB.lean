/- The walks of two laws of package wide more: each returns true, at all words of 64 bits. Conditions: each argument is a number of its kind. -/
import Derived.Test.YtnpfheajofgdpaaWideLaws
import Derived.Laws.Cover1
namespace Go.Proofs.Ytnpfheajofgdpaa.Wide
open Go.ChangeShapes Go.WideShapes Go.ChangeAt Go.RowKit
set_option linter.unusedVariables false

theorem order_as (a b c d m n : Int) (w : World) (hn : n = 0 ∨ n = 1 ∨ n = -1) (hm : 0 ≤ m)
    (C1 : Hid (∀ w, Calls Try.prog 15 #[.int .u64 a, .int .u64 b, .int .u64 c, .int .u64 d] w (IntGrown n w)))
    (C2 : Hid (∀ w, Calls Try.prog 15 #[.int .u64 c, .int .u64 d, .int .u64 a, .int .u64 b] w (IntGrown (-n) w)))
    (C3 : Hid (∀ w, Calls Try.prog 15 #[.int .u64 b, .int .u64 a, .int .u64 d, .int .u64 c] w (IntGrown n w)))
    (C4 : Hid (∀ w, Calls Try.prog 15 #[.int .u64 a, .int .u64 b, .int .u64 b, .int .u64 a] w (IntGrown 0 w)))
    (C5 : Hid (∀ w, Calls Try.prog 15 #[.int .u64 a, .int .u64 (max b d), .int .u64 a, .int .u64 b] w (IntGrown m w))) :
    Calls Try.prog 8 #[.agg #[.int .u64 a, .int .u64 b, .int .u64 c, .int .u64 d]] w (Yes w) := by
  rcases hn with rfl | rfl | rfl
  all_goals
    go_enter Try.func8, Try.ntmps8
    go_wp2_with (first
      | (go_at_call 10; refine (awake _).mono ?_; rintro e w1 ⟨rfl, hg⟩; obtain ⟨k0, k1, k2, k3⟩ := four hg)
      | (go_at_call 15; first | ((with_reducible refine (C1.out _).mono ?_); rintro e w2 ⟨rfl, hg2⟩; have hg := grown_trans hg hg2; clear hg2) | ((with_reducible refine (C2.out _).mono ?_); rintro e w2 ⟨rfl, hg2⟩; have hg := grown_trans hg hg2; clear hg2) | ((with_reducible refine (C3.out _).mono ?_); rintro e w2 ⟨rfl, hg2⟩; have hg := grown_trans hg hg2; clear hg2) | ((with_reducible refine (C4.out _).mono ?_); rintro e w2 ⟨rfl, hg2⟩; have hg := grown_trans hg hg2; clear hg2) | ((with_reducible refine (C5.out _).mono ?_); rintro e w2 ⟨rfl, hg2⟩; have hg := grown_trans hg hg2; clear hg2)))
    go_ret
    exact ⟨rfl, grown_trans ((Grown.refl w).alloc _ _) (by assumption)⟩

theorem cmpr_turn (a b c d : Int) : cmpr c d a b = - cmpr a b c d := by
  unfold cmpr; generalize a * b = x; generalize c * d = y
  (repeat' split) <;> omega
theorem cmpr_three (a b c d : Int) : cmpr a b c d = 0 ∨ cmpr a b c d = 1 ∨ cmpr a b c d = -1 := by
  unfold cmpr; (repeat' split) <;> simp
theorem max_u64 {b d : Int} (hb : U64 b) (hd : U64 d) : U64 (max b d) := by unfold U64 at *; omega

theorem orderLaw (a b c d : Int) (w : World) (ha : U64 a) (hb : U64 b) (hc : U64 c) (hd : U64 d) :
    Calls Try.prog 8 #[.agg #[.int .u64 a, .int .u64 b, .int .u64 c, .int .u64 d]] w (Yes w) := by
  refine order_as a b c d _ _ w (cmpr_three a b c d) ?_ (Lib.hid fun w => compare a b c d w ha hb hc hd) (Lib.hid fun w => ?_) (Lib.hid fun w => ?_) (Lib.hid fun w => ?_) (Lib.hid fun w => compare a (max b d) a b w ha (max_u64 hb hd) ha hb)
  · have : a * b ≤ a * max b d := Int.mul_le_mul_of_nonneg_left (by omega) ha.1
    unfold cmpr; (repeat' split) <;> omega
  · have := compare c d a b w hc hd ha hb
    rwa [cmpr_turn] at this
  · have := compare b a d c w hb ha hd hc
    rwa [show cmpr b a d c = cmpr a b c d from by unfold cmpr; rw [Int.mul_comm b a, Int.mul_comm d c]] at this
  · have := compare a b b a w ha hb hb ha
    rwa [show cmpr a b b a = 0 from by unfold cmpr; rw [Int.mul_comm b a]; simp] at this

theorem rises_as (a b c d q m l : Int) (r1 r2 r3 : Int) (is was has : Bool) (w : World)
    (C1 : Hid (∀ w, Calls Try.prog 11 #[.int .u64 a, .int .u64 b, .int .u64 (max c 1)] w (TripleGrown q r1 is w)))
    (C2 : Hid (∀ w, Calls Try.prog 11 #[.int .u64 a, .int .u64 (max b d), .int .u64 (max c 1)] w (TripleGrown m r2 was w)))
    (C3 : Hid (∀ (k : Int) (w : World), k = max (max c d) 1 → Calls Try.prog 11 #[.int .u64 a, .int .u64 b, .int .u64 k] w (TripleGrown l r3 has w)))
    (k : was = true → is = true ∧ q ≤ m) (k2 : is = true → has = true ∧ l ≤ q) :
    Calls Try.prog 9 #[.agg #[.int .u64 a, .int .u64 b, .int .u64 c, .int .u64 d]] w (Yes w) := by
  have go : was = true ∧ is = true ∧ has = true ∧ q ≤ m ∧ l ≤ q ∨ was = false ∧ is = true ∧ has = true ∧ l ≤ q ∨ was = false ∧ is = false := by
    cases was <;> cases is <;> cases has <;> simp_all
  clear k k2
  rcases go with ⟨rfl, rfl, rfl, h1, h2⟩ | ⟨rfl, rfl, rfl, h2⟩ | ⟨rfl, rfl⟩
  all_goals
    go_enter Try.func9, Try.ntmps9
    go_wp2_with (first
      | (go_at_call 10; refine (awake _).mono ?_; rintro e w1 ⟨rfl, hg⟩; obtain ⟨k0, k1, k2, k3⟩ := four hg)
      | (go_at_call 11; first | ((with_reducible refine (C1.out _).mono ?_); rintro e w2 ⟨rfl, hg2⟩; have hg := grown_trans hg hg2; clear hg2) | ((with_reducible refine (C2.out _).mono ?_); rintro e w2 ⟨rfl, hg2⟩; have hg := grown_trans hg hg2; clear hg2) | ((with_reducible refine (C3.out _ _ (by omega)).mono ?_); rintro e w2 ⟨rfl, hg2⟩; have hg := grown_trans hg hg2; clear hg2)))
    all_goals (go_ret; exact ⟨rfl, grown_trans ((Grown.refl w).alloc _ _) (by assumption)⟩)

theorem div_more (x c d : Int) (hx : 0 ≤ x) (hc : 1 ≤ c) (h : c ≤ d) : x / d ≤ x / c := by
  have h1 : x / d * d ≤ x := Int.ediv_mul_le _ (by omega)
  have h2 : 0 ≤ x / d := Int.ediv_nonneg hx (by omega)
  have h3 : x / d * c ≤ x / d * d := Int.mul_le_mul_of_nonneg_left h h2
  exact (Int.le_ediv_iff_mul_le (by omega)).2 (by omega)

theorem risesLaw (a b c d : Int) (w : World) (ha : U64 a) (hb : U64 b) (hc : U64 c) (hd : U64 d) :
    Calls Try.prog 9 #[.agg #[.int .u64 a, .int .u64 b, .int .u64 c, .int .u64 d]] w (Yes w) := by
  have h1 : U64 (max c 1) := max_u64 hc (by unfold U64; omega)
  have h2 : U64 (max b d) := max_u64 hb hd
  have h3 : U64 (max (max c d) 1) := max_u64 (max_u64 hc hd) (by unfold U64; omega)
  have p1 := prod_bd a b ha hb
  have p2 := prod_bd a (max b d) ha h2
  have le : a * b ≤ a * max b d := Int.mul_le_mul_of_nonneg_left (by omega) ha.1
  refine rises_as a b c d _ _ _ _ _ _ _ _ _ w (Lib.hid fun w => mulDiv a b _ w ha hb h1) (Lib.hid fun w => mulDiv a _ _ w ha h2 h1) (Lib.hid fun k w hk => by rw [hk]; exact mulDiv a b _ w ha hb h3) ?_ ?_
  · intro h
    obtain ⟨k1, k2⟩ := decide_eq_true_iff.1 h
    have k3 : a * b / max c 1 ≤ a * max b d / max c 1 := Int.ediv_le_ediv (by omega) le
    have k4 : can a b (max c 1) = true := decide_eq_true_iff.2 ⟨k1, by omega⟩
    exact ⟨k4, by rw [quo_in k4, quo_in h]; exact k3⟩
  · intro h
    obtain ⟨k1, k2⟩ := decide_eq_true_iff.1 h
    have k3 := div_more (a * b) (max c 1) (max (max c d) 1) p1.1 (by omega) (by omega)
    have k4 : can a b (max (max c d) 1) = true := decide_eq_true_iff.2 ⟨by omega, by omega⟩
    exact ⟨k4, by rw [quo_in k4, quo_in h]; exact k3⟩

theorem small (a b c : Int) (w : World) (ha : 0 ≤ a ∧ a ≤ 4294967295) (hb : 0 ≤ b ∧ b ≤ 4294967295) (hc : 0 ≤ c ∧ c ≤ 4294967295) :
    Calls Try.prog 7 #[.int .u32 a, .int .u32 b, .int .u32 c] w (Yes w) := by
  have ua : U64 a := by unfold U64; omega
  have ub : U64 b := by unfold U64; omega
  have uc : U64 c := by unfold U64; omega
  by_cases h : c = 0
  · subst h
    refine small_no a b w ha.1 ha.2 hb.1 hb.2 (quo a b 0) (rst a b 0) (Lib.hid fun w => ?_)
    have := mulDiv a b 0 w ua ub uc
    rwa [show can a b 0 = false from by unfold can; simp] at this
  · obtain ⟨p0, p1⟩ := half_mul ha.1 ha.2 hb.1 hb.2
    have le := div_more (a * b) 1 c p0 (by omega) (by omega)
    rw [Int.ediv_one] at le
    have k : can a b c = true := decide_eq_true_iff.2 ⟨by omega, by omega⟩
    refine small_as a b c _ w ha.1 ha.2 hb.1 hb.2 (by omega) hc.2 (Lib.hid fun w => ?_) (Lib.hid fun w => compare a b c 1 w ua ub uc (by unfold U64; omega)) ?_
    · have := mulDiv a b c w ua ub uc
      rwa [k, quo_in k, rst_in k] at this
    · unfold cmpr; rw [Int.mul_one]; (repeat' split) <;> omega

theorem onesLaw_any (a c : Int) (w : World) (ha : U64 a) (hc : U64 c) (h0 : c ≠ 0) (h1 : c ≠ 1) :
    Calls Try.prog 6 #[.int .u64 a, .int .u64 c] w (Yes w) := by
  have p := prod_bd a c ha hc
  have u0 : U64 0 := by unfold U64; omega
  have u1 : U64 1 := by unfold U64; omega
  have uB : U64 4294967296 := by unfold U64; omega
  have n0 : can a c 0 = false := by unfold can; simp
  have r0 : rst a c 1 = 0 := by unfold rst; split <;> simp
  refine ones_as a c (quo a c 1) _ _ _ (can a c 1) _ w (Lib.hid fun w => ?_) (Lib.hid fun w => ?_) (Lib.hid fun w => ?_) (Lib.hid fun w => compare a c _ _ w ha hc uB uB) (Lib.hid fun w => mulDiv a c c w ha hc hc) ?_ ?_
  · have := mulDiv a c 0 w ha hc u0
    rwa [quo_out n0, rst_out n0, n0] at this
  · have := up a c 0 w ha hc u0
    rwa [show ups a c 0 = 0 from by unfold ups; rw [n0]; rfl, show upc a c 0 = false from by unfold upc; rw [n0]; rfl] at this
  · have := mulDiv a c 1 w ha hc u1
    rwa [r0] at this
  · by_cases h : a * c ≤ 18446744073709551615
    · have k : can a c 1 = true := decide_eq_true_iff.2 ⟨by omega, by rw [Int.ediv_one]; exact h⟩
      refine Or.inl ⟨k, ?_, ?_⟩
      · unfold cmpr; (repeat' split) <;> omega
      · rw [quo_in k, Int.ediv_one, wrapU _ p.1 h]
    · refine Or.inr ⟨decide_eq_false_iff_not.2 (by rw [Int.ediv_one]; omega), ?_⟩
      unfold cmpr; (repeat' split) <;> omega
  · have c0 := hc.1
    have k : can a c c = true := decide_eq_true_iff.2 ⟨by omega, by rw [Int.mul_ediv_cancel _ h0]; exact ha.2⟩
    exact ⟨h0, h1, by rw [quo_in k, Int.mul_ediv_cancel _ h0], by rw [rst_in k]; simp, k⟩

theorem ones_0 (a : Int) (w : World) (a0 : 0 ≤ a) (a1 : a ≤ 18446744073709551615) (C1 : Hid (∀ w, Calls Try.prog 11 #[.int .u64 a, .int .u64 0, .int .u64 0] w (TripleGrown 0 0 false w)))
    (C2 : Hid (∀ w, Calls Try.prog 13 #[.int .u64 a, .int .u64 0, .int .u64 0] w (NumGrown 0 false w))) (C3 : Hid (∀ w, Calls Try.prog 11 #[.int .u64 a, .int .u64 0, .int .u64 1] w (TripleGrown 0 0 true w)))
    (C4 : Hid (∀ w, Calls Try.prog 15 #[.int .u64 a, .int .u64 0, .int .u64 4294967296, .int .u64 4294967296] w (IntGrown (-1) w))) :
    Calls Try.prog 6 #[.int .u64 a, .int .u64 0] w (Yes w) := by
  go_enter Try.func6, Try.ntmps6
  go_wp2_with (first
    | (go_at_call 10; refine (awake _).mono ?_; rintro e w1 ⟨rfl, hg⟩)
    | (go_at_call 11; first | ((with_reducible refine (C1.out _).mono ?_); rintro e w2 ⟨rfl, hg2⟩; have hg := grown_trans hg hg2; clear hg2) | ((with_reducible refine (C3.out _).mono ?_); rintro e w2 ⟨rfl, hg2⟩; have hg := grown_trans hg hg2; clear hg2))
    | (go_at_call 13; refine (C2.out _).mono ?_; rintro e w3 ⟨rfl, hg2⟩; have hg := grown_trans hg hg2; clear hg2)
    | (go_at_call 15; refine (C4.out _).mono ?_; rintro e w4 ⟨rfl, hg2⟩; have hg := grown_trans hg hg2; clear hg2))
  go_ret
  exact ⟨rfl, by assumption⟩

theorem ones_1 (a : Int) (w : World) (a0 : 0 ≤ a) (a1 : a ≤ 18446744073709551615) (C1 : Hid (∀ w, Calls Try.prog 11 #[.int .u64 a, .int .u64 1, .int .u64 0] w (TripleGrown 0 0 false w)))
    (C2 : Hid (∀ w, Calls Try.prog 13 #[.int .u64 a, .int .u64 1, .int .u64 0] w (NumGrown 0 false w))) (C3 : Hid (∀ w, Calls Try.prog 11 #[.int .u64 a, .int .u64 1, .int .u64 1] w (TripleGrown a 0 true w)))
    (C4 : Hid (∀ w, Calls Try.prog 15 #[.int .u64 a, .int .u64 1, .int .u64 4294967296, .int .u64 4294967296] w (IntGrown (-1) w))) :
    Calls Try.prog 6 #[.int .u64 a, .int .u64 1] w (Yes w) := by
  go_enter Try.func6, Try.ntmps6
  go_wp2_with (first
    | (go_at_call 10; refine (awake _).mono ?_; rintro e w1 ⟨rfl, hg⟩)
    | (go_at_call 11; first | ((with_reducible refine (C1.out _).mono ?_); rintro e w2 ⟨rfl, hg2⟩; have hg := grown_trans hg hg2; clear hg2) | ((with_reducible refine (C3.out _).mono ?_); rintro e w2 ⟨rfl, hg2⟩; have hg := grown_trans hg hg2; clear hg2))
    | (go_at_call 13; refine (C2.out _).mono ?_; rintro e w3 ⟨rfl, hg2⟩; have hg := grown_trans hg hg2; clear hg2)
    | (go_at_call 15; refine (C4.out _).mono ?_; rintro e w4 ⟨rfl, hg2⟩; have hg := grown_trans hg hg2; clear hg2))
  go_ret
  exact ⟨rfl, by assumption⟩

theorem onesLaw (a c : Int) (w : World) (ha : U64 a) (hc : U64 c) :
    Calls Try.prog 6 #[.int .u64 a, .int .u64 c] w (Yes w) := by
  have u0 : U64 0 := by unfold U64; omega
  have u1 : U64 1 := by unfold U64; omega
  have uB : U64 4294967296 := by unfold U64; omega
  have C1 : ∀ c w, U64 c → Calls Try.prog 11 #[.int .u64 a, .int .u64 c, .int .u64 0] w (TripleGrown 0 0 false w) := by
    intro c w hc
    have n0 : can a c 0 = false := by unfold can; simp
    have := mulDiv a c 0 w ha hc u0
    rwa [quo_out n0, rst_out n0, n0] at this
  have C2 : ∀ c w, U64 c → Calls Try.prog 13 #[.int .u64 a, .int .u64 c, .int .u64 0] w (NumGrown 0 false w) := by
    intro c w hc
    have n0 : can a c 0 = false := by unfold can; simp
    have := up a c 0 w ha hc u0
    rwa [show ups a c 0 = 0 from by unfold ups; rw [n0]; rfl, show upc a c 0 = false from by unfold upc; rw [n0]; rfl] at this
  have a0 := ha.1
  have a1 := ha.2
  by_cases h0 : c = 0
  · subst h0
    refine ones_0 a w a0 a1 (Lib.hid fun w => C1 0 w u0) (Lib.hid fun w => C2 0 w u0) (Lib.hid fun w => ?_) (Lib.hid fun w => ?_)
    · have k : can a 0 1 = true := decide_eq_true_iff.2 ⟨by omega, by simp⟩
      have := mulDiv a 0 1 w ha u0 u1
      rwa [k, quo_in k, rst_in k, Int.mul_zero, show (0 : Int) / 1 = 0 from rfl, show (0 : Int) % 1 = 0 from rfl] at this
    · have := compare a 0 _ _ w ha u0 uB uB
      rwa [show cmpr a 0 4294967296 4294967296 = -1 from by unfold cmpr; rw [Int.mul_zero]; rfl] at this
  · by_cases h1 : c = 1
    · subst h1
      refine ones_1 a w a0 a1 (Lib.hid fun w => C1 1 w u1) (Lib.hid fun w => C2 1 w u1) (Lib.hid fun w => ?_) (Lib.hid fun w => ?_)
      · have k : can a 1 1 = true := decide_eq_true_iff.2 ⟨by omega, by rw [Int.mul_one, Int.ediv_one]; exact a1⟩
        have := mulDiv a 1 1 w ha u1 u1
        rwa [k, quo_in k, rst_in k, Int.mul_one, Int.ediv_one, Int.emod_one] at this
      · have := compare a 1 _ _ w ha u1 uB uB
        rwa [show cmpr a 1 4294967296 4294967296 = -1 from by unfold cmpr; rw [Int.mul_one, if_pos (by omega)]] at this
    · exact onesLaw_any a c w ha hc h0 h1
end Go.Proofs.Ytnpfheajofgdpaa.Wide
