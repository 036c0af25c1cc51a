/- The walks of the seven laws of package fix: each returns true, at all numbers of 64 bits. Conditions: each argument is a number of its kind. -/
import Derived.Test.YtjdokpeiefcijaaFixRefs
namespace Go.Proofs.Ytjdokpeiefcijaa.Fix
open Go.ChangeShapes Go.WideShapes Go.ChangeAt Go.RowKit
set_option linter.unusedVariables false

def Yes (w : World) (e : Ending) (w' : World) : Prop := e = .returned (.bool true) ∧ Grown w w'

theorem yes_of {b : Bool} {w w' : World} (h : b = true) (g : Grown w w') : Yes w (.returned (.bool b)) w' := by subst h; exact ⟨rfl, g⟩
theorem grown_trans {a b c : World} (h : Grown a b) (k : Grown b c) : Grown a c := ⟨World.keptBut_trans h.1 k.1, fun x => (k.2.1 x).trans (h.2.1 x), Nat.le_trans h.2.2 k.2.2⟩
theorem i64_of {n : Int} (h : (Lit.int .i64 n).wf = true) : I64 n := bounds_i64 h

theorem add23 (w : World) : Calls Try.prog 11 #[.int .i64 2, .int .i64 3] w (Two 5 true w) := by
  have h := add 2 3 w (by unfold I64; omega) (by unfold I64; omega)
  rwa [show only (2 + 3) = 5 from by decide, show fits (2 + 3) = true from by decide] at h
theorem addTop (w : World) : Calls Try.prog 11 #[.int .i64 9223372036854775807, .int .i64 1] w (Two 0 false w) := by
  have h := add 9223372036854775807 1 w (by unfold I64; omega) (by unfold I64; omega)
  rwa [show only (9223372036854775807 + 1) = 0 from by decide, show fits (9223372036854775807 + 1) = false from by decide] at h
theorem satTop (w : World) : Calls Try.prog 17 #[.int .i64 9223372036854775807, .int .i64 1] w (OneGrown 9223372036854775807 w) := by
  have h := sat 9223372036854775807 1 w (by unfold I64; omega) (by unfold I64; omega)
  rwa [show ends (9223372036854775807 + 1) = 9223372036854775807 from by decide] at h
theorem hold715 (w : World) : Calls Try.prog 21 #[.int .i64 7, .int .i64 1, .int .i64 5] w (One 5 w) := by
  have h := holds 7 1 5 w
  rwa [show hold 7 1 5 = 5 from by decide] at h

theorem awake (w : World) : Calls Try.prog 10 #[] w (Yes w) := by
  go_enter Try.func10, Try.ntmps10
  go_wp2_with (first
    | (go_at_call 11; first | ((with_reducible refine (add23 _).mono ?_); rintro e w' ⟨rfl, rfl⟩) | ((with_reducible refine (addTop _).mono ?_); rintro e w' ⟨rfl, rfl⟩))
    | (go_at_call 17; refine (satTop _).mono ?_; rintro e w1 ⟨rfl, hg⟩)
    | (go_at_call 21; refine (hold715 _).mono ?_; rintro e w' ⟨rfl, rfl⟩))
  go_ret
  exact ⟨rfl, hg⟩

theorem hold_within (n a b : Int) (h : a ≤ b) : a ≤ hold n a b ∧ hold n a b ≤ b ∧ hold (hold n a b) a b = hold n a b ∧ hold n a a = a := by
  unfold hold
  refine ⟨?_, ?_, ?_, ?_⟩ <;> (repeat' split) <;> omega
theorem hold_in (n a b : Int) (h1 : a ≤ n) (h2 : n ≤ b) : hold n a b = n := by
  unfold hold; (repeat' split) <;> omega

theorem within_as (n low high a b x : Int) (w : World) (hab : a ≤ b) (ho : low < high ∧ a = low ∧ b = high ∨ high < low ∧ a = high ∧ b = low ∨ low = high ∧ a = low ∧ b = low) (hx : x = hold n a b) :
    Calls Try.prog 9 #[.int .i64 n, .int .i64 low, .int .i64 high] w (Yes w) := by
  obtain ⟨k1, k2, k3, k4⟩ := hold_within n a b hab
  have k5 := hold_in n a b
  rw [← hx] at k1 k2 k3 k5
  have c1 : ∀ w, Calls Try.prog 21 #[.int .i64 n, .int .i64 a, .int .i64 b] w (One x w) := by rw [hx]; exact holds n a b
  have c2 : ∀ w, Calls Try.prog 21 #[.int .i64 x, .int .i64 a, .int .i64 b] w (One x w) := by
    have := holds x a b; rwa [k3] at this
  have c3 : ∀ w, Calls Try.prog 21 #[.int .i64 n, .int .i64 a, .int .i64 a] w (One a w) := by
    have := holds n a a; rwa [k4] at this
  have C1 := Lib.hid c1
  have C2 := Lib.hid c2
  have C3 := Lib.hid c3
  have K5 : n < a ∨ b < n ∨ x = n := by
    by_cases h1 : n < a
    · exact Or.inl h1
    by_cases h2 : b < n
    · exact Or.inr (Or.inl h2)
    exact Or.inr (Or.inr (k5 (by omega) (by omega)))
  clear c1 c2 c3 k3 k4 k5 hx
  rcases ho with ⟨ho, rfl, rfl⟩ | ⟨ho, rfl, rfl⟩ | ⟨rfl, rfl, rfl⟩
  all_goals
    go_enter Try.func9, Try.ntmps9
    go_wp2_with (first
      | (go_at_call 10; refine (awake _).mono ?_; rintro e w1 ⟨rfl, hg⟩)
      | (go_at_call 21; first | ((with_reducible refine (C1.out _).mono ?_); rintro e w' ⟨rfl, rfl⟩) | ((with_reducible refine (C2.out _).mono ?_); rintro e w' ⟨rfl, rfl⟩) | ((with_reducible refine (C3.out _).mono ?_); rintro e w' ⟨rfl, rfl⟩)))
    all_goals first | (exfalso; omega) | (go_ret; exact ⟨rfl, hg⟩) | (go_ret; refine yes_of (by simp only [Bool.or_eq_true, Bool.and_eq_true, decide_eq_true_eq, beq_iff_eq]; omega) hg)

theorem within (n low high : Int) (w : World) :
    Calls Try.prog 9 #[.int .i64 n, .int .i64 low, .int .i64 high] w (Yes w) := by
  by_cases h : low ≤ high
  · exact within_as n low high low high _ w h (by omega) rfl
  · exact within_as n low high high low _ w (by omega) (by omega) rfl

theorem sums (a b : Int) (w : World) (ha : I64 a) (hb : I64 b) :
    Calls Try.prog 3 #[.int .i64 a, .int .i64 b] w (Yes w) := by
  go_enter Try.func3, Try.ntmps3
  go_wp2_with (first
    | (go_at_call 10; refine (awake _).mono ?_; rintro e w1 ⟨rfl, hg⟩)
    | (go_at_call 11; refine (add a b _ ha hb).mono ?_; rintro e w' ⟨rfl, rfl⟩)
    | (go_at_call 12; refine (refAdd a b _ ha hb).mono ?_; rintro e w' ⟨rfl, rfl⟩)
    | (go_at_call 13; refine (sub a b _ ha hb).mono ?_; rintro e w' ⟨rfl, rfl⟩)
    | (go_at_call 14; refine (refSub a b _ ha hb).mono ?_; rintro e w' ⟨rfl, rfl⟩)
    | (go_at_call 15; refine (mul a b _ ha hb).mono ?_; rintro e w' ⟨rfl, rfl⟩)
    | (go_at_call 16; refine (refMul a b _ ha hb).mono ?_; rintro e w' ⟨rfl, rfl⟩))
  go_ret; exact ⟨rfl, hg⟩

theorem holdsLaw (n low high : Int) (w : World) (ha : I64 n) (hb : I64 low) :
    Calls Try.prog 4 #[.int .i64 n, .int .i64 low, .int .i64 high] w (Yes w) := by
  go_enter Try.func4, Try.ntmps4
  go_wp2_with (first
    | (go_at_call 10; refine (awake _).mono ?_; rintro e w1 ⟨rfl, hg⟩)
    | (go_at_call 17; refine (sat n low _ ha hb).mono ?_; rintro e w2 ⟨rfl, hg2⟩)
    | (go_at_call 18; refine (refSat n low _ ha hb).mono ?_; rintro e w' ⟨rfl, rfl⟩)
    | (go_at_call 19; refine (less n low _ ha hb).mono ?_; rintro e w3 ⟨rfl, hg3⟩)
    | (go_at_call 20; refine (refLess n low _ ha hb).mono ?_; rintro e w' ⟨rfl, rfl⟩)
    | (go_at_call 21; refine (holds n low high _).mono ?_; rintro e w' ⟨rfl, rfl⟩)
    | (go_at_call 22; refine (refHold n low high _).mono ?_; rintro e w' ⟨rfl, rfl⟩))
  go_ret; exact ⟨rfl, grown_trans (grown_trans hg hg2) hg3⟩

theorem back_as (a b c d e f : Int) (is was has had : Bool) (w : World)
    (C1 : Hid (∀ w, Calls Try.prog 11 #[.int .i64 a, .int .i64 b] w (Two c is w))) (C2 : Hid (∀ w, Calls Try.prog 13 #[.int .i64 c, .int .i64 b] w (Two d was w)))
    (C3 : Hid (∀ w, Calls Try.prog 13 #[.int .i64 a, .int .i64 b] w (Two e has w))) (C4 : Hid (∀ w, Calls Try.prog 11 #[.int .i64 e, .int .i64 b] w (Two f had w))) (C5 : Hid (∀ w, Calls Try.prog 13 #[.int .i64 a, .int .i64 a] w (Two 0 true w)))
    (k1 : is = true → was = true ∧ d = a) (k2 : has = true → had = true ∧ f = a) :
    Calls Try.prog 5 #[.int .i64 a, .int .i64 b] w (Yes w) := by
  have go : ∀ is has was had : Bool, (is = true → was = true ∧ d = a) → (has = true → had = true ∧ f = a) →
      ((!is || was && d == a) = true ∧ (!has || had && f == a) = true) := by
    intro is has was had h1 h2
    cases is <;> cases has <;> simp_all
  obtain ⟨g1, g2⟩ := go is has was had k1 k2
  clear go k1 k2
  cases is <;> cases has <;> cases was <;> cases had <;> simp at g1 g2 <;> (try subst g1) <;> (try subst g2)
  all_goals
    go_enter Try.func5, Try.ntmps5
    go_wp2_with (first
      | (go_at_call 10; refine (awake _).mono ?_; rintro e w1 ⟨rfl, hg⟩)
      | (go_at_call 11; first | ((with_reducible refine (C1.out _).mono ?_); rintro e w' ⟨rfl, rfl⟩) | ((with_reducible refine (C4.out _).mono ?_); rintro e w' ⟨rfl, rfl⟩))
      | (go_at_call 13; first | ((with_reducible refine (C2.out _).mono ?_); rintro e w' ⟨rfl, rfl⟩) | ((with_reducible refine (C3.out _).mono ?_); rintro e w' ⟨rfl, rfl⟩) | ((with_reducible refine (C5.out _).mono ?_); rintro e w' ⟨rfl, rfl⟩)))
    go_ret; exact ⟨rfl, hg⟩

theorem fits_iff (n : Int) : fits n = true ↔ I64 n := by unfold fits I64; simp

theorem back (a b : Int) (w : World) (ha : I64 a) (hb : I64 b) :
    Calls Try.prog 5 #[.int .i64 a, .int .i64 b] w (Yes w) := by
  refine back_as a b _ _ _ _ _ _ _ _ w (Lib.hid fun w => add a b w ha hb) (Lib.hid fun w => sub _ b w (i64_only _) hb) (Lib.hid fun w => sub a b w ha hb) (Lib.hid fun w => add _ b w (i64_only _) hb) ?_ ?_ ?_
  · refine Lib.hid fun w => ?_
    have h := sub a a w ha ha
    rwa [Int.sub_self] at h
  · intro h
    rw [only_in ((fits_iff _).1 h), Int.add_sub_cancel]
    exact ⟨fits_in ha, only_in ha⟩
  · intro h
    rw [only_in ((fits_iff _).1 h), Int.sub_add_cancel]
    exact ⟨fits_in ha, only_in ha⟩

theorem turned_as (a b x m s : Int) (is can : Bool) (w : World)
    (C1 : Hid (∀ w, Calls Try.prog 11 #[.int .i64 a, .int .i64 b] w (Two x is w))) (C2 : Hid (∀ w, Calls Try.prog 11 #[.int .i64 b, .int .i64 a] w (Two x is w)))
    (C3 : Hid (∀ w, Calls Try.prog 15 #[.int .i64 a, .int .i64 b] w (Two m can w))) (C4 : Hid (∀ w, Calls Try.prog 15 #[.int .i64 b, .int .i64 a] w (Two m can w)))
    (C5 : Hid (∀ w, Calls Try.prog 15 #[.int .i64 a, .int .i64 1] w (Two a true w))) (C6 : Hid (∀ w, Calls Try.prog 15 #[.int .i64 0, .int .i64 a] w (Two 0 true w)))
    (C7 : Hid (∀ w, Calls Try.prog 17 #[.int .i64 a, .int .i64 b] w (OneGrown s w))) (C8 : Hid (∀ w, Calls Try.prog 17 #[.int .i64 b, .int .i64 a] w (OneGrown s w))) :
    Calls Try.prog 6 #[.int .i64 a, .int .i64 b] w (Yes w) := by
  go_enter Try.func6, Try.ntmps6
  go_wp2_with (first
    | (go_at_call 10; refine (awake _).mono ?_; rintro e w1 ⟨rfl, hg⟩)
    | (go_at_call 11; first | ((with_reducible refine (C1.out _).mono ?_); rintro e w' ⟨rfl, rfl⟩) | ((with_reducible refine (C2.out _).mono ?_); rintro e w' ⟨rfl, rfl⟩))
    | (go_at_call 15; first | ((with_reducible refine (C3.out _).mono ?_); rintro e w' ⟨rfl, rfl⟩) | ((with_reducible refine (C4.out _).mono ?_); rintro e w' ⟨rfl, rfl⟩) | ((with_reducible refine (C5.out _).mono ?_); rintro e w' ⟨rfl, rfl⟩) | ((with_reducible refine (C6.out _).mono ?_); rintro e w' ⟨rfl, rfl⟩))
    | (go_at_call 17; first | ((with_reducible refine (C7.out _).mono ?_); rintro e w2 ⟨rfl, hg2⟩) | ((with_reducible refine (C8.out _).mono ?_); rintro e w3 ⟨rfl, hg3⟩)))
  go_ret; exact ⟨rfl, grown_trans (grown_trans hg hg2) hg3⟩

theorem turned (a b : Int) (w : World) (ha : I64 a) (hb : I64 b) :
    Calls Try.prog 6 #[.int .i64 a, .int .i64 b] w (Yes w) := by
  have i0 : I64 0 := by unfold I64; omega
  have i1 : I64 1 := by unfold I64; omega
  refine turned_as a b _ _ _ _ _ w (Lib.hid fun w => add a b w ha hb) (Lib.hid fun w => ?_) (Lib.hid fun w => mul a b w ha hb) (Lib.hid fun w => ?_) (Lib.hid fun w => ?_) (Lib.hid fun w => ?_) (Lib.hid fun w => sat a b w ha hb) (Lib.hid fun w => ?_)
  · rw [Int.add_comm a b]; exact add b a w hb ha
  · rw [Int.mul_comm a b]; exact mul b a w hb ha
  · have h := mul a 1 w ha i1
    rwa [Int.mul_one, only_in ha, fits_in ha] at h
  · have h := mul 0 a w i0 ha
    rwa [Int.zero_mul, only_in i0, fits_in i0] at h
  · rw [Int.add_comm a b]; exact sat b a w hb ha

theorem spreads_as (a b c s l m n r : Int) (is can x y z : Bool) (w : World)
    (C1 : Hid (∀ w, Calls Try.prog 11 #[.int .i64 b, .int .i64 c] w (Two s is w))) (C2 : Hid (∀ w, Calls Try.prog 15 #[.int .i64 a, .int .i64 s] w (Two l can w)))
    (C3 : Hid (∀ w, Calls Try.prog 15 #[.int .i64 a, .int .i64 b] w (Two m x w))) (C4 : Hid (∀ w, Calls Try.prog 15 #[.int .i64 a, .int .i64 c] w (Two n y w))) (C5 : Hid (∀ w, Calls Try.prog 11 #[.int .i64 m, .int .i64 n] w (Two r z w)))
    (k : is = true → can = true → x = true → y = true → z = true ∧ l = r) :
    Calls Try.prog 7 #[.int .i64 a, .int .i64 b, .int .i64 c] w (Yes w) := by
  have go (hh : is = false ∨ is = true ∧ can = false ∨ is = true ∧ can = true ∧ x = false ∨ is = true ∧ can = true ∧ x = true ∧ y = false ∨ is = true ∧ can = true ∧ x = true ∧ y = true ∧ z = true ∧ l = r) :
      Calls Try.prog 7 #[.int .i64 a, .int .i64 b, .int .i64 c] w (Yes w) := by
    clear k
    rcases hh with rfl | ⟨rfl, rfl⟩ | ⟨rfl, rfl, rfl⟩ | ⟨rfl, rfl, rfl, rfl⟩ | ⟨rfl, rfl, rfl, rfl, rfl, rfl⟩
    all_goals
      go_enter Try.func7, Try.ntmps7
      go_wp2_with (first
        | (go_at_call 10; refine (awake _).mono ?_; rintro e w1 ⟨rfl, hg⟩)
        | (go_at_call 11; first | ((with_reducible refine (C1.out _).mono ?_); rintro e w' ⟨rfl, rfl⟩) | ((with_reducible refine (C5.out _).mono ?_); rintro e w' ⟨rfl, rfl⟩))
        | (go_at_call 15; first | ((with_reducible refine (C2.out _).mono ?_); rintro e w' ⟨rfl, rfl⟩) | ((with_reducible refine (C3.out _).mono ?_); rintro e w' ⟨rfl, rfl⟩) | ((with_reducible refine (C4.out _).mono ?_); rintro e w' ⟨rfl, rfl⟩)))
      go_ret; exact ⟨rfl, hg⟩
  apply go
  cases is
  · exact Or.inl rfl
  cases can
  · exact Or.inr (Or.inl ⟨rfl, rfl⟩)
  cases x
  · exact Or.inr (Or.inr (Or.inl ⟨rfl, rfl, rfl⟩))
  cases y
  · exact Or.inr (Or.inr (Or.inr (Or.inl ⟨rfl, rfl, rfl, rfl⟩)))
  · exact Or.inr (Or.inr (Or.inr (Or.inr ⟨rfl, rfl, rfl, rfl, k rfl rfl rfl rfl⟩)))

theorem spreads (a b c : Int) (w : World) (ha : I64 a) (hb : I64 b) (hc : I64 c) :
    Calls Try.prog 7 #[.int .i64 a, .int .i64 b, .int .i64 c] w (Yes w) := by
  refine spreads_as a b c _ _ _ _ _ _ _ _ _ _ w (Lib.hid fun w => add b c w hb hc) (Lib.hid fun w => mul a _ w ha (i64_only _)) (Lib.hid fun w => mul a b w ha hb) (Lib.hid fun w => mul a c w ha hc) (Lib.hid fun w => add _ _ w (i64_only _) (i64_only _)) ?_
  intro h1 h2 h3 h4
  rw [only_in ((fits_iff _).1 h1)] at h2 ⊢
  rw [only_in ((fits_iff _).1 h3), only_in ((fits_iff _).1 h4), ← Int.mul_add]
  exact ⟨h2, rfl⟩

theorem ends_up_as (a b c s n t p q : Int) (is : Bool) (w : World) (hbc : b < c)
    (C1 : Hid (∀ w, Calls Try.prog 17 #[.int .i64 a, .int .i64 b] w (OneGrown s w))) (C2 : Hid (∀ w, Calls Try.prog 11 #[.int .i64 a, .int .i64 b] w (Two n is w))) (C3 : Hid (∀ w, Calls Try.prog 17 #[.int .i64 a, .int .i64 c] w (OneGrown t w)))
    (C4 : Hid (∀ w, Calls Try.prog 19 #[.int .i64 a, .int .i64 b] w (OneGrown p w))) (C5 : Hid (∀ w, Calls Try.prog 19 #[.int .i64 a, .int .i64 c] w (OneGrown q w)))
    (k : is = true ∧ s = n ∨ is = false ∧ 0 < b ∧ s = 9223372036854775807 ∨ is = false ∧ b < 0 ∧ s = -9223372036854775808) (k1 : s ≤ t) (k2 : q ≤ p) :
    Calls Try.prog 8 #[.int .i64 a, .int .i64 b, .int .i64 c] w (Yes w) := by
  rcases k with ⟨rfl, rfl⟩ | ⟨rfl, hb, rfl⟩ | ⟨rfl, hb, rfl⟩
  all_goals
    go_enter Try.func8, Try.ntmps8
    go_wp2_with (first
      | (go_at_call 10; refine (awake _).mono ?_; rintro e w1 ⟨rfl, hg⟩)
      | (go_at_call 11; first | ((with_reducible refine (C2.out _).mono ?_); rintro e w' ⟨rfl, rfl⟩))
      | (go_at_call 17; first | ((with_reducible refine (C1.out _).mono ?_); rintro e w2 ⟨rfl, hg2⟩) | ((with_reducible refine (C3.out _).mono ?_); rintro e w3 ⟨rfl, hg3⟩))
      | (go_at_call 19; first | ((with_reducible refine (C4.out _).mono ?_); rintro e w4 ⟨rfl, hg4⟩) | ((with_reducible refine (C5.out _).mono ?_); rintro e w5 ⟨rfl, hg5⟩)))
    all_goals first | (exfalso; omega) | (go_ret; exact ⟨rfl, grown_trans (grown_trans (grown_trans (grown_trans hg hg2) hg3) hg4) hg5⟩)

theorem ends_eq_as (a b c s n p : Int) (is : Bool) (w : World) (hbc : c ≤ b)
    (C1 : Hid (∀ w, Calls Try.prog 17 #[.int .i64 a, .int .i64 b] w (OneGrown s w))) (C2 : Hid (∀ w, Calls Try.prog 11 #[.int .i64 a, .int .i64 b] w (Two n is w)))
    (C4 : Hid (∀ w, Calls Try.prog 19 #[.int .i64 a, .int .i64 b] w (OneGrown p w)))
    (k : is = true ∧ s = n ∨ is = false ∧ 0 < b ∧ s = 9223372036854775807 ∨ is = false ∧ b < 0 ∧ s = -9223372036854775808) :
    Calls Try.prog 8 #[.int .i64 a, .int .i64 b, .int .i64 c] w (Yes w) := by
  rcases k with ⟨rfl, rfl⟩ | ⟨rfl, hb, rfl⟩ | ⟨rfl, hb, rfl⟩
  all_goals
    go_enter Try.func8, Try.ntmps8
    go_wp2_with (first
      | (go_at_call 10; refine (awake _).mono ?_; rintro e w1 ⟨rfl, hg⟩)
      | (go_at_call 11; first | ((with_reducible refine (C2.out _).mono ?_); rintro e w' ⟨rfl, rfl⟩))
      | (go_at_call 17; first | ((with_reducible refine (C1.out _).mono ?_); rintro e w2 ⟨rfl, hg2⟩; have hg := grown_trans hg hg2; clear hg2))
      | (go_at_call 19; first | ((with_reducible refine (C4.out _).mono ?_); rintro e w2 ⟨rfl, hg2⟩; have hg := grown_trans hg hg2; clear hg2)))
    all_goals first | (exfalso; omega) | (go_ret; exact ⟨rfl, by assumption⟩)

theorem ends_in {n : Int} (h : I64 n) : ends n = n := by
  unfold ends; unfold I64 at h; (repeat' split) <;> omega
theorem ends_le {n m : Int} (h : n ≤ m) : ends n ≤ ends m := by
  unfold ends; (repeat' split) <;> omega
theorem ends_which (a b : Int) (ha : I64 a) : fits (a + b) = true ∧ ends (a + b) = only (a + b) ∨ fits (a + b) = false ∧ 0 < b ∧ ends (a + b) = 9223372036854775807 ∨ fits (a + b) = false ∧ b < 0 ∧ ends (a + b) = -9223372036854775808 := by
  by_cases h : I64 (a + b)
  · exact Or.inl ⟨fits_in h, by rw [ends_in h, only_in h]⟩
  · rw [fits_out h]
    unfold I64 at *
    unfold ends
    (repeat' split) <;> simp <;> omega

theorem endsLaw (a b c : Int) (w : World) (ha : I64 a) (hb : I64 b) (hc : I64 c) :
    Calls Try.prog 8 #[.int .i64 a, .int .i64 b, .int .i64 c] w (Yes w) := by
  have k := ends_which a b ha
  by_cases h : b < c
  · exact ends_up_as a b c _ _ _ _ _ _ w h (Lib.hid fun w => sat a b w ha hb) (Lib.hid fun w => add a b w ha hb) (Lib.hid fun w => sat a c w ha hc) (Lib.hid fun w => less a b w ha hb) (Lib.hid fun w => less a c w ha hc) k (ends_le (by omega)) (ends_le (by omega))
  · exact ends_eq_as a b c _ _ _ _ w (by omega) (Lib.hid fun w => sat a b w ha hb) (Lib.hid fun w => add a b w ha hb) (Lib.hid fun w => less a b w ha hb) k
end Go.Proofs.Ytjdokpeiefcijaa.Fix
