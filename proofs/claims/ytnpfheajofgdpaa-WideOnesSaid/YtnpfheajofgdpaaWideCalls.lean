/- What each call of package wide returns: at all words of 64 bits. Conditions: each argument is a number of its kind. -/
import Derived.Test.YtnpfheajofgdpaaWideDiv
namespace Go.Proofs.Ytnpfheajofgdpaa.Wide
open Go.ChangeShapes Go.WideShapes Go.ChangeAt Go.RowKit
set_option linter.unusedVariables false

def hi (a b : Int) : Int := a * b / 18446744073709551616
def lo (a b : Int) : Int := a * b % 18446744073709551616

theorem mul64 (a b : Int) (w : World) (ha : U64 a) (hb : U64 b) :
    Calls Try.prog 22 #[.int .u64 a, .int .u64 b] w (Pair (hi a b) (lo a b) w) := by
  unfold U64 at ha hb
  obtain ⟨a, rfl⟩ := Int.eq_ofNat_of_zero_le ha.1
  obtain ⟨b, rfl⟩ := Int.eq_ofNat_of_zero_le hb.1
  refine (Try.bits_Mul64 a b (by omega) (by omega) w).mono ?_
  rintro e w' ⟨rfl, rfl⟩
  refine pair_of ?_ ?_
  · unfold hi; rw [← Int.natCast_mul]; omega
  · unfold lo; rw [← Int.natCast_mul]; omega

theorem prod_bd (a b : Int) (ha : U64 a) (hb : U64 b) : 0 ≤ a * b ∧ a * b ≤ 340282366920938463426481119284349108225 := by
  unfold U64 at ha hb
  refine ⟨Int.mul_nonneg ha.1 hb.1, ?_⟩
  have := Int.mul_le_mul ha.2 hb.2 hb.1 (by omega)
  omega
theorem hi_bd (a b : Int) (ha : U64 a) (hb : U64 b) : U64 (hi a b) := by
  have := prod_bd a b ha hb
  unfold U64 hi; omega
theorem lo_bd (a b : Int) (ha : U64 a) (hb : U64 b) : U64 (lo a b) := by
  have := prod_bd a b ha hb
  unfold U64 lo; omega
theorem hi_lo (a b : Int) : hi a b * 18446744073709551616 + lo a b = a * b := by unfold hi lo; omega

def AggGrown (a b : Int) (w : World) (e : Ending) (w' : World) : Prop := e = .returned (.agg #[.int .u64 a, .int .u64 b]) ∧ Grown w w'

theorem multiply (a b : Int) (w : World) (ha : U64 a) (hb : U64 b) :
    Calls Try.prog 17 #[.int .u64 a, .int .u64 b] w (AggGrown (hi a b) (lo a b) w) := by
  go_enter Try.func17, Try.ntmps17
  go_wp2_with (go_at_call 22; refine (mul64 a b _ ha hb).mono ?_; rintro e w' ⟨rfl, rfl⟩)
  refine bodyPost_ret (v := .agg #[.int .u64 (hi a b), .int .u64 (lo a b)]) (by simp [results, Try.results17, go_sem]) rfl ⟨rfl, ?_⟩
  go_grown

def TripleGrown (a b : Int) (is : Bool) (w : World) (e : Ending) (w' : World) : Prop := e = .returned (.tuple #[.int .u64 a, .int .u64 b, .bool is]) ∧ Grown w w'
theorem triple_of {a b c d : Int} {x y : Bool} {w w' : World} (h : a = c) (k : b = d) (l : x = y) (g : Grown w w') : TripleGrown c d y w (.returned (.tuple #[.int .u64 a, .int .u64 b, .bool x])) w' := by subst h; subst k; subst l; exact ⟨rfl, g⟩
theorem grown_trans {a b c : World} (h : Grown a b) (k : Grown b c) : Grown a c := ⟨World.keptBut_trans h.1 k.1, fun x => (k.2.1 x).trans (h.2.1 x), Nat.le_trans h.2.2 k.2.2⟩

theorem can_iff (a b c : Int) (ha : U64 a) (hb : U64 b) (hc : U64 c) : can a b c = true ↔ hi a b < c := by
  have p := prod_bd a b ha hb
  unfold U64 at hc
  unfold can hi
  rw [decide_eq_true_iff]
  constructor
  · rintro ⟨h1, h2⟩
    have : a * b < 18446744073709551616 * c := (Int.ediv_lt_iff_lt_mul (by omega)).1 (by omega)
    omega
  · intro h
    have h1 : 1 ≤ c := by omega
    refine ⟨h1, ?_⟩
    have : a * b / c < 18446744073709551616 := (Int.ediv_lt_iff_lt_mul (by omega)).2 (by omega)
    omega
theorem quo_in {a b c : Int} (h : can a b c = true) : quo a b c = a * b / c := if_pos (decide_eq_true_iff.1 h)
theorem rst_in {a b c : Int} (h : can a b c = true) : rst a b c = a * b % c := if_pos (decide_eq_true_iff.1 h)
theorem quo_out {a b c : Int} (h : can a b c = false) : quo a b c = 0 := if_neg (decide_eq_false_iff_not.1 h)
theorem rst_out {a b c : Int} (h : can a b c = false) : rst a b c = 0 := if_neg (decide_eq_false_iff_not.1 h)

def NumGrown (a : Int) (is : Bool) (w : World) (e : Ending) (w' : World) : Prop := e = .returned (.tuple #[.int .u64 a, .bool is]) ∧ Grown w w'
theorem num_of {a c : Int} {x y : Bool} {w w' : World} (h : a = c) (l : x = y) (g : Grown w w') : NumGrown c y w (.returned (.tuple #[.int .u64 a, .bool x])) w' := by subst h; subst l; exact ⟨rfl, g⟩
theorem quo_bd (a b c : Int) (ha : U64 a) (hb : U64 b) (hc : U64 c) : U64 (quo a b c) := by
  have p := prod_bd a b ha hb
  unfold quo; unfold U64 at *
  split
  · rename_i h; exact ⟨Int.ediv_nonneg p.1 (by omega), h.2⟩
  · omega
theorem rst_bd (a b c : Int) (ha : U64 a) (hb : U64 b) (hc : U64 c) : U64 (rst a b c) := by
  unfold rst; unfold U64 at *
  split
  · rename_i h
    have h1 := Int.emod_nonneg (a * b) (b := c) (by omega)
    have h2 := Int.emod_lt_of_pos (a * b) (b := c) (by omega)
    omega
  · omega

theorem mulDiv (a b c : Int) (w : World) (ha : U64 a) (hb : U64 b) (hc : U64 c) :
    Calls Try.prog 11 #[.int .u64 a, .int .u64 b, .int .u64 c] w (TripleGrown (quo a b c) (rst a b c) (can a b c) w) := by
  have k := can_iff a b c ha hb hc
  have hh := hi_bd a b ha hb
  have hl := lo_bd a b ha hb
  have HE := Lib.hid (hi_lo a b)
  unfold U64 at hc hh hl
  obtain ⟨c1, c2⟩ := hc; obtain ⟨d1, d2⟩ := hh; obtain ⟨e1, e2⟩ := hl
  by_cases h : hi a b < c
  · have K := Lib.hid (k.2 h)
    clear k
    go_enter Try.func11, Try.ntmps11
    go_wp2_with (first
      | (go_at_call 17; refine (multiply a b _ ha hb).mono ?_; rintro e w1 ⟨rfl, hg⟩)
      | (go_at_call 18; refine (div64_any _ _ _ _ d1 h c2 e1 e2).mono ?_; rintro e w2 ⟨rfl, hg2⟩))
    go_ret3
    refine triple_of ?_ ?_ ?_ ?_
    · rw [quo_in K.out, HE.out]
    · rw [rst_in K.out, HE.out]
    · rw [K.out]
    · refine grown_trans ?_ hg2
      go_grown
  · have K : Hid (can a b c = false) := Lib.hid (by rw [← Bool.not_eq_true, k]; exact h)
    clear k
    go_enter Try.func11, Try.ntmps11
    go_wp2_with (first
      | (go_at_call 17; refine (multiply a b _ ha hb).mono ?_; rintro e w1 ⟨rfl, hg⟩))
    go_ret3
    refine triple_of (quo_out K.out).symm (rst_out K.out).symm K.out.symm ?_
    go_grown

theorem up (a b c : Int) (w : World) (ha : U64 a) (hb : U64 b) (hc : U64 c) :
    Calls Try.prog 13 #[.int .u64 a, .int .u64 b, .int .u64 c] w (NumGrown (ups a b c) (upc a b c) w) := by
  have md := Lib.hid (fun w => mulDiv a b c w ha hb hc)
  have hq := quo_bd a b c ha hb hc
  obtain ⟨hq1, hq2⟩ := hq
  have U1 := Lib.hid (show ups a b c = _ from rfl)
  have U2 := Lib.hid (show upc a b c = _ from rfl)
  by_cases h1 : can a b c = true
  · by_cases h2 : rst a b c = 0
    · have h3 : (rst a b c == 0) = true := by simpa using h2
      go_enter Try.func13, Try.ntmps13
      go_wp2_with (go_at_call 11; refine (md.out _).mono ?_; rintro e w1 ⟨rfl, hg⟩)
      go_ret2
      exact num_of (by unfold ups; rw [h1, h2]; rfl) (by unfold upc; rw [h1, h2]; rfl) hg
    · have h3 : (rst a b c == 0) = false := by simpa using h2
      by_cases h4 : quo a b c = 18446744073709551615
      · have h5 : (quo a b c == 18446744073709551615) = true := by simpa using h4
        go_enter Try.func13, Try.ntmps13
        go_wp2_with (go_at_call 11; refine (md.out _).mono ?_; rintro e w1 ⟨rfl, hg⟩)
        go_ret2
        exact num_of (by unfold ups; rw [if_pos h1, if_neg h2, if_pos h4]) (by unfold upc; rw [h1, h3, h4]; rfl) hg
      · have h5 : (quo a b c == 18446744073709551615) = false := by simpa using h4
        go_enter Try.func13, Try.ntmps13
        go_wp2_with (go_at_call 11; refine (md.out _).mono ?_; rintro e w1 ⟨rfl, hg⟩)
        go_ret2
        exact num_of (by unfold ups; rw [if_pos h1, if_neg h2, if_neg h4]) (by unfold upc; rw [h1, h3, bne, h5]; rfl) hg
  · have h1 : can a b c = false := by simpa using h1
    have h2 := quo_out h1
    go_enter Try.func13, Try.ntmps13
    go_wp2_with (go_at_call 11; refine (md.out _).mono ?_; rintro e w1 ⟨rfl, hg⟩)
    go_ret2
    exact num_of (by unfold ups; rw [h1]; rfl) (by unfold upc; rw [h1]; rfl) hg

def BoolGrown (b : Bool) (w : World) (e : Ending) (w' : World) : Prop := e = .returned (.bool b) ∧ Grown w w'
theorem bool_of {a b : Bool} {w w' : World} (h : a = b) (g : Grown w w') : BoolGrown b w (.returned (.bool a)) w' := by subst h; exact ⟨rfl, g⟩
def IntGrown (n : Int) (w : World) (e : Ending) (w' : World) : Prop := e = .returned (.int .i64 n) ∧ Grown w w'
theorem int_of {a b : Int} {w w' : World} (h : a = b) (g : Grown w w') : IntGrown b w (.returned (.int .i64 a)) w' := by subst h; exact ⟨rfl, g⟩

def under (h l k m : Int) : Bool := decide (h < k ∨ h = k ∧ l < m)

theorem below (h l k m : Int) (w : World) :
    Calls Try.prog 21 #[.agg #[.int .u64 h, .int .u64 l], .agg #[.int .u64 k, .int .u64 m]] w (BoolGrown (under h l k m) w) := by
  by_cases h1 : h = k
  · subst h1
    go_enter Try.func21, Try.ntmps21
    go_wp2
    go_ret
    refine bool_of ?_ (by go_grown)
    unfold under; simp
  · have h2 : (h != k) = true := by simpa using h1
    go_enter Try.func21, Try.ntmps21
    go_wp2
    go_ret
    refine bool_of ?_ (by go_grown)
    unfold under; simp [h1]

theorem cmpr_hi (a b c d : Int) (ha : U64 a) (hb : U64 b) (hc : U64 c) (hd : U64 d) :
    (hi a b = hi c d ∧ lo a b = lo c d → cmpr a b c d = 0) ∧ (under (hi a b) (lo a b) (hi c d) (lo c d) = true → cmpr a b c d = -1) ∧
    (¬ (hi a b = hi c d ∧ lo a b = lo c d) → under (hi a b) (lo a b) (hi c d) (lo c d) = false → cmpr a b c d = 1) := by
  have e1 := hi_lo a b
  have e2 := hi_lo c d
  have l1 := lo_bd a b ha hb
  have l2 := lo_bd c d hc hd
  unfold U64 at l1 l2
  unfold cmpr under
  simp only [decide_eq_true_iff, decide_eq_false_iff_not]
  generalize a * b = x at *
  generalize c * d = y at *
  refine ⟨fun h => ?_, fun h => ?_, fun h k => ?_⟩ <;> (split <;> (try split) <;> omega)

theorem cmp_grown {w w1 w2 w3 : World} {o1 o2 : Array Value} {t1 t2 : TypeId} (h1 : Grown w w1) (h2 : Grown w1 w2) (h3 : Grown ((w2.alloc (.cells o1 t1)).alloc (.cells o2 t2)) w3) : Grown w w3 :=
  grown_trans (((grown_trans h1 h2).alloc o1 t1).alloc o2 t2) h3

theorem compare (a b c d : Int) (w : World) (ha : U64 a) (hb : U64 b) (hc : U64 c) (hd : U64 d) :
    Calls Try.prog 15 #[.int .u64 a, .int .u64 b, .int .u64 c, .int .u64 d] w (IntGrown (cmpr a b c d) w) := by
  obtain ⟨k1, k2, k3⟩ := cmpr_hi a b c d ha hb hc hd
  have m1 := Lib.hid (fun w => multiply a b w ha hb)
  have m2 := Lib.hid (fun w => multiply c d w hc hd)
  generalize hi a b = h at *
  generalize lo a b = l at *
  generalize hi c d = k at *
  generalize lo c d = m at *
  by_cases h1 : h = k ∧ l = m
  · have K := Lib.hid (k1 h1)
    clear k1 k2 k3
    obtain ⟨rfl, rfl⟩ := h1
    go_enter Try.func15, Try.ntmps15
    go_wp2_with (go_at_call 17; first | ((with_reducible refine (m1.out _).mono ?_); rintro e w1 ⟨rfl, hg1⟩) | ((with_reducible refine (m2.out _).mono ?_); rintro e w2 ⟨rfl, hg2⟩))
    go_ret
    exact int_of K.out.symm (cmp_grown hg1 hg2 (Grown.refl _))
  · clear k1
    by_cases h2 : h = k
    · subst h2
      have h3 : (l == m) = false := by simp; omega
      by_cases hu : under h l h m = true
      · have K := Lib.hid (k2 hu)
        clear k2 k3
        go_enter Try.func15, Try.ntmps15
        go_wp2_with (first | (go_at_call 17; first | ((with_reducible refine (m1.out _).mono ?_); rintro e w1 ⟨rfl, hg1⟩) | ((with_reducible refine (m2.out _).mono ?_); rintro e w2 ⟨rfl, hg2⟩)) | (go_at_call 21; refine (below _ _ _ _ _).mono ?_; rintro e w3 ⟨rfl, hg3⟩))
        go_ret
        exact int_of K.out.symm (cmp_grown hg1 hg2 hg3)
      · have hu : under h l h m = false := by simpa using hu
        have K := Lib.hid (k3 h1 hu)
        clear k2 k3
        go_enter Try.func15, Try.ntmps15
        go_wp2_with (first | (go_at_call 17; first | ((with_reducible refine (m1.out _).mono ?_); rintro e w1 ⟨rfl, hg1⟩) | ((with_reducible refine (m2.out _).mono ?_); rintro e w2 ⟨rfl, hg2⟩)) | (go_at_call 21; refine (below _ _ _ _ _).mono ?_; rintro e w3 ⟨rfl, hg3⟩))
        go_ret
        exact int_of K.out.symm (cmp_grown hg1 hg2 hg3)
    · have h3 : (h == k) = false := by simpa using h2
      by_cases hu : under h l k m = true
      · have K := Lib.hid (k2 hu)
        clear k2 k3
        go_enter Try.func15, Try.ntmps15
        go_wp2_with (first | (go_at_call 17; first | ((with_reducible refine (m1.out _).mono ?_); rintro e w1 ⟨rfl, hg1⟩) | ((with_reducible refine (m2.out _).mono ?_); rintro e w2 ⟨rfl, hg2⟩)) | (go_at_call 21; refine (below _ _ _ _ _).mono ?_; rintro e w3 ⟨rfl, hg3⟩))
        go_ret
        exact int_of K.out.symm (cmp_grown hg1 hg2 hg3)
      · have hu : under h l k m = false := by simpa using hu
        have K := Lib.hid (k3 h1 hu)
        clear k2 k3
        go_enter Try.func15, Try.ntmps15
        go_wp2_with (first | (go_at_call 17; first | ((with_reducible refine (m1.out _).mono ?_); rintro e w1 ⟨rfl, hg1⟩) | ((with_reducible refine (m2.out _).mono ?_); rintro e w2 ⟨rfl, hg2⟩)) | (go_at_call 21; refine (below _ _ _ _ _).mono ?_; rintro e w3 ⟨rfl, hg3⟩))
        go_ret
        exact int_of K.out.symm (cmp_grown hg1 hg2 hg3)
end Go.Proofs.Ytnpfheajofgdpaa.Wide
