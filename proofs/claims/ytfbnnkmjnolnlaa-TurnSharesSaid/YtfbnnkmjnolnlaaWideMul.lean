/- What wide.multiply and wide.MulDiv return, and that nothing that lay there before has changed: at all words of 64 bits. Conditions: each argument is a number of its kind. -/
import Derived.Test.YtfbnnkmjnolnlaaWideQuo
namespace Go.Proofs.Ytfbnnkmjnolnlaa.Wide
open Go.ChangeShapes Go.WideShapes Go.ChangeAt Go.RowKit
set_option linter.unusedVariables false

def hi (a b : Int) : Int := a * b / 18446744073709551616
def lo (a b : Int) : Int := a * b % 18446744073709551616

theorem mul64 (a b : Int) (w : World) (ha : U64 a) (hb : U64 b) :
    Calls Try.prog 43 #[.int .u64 a, .int .u64 b] w (Pair (hi a b) (lo a b) w) := by
  unfold U64 at ha hb
  obtain ⟨a, rfl⟩ := Int.eq_ofNat_of_zero_le ha.1
  obtain ⟨b, rfl⟩ := Int.eq_ofNat_of_zero_le hb.1
  refine (Try.bits_Mul64 a b (by omega) (by omega) w).mono ?_
  rintro e w' ⟨rfl, rfl⟩
  refine pair_of ?_ ?_
  · unfold hi; rw [← Int.natCast_mul]; omega
  · unfold lo; rw [← Int.natCast_mul]; omega

theorem prod_bd (a b : Int) (ha : U64 a) (hb : U64 b) : 0 ≤ a * b ∧ a * b ≤ 340282366920938463426481119284349108225 := by
  unfold U64 at ha hb
  refine ⟨Int.mul_nonneg ha.1 hb.1, ?_⟩
  have := Int.mul_le_mul ha.2 hb.2 hb.1 (by omega)
  omega
theorem hi_bd (a b : Int) (ha : U64 a) (hb : U64 b) : U64 (hi a b) := by
  have := prod_bd a b ha hb
  unfold U64 hi; omega
theorem lo_bd (a b : Int) (ha : U64 a) (hb : U64 b) : U64 (lo a b) := by
  have := prod_bd a b ha hb
  unfold U64 lo; omega
theorem hi_lo (a b : Int) : hi a b * 18446744073709551616 + lo a b = a * b := by unfold hi lo; omega

def AggFresh (a b : Int) (w : World) (e : Ending) (w' : World) : Prop := e = .returned (.agg #[.int .u64 a, .int .u64 b]) ∧ Below w.heap.size w w'

theorem multiply (a b : Int) (w : World) (ha : U64 a) (hb : U64 b) :
    Calls Try.prog 35 #[.int .u64 a, .int .u64 b] w (AggFresh (hi a b) (lo a b) w) := by
  go_enter Try.func35, Try.ntmps35
  go_wp2_with (go_at_call 43; refine (mul64 a b _ ha hb).mono ?_; rintro e w' ⟨rfl, rfl⟩)
  refine bodyPost_ret (v := .agg #[.int .u64 (hi a b), .int .u64 (lo a b)]) (by simp [results, Try.results35, go_sem]) rfl ⟨rfl, ?_⟩
  go_grown

def TripleFresh (a b : Int) (is : Bool) (w : World) (e : Ending) (w' : World) : Prop := e = .returned (.tuple #[.int .u64 a, .int .u64 b, .bool is]) ∧ Below w.heap.size w w'
theorem triple_of {a b c d : Int} {x y : Bool} {w w' : World} (h : a = c) (k : b = d) (l : x = y) (g : Below w.heap.size w w') : TripleFresh c d y w (.returned (.tuple #[.int .u64 a, .int .u64 b, .bool x])) w' := by subst h; subst k; subst l; exact ⟨rfl, g⟩
theorem fresh_trans {a b c : World} (h : Below a.heap.size a b) (k : Below b.heap.size b c) : Below a.heap.size a c := h.trans (k.mono h.size)

theorem can_iff (a b c : Int) (ha : U64 a) (hb : U64 b) (hc : U64 c) : can a b c = true ↔ hi a b < c := by
  have p := prod_bd a b ha hb
  unfold U64 at hc
  unfold can hi
  rw [decide_eq_true_iff]
  constructor
  · rintro ⟨h1, h2⟩
    have : a * b < 18446744073709551616 * c := (Int.ediv_lt_iff_lt_mul (by omega)).1 (by omega)
    omega
  · intro h
    have h1 : 1 ≤ c := by omega
    refine ⟨h1, ?_⟩
    have : a * b / c < 18446744073709551616 := (Int.ediv_lt_iff_lt_mul (by omega)).2 (by omega)
    omega
theorem quo_in {a b c : Int} (h : can a b c = true) : quo a b c = a * b / c := if_pos (decide_eq_true_iff.1 h)
theorem rst_in {a b c : Int} (h : can a b c = true) : rst a b c = a * b % c := if_pos (decide_eq_true_iff.1 h)
theorem quo_out {a b c : Int} (h : can a b c = false) : quo a b c = 0 := if_neg (decide_eq_false_iff_not.1 h)
theorem rst_out {a b c : Int} (h : can a b c = false) : rst a b c = 0 := if_neg (decide_eq_false_iff_not.1 h)

def NumFresh (a : Int) (is : Bool) (w : World) (e : Ending) (w' : World) : Prop := e = .returned (.tuple #[.int .u64 a, .bool is]) ∧ Below w.heap.size w w'
theorem num_of {a c : Int} {x y : Bool} {w w' : World} (h : a = c) (l : x = y) (g : Below w.heap.size w w') : NumFresh c y w (.returned (.tuple #[.int .u64 a, .bool x])) w' := by subst h; subst l; exact ⟨rfl, g⟩
theorem quo_bd (a b c : Int) (ha : U64 a) (hb : U64 b) (hc : U64 c) : U64 (quo a b c) := by
  have p := prod_bd a b ha hb
  unfold quo; unfold U64 at *
  split
  · rename_i h; exact ⟨Int.ediv_nonneg p.1 (by omega), h.2⟩
  · omega
theorem rst_bd (a b c : Int) (ha : U64 a) (hb : U64 b) (hc : U64 c) : U64 (rst a b c) := by
  unfold rst; unfold U64 at *
  split
  · rename_i h
    have h1 := Int.emod_nonneg (a * b) (b := c) (by omega)
    have h2 := Int.emod_lt_of_pos (a * b) (b := c) (by omega)
    omega
  · omega

theorem mulDiv (a b c : Int) (w : World) (ha : U64 a) (hb : U64 b) (hc : U64 c) :
    Calls Try.prog 28 #[.int .u64 a, .int .u64 b, .int .u64 c] w (TripleFresh (quo a b c) (rst a b c) (can a b c) w) := by
  have k := can_iff a b c ha hb hc
  have hh := hi_bd a b ha hb
  have hl := lo_bd a b ha hb
  have HE := Lib.hid (hi_lo a b)
  unfold U64 at hc hh hl
  obtain ⟨c1, c2⟩ := hc; obtain ⟨d1, d2⟩ := hh; obtain ⟨e1, e2⟩ := hl
  by_cases h : hi a b < c
  · have K := Lib.hid (k.2 h)
    clear k
    go_enter Try.func28, Try.ntmps28
    go_wp2_with (first
      | (go_at_call 35; refine (multiply a b _ ha hb).mono ?_; rintro e w1 ⟨rfl, hg⟩; have hz := hg.size)
      | (go_at_call 36; refine (div64_any _ _ _ _ d1 h c2 e1 e2).mono ?_; rintro e w2 ⟨rfl, hg2⟩))
    go_ret3
    refine triple_of ?_ ?_ ?_ ?_
    · rw [quo_in K.out, HE.out]
    · rw [rst_in K.out, HE.out]
    · rw [K.out]
    · refine fresh_trans ?_ hg2
      go_grown
  · have K : Hid (can a b c = false) := Lib.hid (by rw [← Bool.not_eq_true, k]; exact h)
    clear k
    go_enter Try.func28, Try.ntmps28
    go_wp2_with (first
      | (go_at_call 35; refine (multiply a b _ ha hb).mono ?_; rintro e w1 ⟨rfl, hg⟩; have hz := hg.size))
    go_ret3
    refine triple_of (quo_out K.out).symm (rst_out K.out).symm K.out.symm ?_
    go_grown

end Go.Proofs.Ytfbnnkmjnolnlaa.Wide
