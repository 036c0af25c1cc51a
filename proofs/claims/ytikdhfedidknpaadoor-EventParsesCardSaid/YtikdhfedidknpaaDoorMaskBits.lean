/- What each of package mask's calls on bits returns, and math/bits' count of trailing zeros. Conditions: each argument is a number of its kind; the listed table holds what it is listed with. -/
import Derived.Test.YtikdhfedidknpaaDoorMaskLaid
import Derived.WalkKit
import Derived.Laws.Bits64b
import Derived.Laws.BitsAllLaws
import Derived.Handy
import Derived.IntWalk
import Derived.WalkMore
import Derived.WalkSmall
import Derived.Lib.Hide
namespace Go.Proofs.YtikdhfedidknpaaDoor.Mask
open Go.ChangeShapes Go.WideShapes Go.ChangeAt Go.RowKit
set_option linter.unusedVariables false
set_option linter.unusedSimpArgs false

def IsU (m : Nat) (w : World) (e : Ending) (w' : World) : Prop := e = .returned (.int .u64 m) ∧ w' = w
def IsI (m : Int) (w : World) (e : Ending) (w' : World) : Prop := e = .returned (.int .i64 m) ∧ w' = w
def IsB (b : Bool) (w : World) (e : Ending) (w' : World) : Prop := e = .returned (.bool b) ∧ w' = w

theorem key64 (x a : Nat) (hx : x < 18446744073709551616) (hx0 : x ≠ 0) (hlow : x &&& (18446744073709551616 - x) = a) :
    IntKind.u64.wrap (bits BinOp.and IntKind.u64 (x : Int) (IntKind.u64.wrap (-(x : Int))) * 285870213051353865) / 288230376151711744 = ((a * 285870213051353865 % 18446744073709551616 / 288230376151711744 : Nat) : Int) := by
  have e1 : IntKind.u64.wrap (-(x : Int)) = ((18446744073709551616 - x : Nat) : Int) := by rw [IntKind.wrap_u64]; omega
  rw [e1, bits_and_u64_nat x _ hx (by omega), hlow, IntKind.wrap_u64]
  omega

set_option maxRecDepth 100000 in
theorem tz_core (x k idx : Nat) (w : World) (hx0 : ((x : Int) == 0) = false)
    (key : IntKind.u64.wrap (bits BinOp.and IntKind.u64 (x : Int) (IntKind.u64.wrap (-(x : Int))) * 285870213051353865) / 288230376151711744 = (idx : Int))
    (hi : idx < 64) (hk : k < 64) (hcell : w.cell? ⟨2, idx, none⟩ = some (.int .u8 (k : Int))) :
    Calls Tryd.prog 69 #[.int .u64 x] w (IsI k w) := by
  go_enter Tryd.func69, Tryd.ntmps69
  go_wp2_with (simp only [key])
  go_ret
  exact ⟨rfl, rfl⟩

/-- How many trailing zeros. -/
def tz (x : Nat) : Nat := Lib.ctz 64 x

theorem tz64 (x : Nat) (hx : x < 18446744073709551616) (w : World) (hT : Tab w) :
    Calls Tryd.prog 69 #[.int .u64 x] w (IsI (tz x) w) := by
  by_cases hx0 : x = 0
  · subst hx0
    go_enter Tryd.func69, Tryd.ntmps69
    go_wp2
    go_ret
    exact ⟨rfl, rfl⟩
  · obtain ⟨hlow, hk⟩ := Lib.lowest_bit 64 x hx0 hx
    obtain ⟨hi, htab⟩ := Lib.deBruijn64_at _ hk
    refine tz_core x (tz x) _ w (by simpa using hx0) (key64 x _ hx hx0 hlow) hi hk ?_
    rw [hT _ hi]
    congr 2
    unfold tabZ tz
    rw [List.getD_eq_getElem?_getD, List.getElem?_map]
    rw [List.getD_eq_getElem?_getD] at htab
    cases h : Lib.deBruijn64tab[2 ^ Lib.ctz 64 x * 285870213051353865 % 18446744073709551616 / 288230376151711744]? with
    | none =>
      rw [h] at htab
      rw [← htab]
      rfl
    | some v =>
      rw [h] at htab
      rw [← htab]
      rfl

/-- The least one. -/
def fst (m : Nat) : Int := if m = 0 then -1 else (tz m : Int)

theorem first (m : Nat) (hm : m < 18446744073709551616) (w : World) (hT : Tab w) : Calls Tryd.prog 68 #[.int .u64 m] w (IsI (fst m) w) := by
  unfold fst
  by_cases h : m = 0
  · subst h
    go_enter Tryd.func68, Tryd.ntmps68
    go_wp2
    go_ret
    exact ⟨rfl, rfl⟩
  · rw [if_neg h]
    have h' : ((m : Int) == 0) = false := by simpa using h
    go_enter Tryd.func68, Tryd.ntmps68
    go_wp2_with (go_at_call 69; refine (tz64 m hm _ hT).mono ?_; rintro e w1 ⟨rfl, rfl⟩)
    go_ret
    exact ⟨rfl, rfl⟩

/-- Those below n. -/
def onl (m : Nat) (n : Int) : Nat := m % 2 ^ min n.toNat 64

theorem andmask (m k : Nat) (hm : m < 18446744073709551616) (hk : k < 64) : bits .and .u64 (m : Int) (IntKind.u64.wrap (IntKind.u64.wrap (2 ^ k) - 1)) = ((m % 2 ^ k : Nat) : Int) := by
  have hp : 2 ^ k < 18446744073709551616 := Nat.pow_lt_pow_right (by decide) (show k < 64 from hk)
  have hp0 : 0 < 2 ^ k := Nat.pow_pos (by decide)
  have e2 : (2 ^ k : Int) = ((2 ^ k : Nat) : Int) := by simp
  rw [e2]
  have e3 : IntKind.u64.wrap (IntKind.u64.wrap ((2 ^ k : Nat) : Int) - 1) = ((2 ^ k - 1 : Nat) : Int) := by
    rw [IntKind.wrap_u64, IntKind.wrap_u64]; omega
  rw [e3, bits_and_u64_nat m _ hm (by omega), Nat.and_two_pow_sub_one_eq_mod]

theorem only (m : Nat) (n : Int) (hm : m < 18446744073709551616) (w : World) : Calls Tryd.prog 86 #[.int .u64 m, .int .i64 n] w (IsU (onl m n) w) := by
  by_cases h : 64 ≤ n
  · have e : onl m n = m := by
      unfold onl
      rw [show min n.toNat 64 = 64 by omega]
      exact Nat.mod_eq_of_lt hm
    rw [e]
    go_enter Tryd.func86, Tryd.ntmps86
    go_wp2
    go_ret
    exact ⟨rfl, rfl⟩
  · by_cases h0 : 0 ≤ n
    · obtain ⟨k, rfl⟩ : ∃ k : Nat, n = k := ⟨n.toNat, by omega⟩
      have key := andmask m k hm (by omega)
      have e : onl m k = m % 2 ^ k := by unfold onl; rw [show min (k : Int).toNat 64 = k by omega]
      rw [e]
      go_enter Tryd.func86, Tryd.ntmps86
      go_wp2
      go_ret
      first | exact ⟨congrArg (fun z => Ending.returned (.int .u64 z)) key, rfl⟩ | exact ⟨congrArg (fun z => Ending.returned (.int .u64 z)) (by simp), rfl⟩
    · have key := andmask m 0 hm (by omega)
      have e : onl m n = m % 2 ^ 0 := by unfold onl; rw [show min n.toNat 64 = 0 by omega]
      rw [e]
      go_enter Tryd.func86, Tryd.ntmps86
      go_wp2
      go_ret
      first | exact ⟨congrArg (fun z => Ending.returned (.int .u64 z)) key, rfl⟩ | exact ⟨congrArg (fun z => Ending.returned (.int .u64 z)) (by simp), rfl⟩

theorem only_all (n : Int) (w : World) : Calls Tryd.prog 86 #[.int .u64 18446744073709551615, .int .i64 n] w (IsU (2 ^ min n.toNat 64 - 1) w) := by
  have h := only 18446744073709551615 n (by decide) w
  have e : onl 18446744073709551615 n = 2 ^ min n.toNat 64 - 1 := by
    unfold onl
    have hk : min n.toNat 64 ≤ 64 := by omega
    generalize min n.toNat 64 = k at hk
    revert k
    decide
  rw [e] at h
  exact h

/-- All from f to l. -/
def rw' (f l : Nat) : Nat := 2 ^ (l + 1) - 2 ^ f

theorem rw_bit (f l i : Nat) (h : f ≤ l) : (rw' f l).testBit i = (decide (f ≤ i) && decide (i ≤ l)) := by
  have e : rw' f l = 2 ^ f * (2 ^ (l + 1 - f) - 1) := by
    unfold rw'
    rw [Nat.mul_sub, Nat.mul_one, ← Nat.pow_add, show f + (l + 1 - f) = l + 1 by omega]
  rw [e, Nat.testBit_two_pow_mul, Nat.testBit_two_pow_sub_one]
  by_cases h1 : f ≤ i <;> by_cases h2 : i ≤ l <;> simp [h1, h2] <;> omega

theorem rw_lt (f l : Nat) (hl : l < 64) : rw' f l < 18446744073709551616 := by
  have : 2 ^ (l + 1) ≤ 2 ^ 64 := Nat.pow_le_pow_right (by decide) (by omega)
  have : 0 < 2 ^ f := Nat.pow_pos (by decide)
  unfold rw'
  omega

theorem not_bit (b i : Nat) (hb : b < 18446744073709551616) : (18446744073709551615 - b).testBit i = (decide (i < 64) && !b.testBit i) := by
  have := Nat.testBit_two_pow_sub_succ (x := b) (n := 64) hb i
  rw [← this]
  congr 1
  omega

theorem row_bits (f l : Nat) (h : f ≤ l) (hl : l < 64) : bits .andNot .u64 ((2 ^ min (l + 1) 64 - 1 : Nat) : Int) ((2 ^ min f 64 - 1 : Nat) : Int) = (rw' f l : Int) := by
  rw [show min (l + 1) 64 = l + 1 by omega, show min f 64 = f by omega]
  have h1 : 2 ^ (l + 1) ≤ 2 ^ 64 := Nat.pow_le_pow_right (by decide) (by omega)
  have h2 : 2 ^ f ≤ 2 ^ 64 := Nat.pow_le_pow_right (by decide) (by omega)
  have p1 : 0 < 2 ^ (l + 1) := Nat.pow_pos (by decide)
  have p2 : 0 < 2 ^ f := Nat.pow_pos (by decide)
  rw [u64_andNot_nat _ _ (by omega) (by omega)]
  congr 1
  apply Nat.eq_of_testBit_eq
  intro i
  rw [Nat.testBit_and, not_bit _ _ (by omega), Nat.testBit_two_pow_sub_one, Nat.testBit_two_pow_sub_one, rw_bit f l i h]
  by_cases h1 : f ≤ i <;> by_cases h2 : i ≤ l <;> simp [h1, h2] <;> omega

theorem row (f l : Nat) (w : World) (h : f ≤ l) (hl : l < 64) : Calls Tryd.prog 71 #[.int .i64 f, .int .i64 l] w (IsU (rw' f l) w) := by
  go_enter Tryd.func71, Tryd.ntmps71
  go_wp2_with (go_at_call 86; refine (only_all _ _).mono ?_; rintro e w1 ⟨rfl, rfl⟩)
  go_ret
  exact ⟨congrArg (fun z => Ending.returned (.int .u64 z)) (row_bits f l h hl), rfl⟩

/-- Whether one is in. -/
def has' (m : Nat) (p : Int) : Bool := decide (0 ≤ p) && m.testBit p.toNat

theorem has_bits (m k : Nat) (hm : m < 18446744073709551616) : (bits .and .u64 ((m : Int) / 2 ^ min k 64) 1 == 1) = has' m k := by
  have e : ((m : Int) / 2 ^ min k 64) = ((m / 2 ^ min k 64 : Nat) : Int) := by simp
  have hlt : m / 2 ^ min k 64 < 18446744073709551616 := Nat.lt_of_le_of_lt (Nat.div_le_self _ _) hm
  rw [e, show (1 : Int) = ((1 : Nat) : Int) from rfl, bits_and_u64_nat _ _ hlt (by decide)]
  have hk : m.testBit (min k 64) = m.testBit k := by
    by_cases h : k ≤ 64
    · rw [Nat.min_eq_left h]
    · rw [Nat.min_eq_right (by omega), Nat.testBit_lt_two_pow (show m < 2 ^ 64 from hm)]
      rw [Nat.testBit_lt_two_pow (Nat.lt_of_lt_of_le (show m < 2 ^ 64 from hm) (Nat.pow_le_pow_right (by decide) (by omega)))]
  unfold has'
  rw [show (k : Int).toNat = k by omega, ← hk, Nat.testBit_eq_decide_div_mod_eq, Nat.and_one_is_mod]
  have : (decide (0 ≤ (k : Int))) = true := by simp
  rw [this, Bool.true_and]
  rcases Nat.mod_two_eq_zero_or_one (m / 2 ^ min k 64) with h | h <;> rw [h] <;> rfl

end Go.Proofs.YtikdhfedidknpaaDoor.Mask
