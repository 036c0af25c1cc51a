/- Plain whole numbers of 64 and of 128 bits: products, quotients, rests, and the long division by halves of words; nothing of a program. Conditions: as each fact states them. -/
import Derived.IntWalk
import Derived.Laws.Bits64b
import Derived.Lib.ItoaNum
import Derived.Lib.BitFns
import Derived.Lib.Mul64
namespace Go.Proofs.Ytfbnnkmjnolnlaa.Wide
set_option linter.unusedVariables false

def U64 (n : Int) : Prop := 0 ≤ n ∧ n ≤ 18446744073709551615
/-- Quotient, rest, and whether there is one, of a times b, divided by c. -/
def divs (a b c : Int) : Prop := 1 ≤ c ∧ a * b / c ≤ 18446744073709551615
def quo (a b c : Int) : Int := if 1 ≤ c ∧ a * b / c ≤ 18446744073709551615 then a * b / c else 0
def rst (a b c : Int) : Int := if 1 ≤ c ∧ a * b / c ≤ 18446744073709551615 then a * b % c else 0
def can (a b c : Int) : Bool := decide (1 ≤ c ∧ a * b / c ≤ 18446744073709551615)
def ups (a b c : Int) : Int := if can a b c then (if rst a b c = 0 then quo a b c else if quo a b c = 18446744073709551615 then 0 else quo a b c + 1) else 0
def upc (a b c : Int) : Bool := can a b c && (rst a b c == 0 || quo a b c != 18446744073709551615)
def cmpr (a b c d : Int) : Int := if a * b < c * d then -1 else if a * b = c * d then 0 else 1

/-- What is known of a division whose divisor has its highest bit, by halves: Y the divisor, n1 and n0 its halves, u, u1 and u0 what is divided. -/
structure Half (N y p Y n1 n0 u u1 u0 : Int) : Prop where
  hY : Y = y * p
  hp : 1 ≤ p
  hy : 1 ≤ y
  hn : Y = n1 * 4294967296 + n0
  a1 : 2147483648 ≤ n1
  a2 : n1 ≤ 4294967295
  b1 : 0 ≤ n0
  b2 : n0 ≤ 4294967295
  c1 : 0 ≤ u
  c2 : u < Y
  d1 : 0 ≤ u1
  d2 : u1 ≤ 4294967295
  e1 : 0 ≤ u0
  e2 : u0 ≤ 4294967295
  hN : N * p = (u * 4294967296 + u1) * 4294967296 + u0

theorem guess_first (Y n1 n0 u : Int) (hn : Y = n1 * 4294967296 + n0) (a1 : 2147483648 ≤ n1) (b2 : n0 ≤ 4294967295) (c1 : 0 ≤ u) (c2 : u < Y) :
    0 ≤ u / n1 ∧ u / n1 ≤ 4294967297 ∧ u / n1 * n1 + (u - u / n1 * n1) = u ∧ 0 ≤ u - u / n1 * n1 ∧ u - u / n1 * n1 < n1 := by
  have k1 : 0 ≤ u / n1 := Int.ediv_nonneg c1 (by omega)
  have k2 : u / n1 < 4294967298 := (Int.ediv_lt_iff_lt_mul (by omega)).2 (by omega)
  have k3 := Int.emod_add_mul_ediv u n1
  have k4 := Int.emod_nonneg u (b := n1) (by omega)
  have k5 := Int.emod_lt_of_pos u (b := n1) (by omega)
  rw [Int.mul_comm n1] at k3
  omega

theorem mul_parts (q n1 n0 Y : Int) (hn : Y = n1 * 4294967296 + n0) : q * Y = q * n1 * 4294967296 + q * n0 := by
  rw [hn, Int.mul_add, Int.mul_assoc]

/-- The guess is too great where the test says so. -/
theorem guess_more (Y n1 n0 u v q r : Int) (hn : Y = n1 * 4294967296 + n0) (a1 : 2147483648 ≤ n1) (b1 : 0 ≤ n0) (c2 : u < Y) (d2 : v ≤ 4294967295) (k : q * n1 + r = u)
    (h : 4294967296 ≤ q ∨ 4294967296 * r + v < q * n0) : (u * 4294967296 + v) / Y ≤ q - 1 := by
  have e := mul_parts q n1 n0 Y hn
  rcases h with h | h
  · have : (u * 4294967296 + v) / Y < 4294967296 := (Int.ediv_lt_iff_lt_mul (by omega)).2 (by omega)
    omega
  · have : (u * 4294967296 + v) / Y < q := (Int.ediv_lt_iff_lt_mul (by omega)).2 (by omega)
    omega

/-- The guess is not too great where the test says that. -/
theorem guess_less (Y n1 n0 u v q r : Int) (hn : Y = n1 * 4294967296 + n0) (a1 : 2147483648 ≤ n1) (b1 : 0 ≤ n0) (k : q * n1 + r = u)
    (h : q * n0 ≤ 4294967296 * r + v) : q ≤ (u * 4294967296 + v) / Y := by
  have e := mul_parts q n1 n0 Y hn
  exact (Int.le_ediv_iff_mul_le (by omega)).2 (by omega)

theorem guess_end (Y n1 n0 u v q r : Int) (hn : Y = n1 * 4294967296 + n0) (a1 : 2147483648 ≤ n1) (b1 : 0 ≤ n0) (b2 : n0 ≤ 4294967295) (d1 : 0 ≤ v) (k : q * n1 + r = u)
    (q0 : 0 ≤ q) (q1 : q ≤ 4294967296) (hr : 4294967296 ≤ r) : q ≤ (u * 4294967296 + v) / Y := by
  refine guess_less Y n1 n0 u v q r hn a1 b1 k ?_
  have := Int.mul_le_mul q1 b2 b1 (by omega)
  omega

theorem guess_start (Y n1 n0 u v : Int) (hn : Y = n1 * 4294967296 + n0) (a1 : 2147483648 ≤ n1) (b1 : 0 ≤ n0) (b2 : n0 ≤ 4294967295) (c1 : 0 ≤ u) (c2 : u < Y) (d2 : v ≤ 4294967295) :
    (u * 4294967296 + v) / Y ≤ u / n1 := by
  have k3 := Int.emod_add_mul_ediv u n1
  have k5 := Int.emod_lt_of_pos u (b := n1) (by omega)
  have k1 : 0 ≤ u / n1 := Int.ediv_nonneg c1 (by omega)
  have e := mul_parts (u / n1 + 1) n1 n0 Y hn
  have e5 : (u / n1 + 1) * n1 = n1 * (u / n1) + n1 := by rw [Int.add_mul, Int.one_mul, Int.mul_comm]
  rw [e5] at e
  have k6 : 0 ≤ (u / n1 + 1) * n0 := Int.mul_nonneg (by omega) b1
  have : (u * 4294967296 + v) / Y < u / n1 + 1 := (Int.ediv_lt_iff_lt_mul (by omega)).2 (by omega)
  omega
theorem quot_pos (Y u v : Int) (hY : 0 ≤ Y) (c1 : 0 ≤ u) (d1 : 0 ≤ v) : 0 ≤ (u * 4294967296 + v) / Y := Int.ediv_nonneg (by omega) hY

theorem quot_top (Y u v : Int) (hY : 0 < Y) (c2 : u < Y) (d2 : v ≤ 4294967295) : (u * 4294967296 + v) / Y ≤ 4294967295 := by
  have : (u * 4294967296 + v) / Y < 4294967296 := (Int.ediv_lt_iff_lt_mul hY).2 (by omega)
  omega
theorem guess_step (u n1 q r : Int) (k : q * n1 + r = u) : (q - 1) * n1 + (r + n1) = u := by rw [Int.sub_mul, Int.one_mul]; omega
theorem guess_stop (Y n1 n0 u v q r : Int) (hn : Y = n1 * 4294967296 + n0) (a1 : 2147483648 ≤ n1) (b1 : 0 ≤ n0) (b2 : n0 ≤ 4294967295) (d1 : 0 ≤ v) (k : q * n1 + r = u)
    (q0 : 1 ≤ q) (q1 : q ≤ 4294967297) (hr : 4294967296 ≤ r + n1) (h : (u * 4294967296 + v) / Y ≤ q - 1) : q - 1 = (u * 4294967296 + v) / Y := by
  have := guess_end Y n1 n0 u v (q - 1) (r + n1) hn a1 b1 b2 d1 (guess_step u n1 q r k) (by omega) (by omega) hr
  omega

/-- Two quotients of halves make up the whole one. -/
theorem half_whole (N y p Y n1 n0 u u1 u0 : Int) (H : Half N y p Y n1 n0 u u1 u0) :
    (u * 4294967296 + u1) / Y * 4294967296 + ((u * 4294967296 + u1) % Y * 4294967296 + u0) / Y = N / y ∧
    ((u * 4294967296 + u1) % Y * 4294967296 + u0) % Y = N % y * p := by
  have hYp : 0 < Y := by have := H.a1; have := H.hn; have := H.b1; omega
  have e1 := Int.emod_add_mul_ediv (u * 4294967296 + u1) Y
  have e2 : N * p = ((u * 4294967296 + u1) % Y * 4294967296 + u0) + Y * ((u * 4294967296 + u1) / Y * 4294967296) := by
    rw [H.hN]
    conv => lhs; rw [← e1]
    rw [Int.add_mul, Int.mul_assoc]; omega
  have hp := H.hp
  have hy := H.hy
  have e3 : N * p / Y = N / y := by rw [H.hY, Int.mul_ediv_mul_of_pos_left _ _ (by omega)]
  have e4 : N * p % Y = N % y * p := by
    rw [H.hY, Int.mul_comm N p, Int.mul_comm y p, Int.mul_emod_mul_of_pos _ _ (by omega), Int.mul_comm]
  constructor
  · rw [← e3, e2, Int.add_mul_ediv_left _ _ (by omega)]; omega
  · rw [← e4, e2, Int.add_mul_emod_self_left]

theorem pow_cast (n : Nat) : ((2 ^ n : Nat) : Int) = (2 : Int) ^ n := by simp

/-- Whatever is divided, made so that the divisor has its highest bit. -/
theorem norm (h l y s : Nat) (h2 : h < y) (h3 : y < 18446744073709551616) (l1 : l < 18446744073709551616) (hs : s = 64 - Lib.bitLen y) :
    s ≤ 63 ∧ y * 2 ^ s < 18446744073709551616 ∧ 9223372036854775808 ≤ y * 2 ^ s ∧ h * 2 ^ s < 18446744073709551616 ∧ (h * 2 ^ s ||| l / 2 ^ (64 - s)) = h * 2 ^ s + l / 2 ^ (64 - s) ∧ h * 2 ^ s + l / 2 ^ (64 - s) < y * 2 ^ s ∧
    (h * 18446744073709551616 + l) * 2 ^ s = (h * 2 ^ s + l / 2 ^ (64 - s)) * 18446744073709551616 + l * 2 ^ s % 18446744073709551616 := by
  obtain ⟨b4, b2, b1⟩ : 1 ≤ Lib.bitLen y ∧ 2 ^ (Lib.bitLen y - 1) ≤ y ∧ y < 2 ^ Lib.bitLen y := Lib.bitLenAux_bounds 64 y (by omega) (by omega)
  have b3 : Lib.bitLen y ≤ 64 := Lib.bitLen_le y 64 (by omega) (by omega)
  have e1 : 2 ^ (Lib.bitLen y) * 2 ^ s = 18446744073709551616 := by
    rw [← Nat.pow_add, show Lib.bitLen y + s = 64 from by omega]
  have e2 : 2 ^ (Lib.bitLen y - 1) * 2 ^ s = 9223372036854775808 := by
    rw [← Nat.pow_add, show Lib.bitLen y - 1 + s = 63 from by omega]
  have p0 : 0 < 2 ^ s := Nat.two_pow_pos s
  have k1 : y * 2 ^ s < 18446744073709551616 := by rw [← e1]; exact Nat.mul_lt_mul_of_pos_right b1 p0
  have k2 : 9223372036854775808 ≤ y * 2 ^ s := by rw [← e2]; exact Nat.mul_le_mul_right _ b2
  have k3 : (h + 1) * 2 ^ s ≤ y * 2 ^ s := Nat.mul_le_mul_right _ h2
  rw [Nat.add_mul, Nat.one_mul] at k3
  have e3 : 2 ^ (64 - s) * 2 ^ s = 18446744073709551616 := by
    rw [← Nat.pow_add, show 64 - s + s = 64 from by omega]
  have k4 : l / 2 ^ (64 - s) < 2 ^ s := by
    rw [Nat.div_lt_iff_lt_mul (Nat.two_pow_pos _), Nat.mul_comm, e3]; exact l1
  have k5 : l * 2 ^ s / 18446744073709551616 = l / 2 ^ (64 - s) := by
    rw [← e3, Nat.mul_div_mul_right _ _ p0]
  refine ⟨by omega, k1, k2, by omega, ?_, by omega, ?_⟩
  · rw [Nat.mul_comm h, Nat.two_pow_add_eq_or_of_lt k4]
  · have := Nat.mod_add_div (l * 2 ^ s) 18446744073709551616
    rw [k5] at this
    rw [Nat.add_mul, Nat.add_mul, Nat.mul_right_comm h]
    omega
end Go.Proofs.Ytfbnnkmjnolnlaa.Wide
