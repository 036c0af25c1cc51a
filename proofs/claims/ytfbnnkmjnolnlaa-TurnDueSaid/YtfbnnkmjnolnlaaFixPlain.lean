/- Plain whole numbers of 64 bits: sums, differences, products and what is held of them, and facts about them; nothing of a program. Conditions: as each fact states them. -/
import Derived.IntWalk
namespace Go.Proofs.Ytfbnnkmjnolnlaa.Fix
set_option linter.unusedVariables false

def I64 (n : Int) : Prop := -9223372036854775808 ≤ n ∧ n ≤ 9223372036854775807
def only (n : Int) : Int := if -9223372036854775808 ≤ n ∧ n ≤ 9223372036854775807 then n else 0
def fits (n : Int) : Bool := decide (-9223372036854775808 ≤ n ∧ n ≤ 9223372036854775807)
def ends (n : Int) : Int := if n < -9223372036854775808 then -9223372036854775808 else if 9223372036854775807 < n then 9223372036854775807 else n
def hold (n low high : Int) : Int := if n < low then low else if high < n then high else n

theorem only_in {n : Int} (h : I64 n) : only n = n := if_pos h
theorem only_out {n : Int} (h : ¬ I64 n) : only n = 0 := if_neg h
theorem fits_in {n : Int} (h : I64 n) : fits n = true := decide_eq_true h
theorem fits_out {n : Int} (h : ¬ I64 n) : fits n = false := decide_eq_false h
theorem i64_only (n : Int) : I64 (only n) := by
  unfold only I64; split <;> omega
theorem i64_ends (n : Int) : I64 (ends n) := by
  unfold ends I64; split <;> (try split) <;> omega
theorem i64_hold {n low high : Int} (a : I64 n) (b : I64 low) (c : I64 high) : I64 (hold n low high) := by
  unfold hold; split <;> (try split) <;> assumption

theorem tdiv_near (p b : Int) (hb : b ≠ 0) : p - b * p.tdiv b < (b.natAbs : Int) ∧ -(b.natAbs : Int) < p - b * p.tdiv b := by
  have e := Int.tmod_add_mul_tdiv p b
  have e1 := Int.natAbs_tmod p b
  have e2 : p.natAbs % b.natAbs < b.natAbs := Nat.mod_lt _ (by omega)
  omega

/-- A product that has run over, divided again, is not what was multiplied. -/
theorem mul_tells (a b k : Int) (hb : I64 b) (h0 : b ≠ 0) (hk : k ≠ 0) : (a * b + k * 18446744073709551616).tdiv b ≠ a := by
  intro h
  have n := tdiv_near (a * b + k * 18446744073709551616) b h0
  rw [h, Int.mul_comm b a] at n
  unfold I64 at hb
  omega

theorem tdiv_i64 (p b : Int) (hp : I64 p) (hb : b ≠ -1) : I64 (p.tdiv b) := by
  unfold I64 at *
  have e : (p.tdiv b).natAbs = p.natAbs / b.natAbs := Int.natAbs_tdiv p b
  by_cases h0 : b = 0
  · subst h0; simp
  by_cases h1 : b = 1
  · subst h1; simpa using hp
  have l : p.natAbs / b.natAbs ≤ p.natAbs / 2 := Nat.div_le_div_left (by omega) (by omega)
  rw [← e] at l
  omega

theorem size_mul (a b : Int) : ((a * b).natAbs : Int) = a.natAbs * b.natAbs := by
  rw [Int.natAbs_mul]; rfl
end Go.Proofs.Ytfbnnkmjnolnlaa.Fix
