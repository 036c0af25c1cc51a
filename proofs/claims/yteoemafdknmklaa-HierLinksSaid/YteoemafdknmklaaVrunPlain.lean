/- The document's numbers for package vrun: how far a vruntime goes on, what is left over, what is needed. Conditions: none. -/
import Derived.Test.YteoemafdknmklaaRows
namespace Go.Proofs.Yteoemafdknmklaa.Vrun
set_option linter.unusedVariables false

/-- The error of a charge; by how much a vruntime goes on; what is left over. -/
def cerr (x r t : Int) : Int := if x < 2 ∨ 262144 < x then 4 else if x ≤ r then 1 else if 1000000000 < t then 8 else 0
def cval (x r t : Int) : Int := if cerr x r t = 0 then (r + 1024 * t) / x else 0
def crem (x r t : Int) : Int := if cerr x r t = 0 then (r + 1024 * t) % x else 0
/-- The error of a need; how long it is. -/
def nerr (x r d : Int) : Int := if x < 2 ∨ 262144 < x then 4 else if x ≤ r ∨ d < 0 ∨ 1099511627776 < d then 1 else 0
def nval (x r d : Int) : Int := if nerr x r d = 0 then (if d * x ≤ r then 0 else (d * x - r + 1023) / 1024) else 0

theorem cerr_in {x r t : Int} (h1 : 2 ≤ x) (h2 : x ≤ 262144) (h3 : r < x) (h4 : t ≤ 1000000000) : cerr x r t = 0 := by
  unfold cerr; rw [if_neg (by omega), if_neg (by omega), if_neg (by omega)]
theorem cval_in {x r t : Int} (h1 : 2 ≤ x) (h2 : x ≤ 262144) (h3 : r < x) (h4 : t ≤ 1000000000) : cval x r t = (r + 1024 * t) / x := by
  unfold cval; rw [if_pos (cerr_in h1 h2 h3 h4)]
theorem crem_in {x r t : Int} (h1 : 2 ≤ x) (h2 : x ≤ 262144) (h3 : r < x) (h4 : t ≤ 1000000000) : crem x r t = (r + 1024 * t) % x := by
  unfold crem; rw [if_pos (cerr_in h1 h2 h3 h4)]
theorem nerr_in {x r d : Int} (h1 : 2 ≤ x) (h2 : x ≤ 262144) (h3 : r < x) (h4 : 0 ≤ d) (h5 : d ≤ 1099511627776) : nerr x r d = 0 := by
  unfold nerr; rw [if_neg (by omega), if_neg (by omega)]
theorem nval_in {x r d : Int} (h1 : 2 ≤ x) (h2 : x ≤ 262144) (h3 : r < x) (h4 : 0 ≤ d) (h5 : d ≤ 1099511627776) : nval x r d = if d * x ≤ r then 0 else (d * x - r + 1023) / 1024 := by
  unfold nval; rw [if_pos (nerr_in h1 h2 h3 h4 h5)]
theorem prod_bd {x d : Int} (h1 : 2 ≤ x) (h2 : x ≤ 262144) (h4 : 0 ≤ d) (h5 : d ≤ 1099511627776) : 0 ≤ d * x ∧ d * x ≤ 288230376151711744 :=
  ⟨Int.mul_nonneg h4 (by omega), Int.le_trans (Int.mul_le_mul h5 h2 (by omega) (by omega)) (by decide)⟩
theorem quot_bd {x r t : Int} (h1 : 2 ≤ x) (h3 : r < x) (hr : 0 ≤ r) (h2 : x ≤ 262144) (ht : 0 ≤ t) (h4 : t ≤ 1000000000) :
    0 ≤ (r + 1024 * t) / x ∧ (r + 1024 * t) / x ≤ 1099511627776 ∧ 0 ≤ (r + 1024 * t) % x ∧ (r + 1024 * t) % x < x := by
  refine ⟨Int.ediv_nonneg (by omega) (by omega), ?_, Int.emod_nonneg _ (by omega), Int.emod_lt_of_pos _ (by omega)⟩
  exact Int.le_trans (Int.ediv_le_self x (by omega)) (by omega)
end Go.Proofs.Yteoemafdknmklaa.Vrun
