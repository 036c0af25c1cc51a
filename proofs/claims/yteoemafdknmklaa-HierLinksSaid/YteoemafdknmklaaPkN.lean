/- What HierLinks' calls answer of groups within one another; nothing of a program. Conditions: as each fact states them. -/
import Derived.Test.YteoemafdknmklaaPkL
import Derived.Test.YteoemafdknmklaaPkK
namespace Go.Proofs.Yteoemafdknmklaa.Hr
open Go.ChangeShapes Go.WideShapes Go.ChangeAt Go.RowKit Tree Queue
set_option linter.unusedVariables false
set_option linter.unusedSimpArgs false
set_option maxRecDepth 100000

/-- Groups within one another: the first within the root, each other one within the one before it. -/
def lk : Nat → Hs
  | 0 => newS 0 0
  | n + 1 => linkH (lk n) ((n : Int) + 1) n
def taskOf (t : Nat) : Ent := ⟨t, 1024, 0, 0⟩
def l1 (k d t : Nat) : Hs := putH (lk k) d (taskOf t)
def l2 (k d t : Nat) : Hs := linkH (l1 k d t) 31 0
def l3 (k d t : Nat) : Hs := dropH (l2 k d t) d t
def l4 (k d t : Nat) : Hs := moveH (l3 k d t) 1 31
def okErr (n : Nat) : Bool := (errLinkH (lk n) ((n : Int) + 1) n == 0) == decide (n + 1 ≤ 8)
def okAll (k d t : Nat) : Bool := errMoveH (lk k) 1 d == 10 && errPutH (lk k) d (taskOf t) == 0 && errUnlinkH (l1 k d t) d == 6 && errLinkH (l1 k d t) 31 0 == 0 &&
  errMoveH (l2 k d t) 1 31 == 6 && errDropH (l2 k d t) d t == 0 && errMoveH (l3 k d t) 1 31 == (if d < 8 then 0 else 5) && errUnlinkH (l4 k d t) d == 0
theorem lk_err0 : ((List.range 12).all okErr) = true := by decide +kernel
theorem lk_all0 : ((List.range 12).all fun k => (List.range 64).all fun t => okAll (k + 1) (min (k + 1) 8) t) = true := by decide +kernel
theorem lk_err {n : Nat} (hn : n < 12) : (errLinkH (lk n) ((n : Int) + 1) n = 0 ↔ n + 1 ≤ 8) := by
  have := List.all_eq_true.1 lk_err0 n (List.mem_range.2 hn)
  unfold okErr at this
  rw [beq_iff_eq] at this
  by_cases h : n + 1 ≤ 8
  · rw [decide_eq_true h] at this; simp only [beq_iff_eq] at this; exact ⟨fun _ => h, fun _ => this⟩
  · rw [decide_eq_false h] at this; simp only [beq_eq_false_iff_ne] at this; exact ⟨fun e => absurd e this, fun e => absurd e h⟩
theorem lk_all {k t : Nat} (hk : k < 12) (ht : t < 64) : errMoveH (lk (k + 1)) 1 (min (k + 1) 8 : Nat) = 10 ∧ errPutH (lk (k + 1)) (min (k + 1) 8 : Nat) (taskOf t) = 0 ∧ errUnlinkH (l1 (k + 1) (min (k + 1) 8) t) (min (k + 1) 8 : Nat) = 6 ∧
    errLinkH (l1 (k + 1) (min (k + 1) 8) t) 31 0 = 0 ∧ errMoveH (l2 (k + 1) (min (k + 1) 8) t) 1 31 = 6 ∧ errDropH (l2 (k + 1) (min (k + 1) 8) t) (min (k + 1) 8 : Nat) t = 0 ∧
    errMoveH (l3 (k + 1) (min (k + 1) 8) t) 1 31 = (if min (k + 1) 8 < 8 then 0 else 5) ∧ errUnlinkH (l4 (k + 1) (min (k + 1) 8) t) (min (k + 1) 8 : Nat) = 0 := by
  have := List.all_eq_true.1 (List.all_eq_true.1 lk_all0 k (List.mem_range.2 hk)) t (List.mem_range.2 ht)
  unfold okAll at this
  simp only [Bool.and_eq_true, beq_iff_eq, and_assoc] at this
  exact this
theorem lk_allk {k d t : Nat} (h1 : 1 ≤ k) (h2 : k ≤ 12) (hd : d = min k 8) (ht : t < 64) : errMoveH (lk k) 1 d = 10 ∧ errPutH (lk k) d (taskOf t) = 0 ∧ errUnlinkH (l1 k d t) d = 6 ∧
    errLinkH (l1 k d t) 31 0 = 0 ∧ errMoveH (l2 k d t) 1 31 = 6 ∧ errDropH (l2 k d t) d t = 0 ∧ errMoveH (l3 k d t) 1 31 = (if d < 8 then 0 else 5) ∧ errUnlinkH (l4 k d t) d = 0 := by
  obtain ⟨m, rfl⟩ : ∃ m, k = m + 1 := ⟨k - 1, by omega⟩
  subst hd
  exact lk_all (by omega) ht
theorem lk_fine : ∀ n, Fine (lk n)
  | 0 => fine_new (by unfold I64; omega) (by unfold I64; omega)
  | n + 1 => (lk_fine n).link _ _
theorem l1_fine (k d t : Nat) : Fine (l1 k d t) := (lk_fine k).put _ (by unfold taskOf I64; simp) (by unfold taskOf; simp)
theorem l2_fine (k d t : Nat) : Fine (l2 k d t) := (l1_fine k d t).link _ _
theorem l3_fine (k d t : Nat) : Fine (l3 k d t) := (l2_fine k d t).drop _ _
theorem l4_fine (k d t : Nat) : Fine (l4 k d t) := (l3_fine k d t).move _ _
end Go.Proofs.Yteoemafdknmklaa.Hr
