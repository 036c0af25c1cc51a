/- What each gets, and a ring, as plain numbers. Conditions: none. -/
import Derived.Test.YthphileaaoeamaaRows
namespace Go.Proofs.Ythphileaaoeamaa.Fifo
set_option linter.unusedVariables false
set_option linter.unusedSimpArgs false

def I64 (x : Int) : Prop := -9223372036854775808 ≤ x ∧ x ≤ 9223372036854775807
/-- A need in whole slices. -/
def whole (n s : Int) : Int := if n % s = 0 then n else if 9223372036854775807 - (s - n % s) < n then n else n + (s - n % s)
/-- What one gets. -/
def part (n p s : Int) : Int := if n ≤ 0 ∨ p ≤ 0 ∨ s < 1 then 0 else min (whole n s) p
/-- What is left when k of them have had theirs. -/
def left (z : Nat → Int) (p s : Int) : Nat → Int
  | 0 => p
  | k + 1 => left z p s k - part (z k) (left z p s k) s
theorem whole_bd {n s : Int} (hn : 0 < n) (h1 : n ≤ 9223372036854775807) (hs : 1 ≤ s) : n ≤ whole n s ∧ whole n s ≤ 9223372036854775807 := by
  have h2 := Int.emod_lt_of_pos n (show 0 < s by omega)
  have h3 := Int.emod_nonneg n (show s ≠ 0 by omega)
  unfold whole
  split
  · omega
  · split <;> omega
theorem part_none {n p s : Int} (h : n ≤ 0 ∨ p ≤ 0 ∨ s < 1) : part n p s = 0 := if_pos h
theorem part_some {n p s : Int} (h1 : ¬ n ≤ 0) (h2 : ¬ p ≤ 0) (h3 : ¬ s < 1) : part n p s = min (whole n s) p := if_neg (by omega)
theorem part_bd {n p s : Int} (h1 : n ≤ 9223372036854775807) : 0 ≤ part n p s ∧ (part n p s = 0 ∨ part n p s ≤ p) := by
  by_cases h : n ≤ 0 ∨ p ≤ 0 ∨ s < 1
  · rw [part_none h]; omega
  · have := whole_bd (n := n) (s := s) (by omega) h1 (by omega)
    rw [part_some (by omega) (by omega) (by omega)]; omega
theorem part_i64 {n p s : Int} (hn : I64 n) (hp : I64 p) : I64 (part n p s) ∧ I64 (p - part n p s) := by
  unfold I64 at *
  have := part_bd (n := n) (p := p) (s := s) hn.2
  omega
theorem left_i64 {z : Nat → Int} {p s : Int} (hp : I64 p) : ∀ k : Nat, (∀ j, j < k → I64 (z j)) → I64 (left z p s k)
  | 0, _ => hp
  | k + 1, h => (part_i64 (h k (by omega)) (left_i64 hp k fun j hj => h j (by omega))).2
theorem left_pos {z : Nat → Int} {p s : Int} (hp : 0 ≤ p) : ∀ k : Nat, (∀ j, j < k → I64 (z j)) → 0 ≤ left z p s k
  | 0, _ => hp
  | k + 1, h => by
    have h1 := left_pos (s := s) hp k fun j hj => h j (by omega)
    have h2 := part_bd (n := z k) (p := left z p s k) (s := s) (h k (by omega)).2
    show 0 ≤ left z p s k - part (z k) (left z p s k) s
    omega
/-- Who gets less than it needs leaves nothing. -/
theorem part_less {n p s : Int} (h1 : n ≤ 9223372036854775807) (hs : 1 ≤ s) : (n ≤ 0 → part n p s = 0) ∧ (part n p s < n → p - part n p s ≤ 0) := by
  by_cases h : n ≤ 0 ∨ p ≤ 0 ∨ s < 1
  · rw [part_none h]; omega
  · have := whole_bd (n := n) (s := s) (by omega) h1 (by omega)
    rw [part_some (by omega) (by omega) (by omega)]; omega
/-- Who leaves something gets whole slices, the least number that is enough. -/
theorem part_whole {n p s : Int} (h0 : 0 ≤ n) (h1 : n ≤ 4294967295) (hs : 1 ≤ s) (h2 : s ≤ 65535) (hp : 0 < p - part n p s) : part n p s % s = 0 ∧ n ≤ part n p s ∧ part n p s - n < s := by
  have e2 := Int.emod_lt_of_pos n (show 0 < s by omega)
  have e3 := Int.emod_nonneg n (show s ≠ 0 by omega)
  have pb := part_bd (n := n) (p := p) (s := s) (by omega)
  by_cases h : n ≤ 0
  · rw [part_none (.inl h)]; simp; omega
  · have ps := part_some (n := n) (p := p) (s := s) h (by omega) (by omega)
    rw [ps] at hp ⊢
    have hw : min (whole n s) p = whole n s := by omega
    rw [hw]
    unfold whole
    split
    · omega
    · rw [if_neg (by omega)]
      refine ⟨?_, by omega, by omega⟩
      have := Int.mul_ediv_add_emod n s
      rw [show n + (s - n % s) = s * (n / s + 1) by rw [Int.mul_add, Int.mul_one]; omega]
      exact Int.mul_emod_right _ _
/-- The document's reckoning of the same. -/
theorem whole_doc {n s : Int} (hn : 0 < n) (h1 : n ≤ 9223372036854775807) (hs : 1 ≤ s) :
    (n / s * s = n → whole n s = n) ∧ (n / s * s ≠ n → 9223372036854775807 / s ≤ n / s → whole n s = n) ∧ (n / s * s ≠ n → n / s < 9223372036854775807 / s → whole n s = (n / s + 1) * s ∧ (n / s + 1) * s ≤ 9223372036854775807) := by
  have e2 := Int.emod_lt_of_pos n (show 0 < s by omega)
  have e3 := Int.emod_nonneg n (show s ≠ 0 by omega)
  have e := Int.mul_ediv_add_emod n s
  have f2 := Int.emod_lt_of_pos 9223372036854775807 (show 0 < s by omega)
  have f3 := Int.emod_nonneg 9223372036854775807 (show s ≠ 0 by omega)
  have f := Int.mul_ediv_add_emod 9223372036854775807 s
  rw [Int.mul_comm s] at e f
  have g : (n / s + 1) * s = n / s * s + s := by rw [Int.add_mul, Int.one_mul]
  refine ⟨fun h => ?_, fun h h2 => ?_, fun h h2 => ?_⟩
  · unfold whole; rw [if_pos (by omega)]
  · unfold whole; rw [if_neg (by omega)]
    have m : 9223372036854775807 / s * s ≤ n / s * s := Int.mul_le_mul_of_nonneg_right h2 (by omega)
    rw [if_pos (by omega)]
  · have m : (n / s + 1) * s ≤ 9223372036854775807 / s * s := Int.mul_le_mul_of_nonneg_right (by omega) (by omega)
    refine ⟨?_, by omega⟩
    unfold whole; rw [if_neg (by omega), if_neg (by omega)]; omega

/-- How many stand ahead of one, or -1. -/
def ahd (xs : List Int) (p : Int) : Int := if p ∈ xs then xs.idxOf p else -1
theorem ahd_in {xs : List Int} {p : Int} (h : p ∈ xs) : ahd xs p = xs.idxOf p ∧ xs.idxOf p < xs.length := ⟨if_pos h, List.idxOf_lt_length_of_mem h⟩
theorem ahd_out {xs : List Int} {p : Int} (h : p ∉ xs) : ahd xs p = -1 := if_neg h
theorem idx_of {xs : List Int} {p : Int} {k : Nat} (h : xs[k]? = some p) (hb : ∀ j, j < k → xs[j]? ≠ some p) : ahd xs p = k := by
  have hm : p ∈ xs := List.mem_of_getElem? h
  rw [ahd, if_pos hm]
  have hk := (List.getElem?_eq_some_iff.1 h).1
  have h1 : xs.idxOf p ≤ k := by
    rcases Nat.lt_or_ge k (xs.idxOf p) with hl | hl
    · have := List.not_of_lt_findIdx (p := (· == p)) (xs := xs) hl
      rw [List.getElem?_eq_getElem hk] at h
      simp at h
      simp [h] at this
    · exact hl
  have h2 : ¬ xs.idxOf p < k := fun hl => by
    refine hb _ hl ?_
    rw [List.getElem?_eq_getElem (by omega), List.getElem_idxOf]
  omega
theorem not_in {xs : List Int} {p : Int} (hb : ∀ j, j < xs.length → xs[j]? ≠ some p) : p ∉ xs := by
  intro h
  obtain ⟨j, hj, e⟩ := List.getElem_of_mem h
  exact hb j hj (by rw [List.getElem?_eq_getElem hj, e])

/-- May one be put? -/
def may (xs : List Int) (p : Int) : Bool := !decide (p < 0) && !decide (64 ≤ xs.length) && !decide (p ∈ xs)
def putL (xs : List Int) (p : Int) : List Int := if may xs p then xs ++ [p] else xs
/-- A line: nobody twice, and 64 at most. -/
structure Good (xs : List Int) : Prop where
  once : xs.Nodup
  few : xs.length ≤ 64
  i64 : ∀ x ∈ xs, 0 ≤ x ∧ x ≤ 9223372036854775807
theorem Good.nil : Good [] := ⟨List.nodup_nil, by simp, by simp⟩
theorem Good.tail {xs : List Int} (h : Good xs) : Good xs.tail := ⟨h.once.sublist (List.tail_sublist xs), by have := h.few; simp; omega, fun x hx => h.i64 x (List.mem_of_mem_tail hx)⟩
theorem Good.erase {xs : List Int} (h : Good xs) (p : Int) : Good (xs.erase p) := ⟨h.once.sublist List.erase_sublist, Nat.le_trans List.erase_sublist.length_le h.few, fun x hx => h.i64 x (List.mem_of_mem_erase hx)⟩
theorem Good.put {xs : List Int} (h : Good xs) {p : Int} (hp : p ≤ 9223372036854775807) : Good (putL xs p) := by
  unfold putL
  split
  · rename_i hm
    simp only [may, Bool.and_eq_true, Bool.not_eq_true', decide_eq_false_iff_not] at hm
    obtain ⟨⟨h1, h2⟩, h3⟩ := hm
    refine ⟨?_, by simp; omega, ?_⟩
    · rw [List.nodup_append]
      refine ⟨h.once, by simp, ?_⟩
      intro a ha b hb
      simp at hb
      subst hb
      exact fun e => h3 (e ▸ ha)
    · intro x hx
      rcases List.mem_append.1 hx with hx | hx
      · exact h.i64 x hx
      · simp at hx; omega
  · exact h
theorem erase_filter {xs : List Int} (h : xs.Nodup) (p : Int) : xs.erase p = xs.filter (fun x => !decide (x = p)) := by
  rw [h.erase_eq_filter]
  congr 1
end Go.Proofs.Ythphileaaoeamaa.Fifo
