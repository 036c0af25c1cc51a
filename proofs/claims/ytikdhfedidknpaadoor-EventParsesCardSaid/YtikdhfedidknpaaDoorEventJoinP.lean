/- Two scripts one behind the other; what was read is written as a text that is no longer, numbers alone. Conditions: as each fact states them. -/
import Derived.Test.YtikdhfedidknpaaDoorEventBackP
namespace Go.Proofs.YtikdhfedidknpaaDoor.Event
open Go.RowKit
set_option linter.unusedVariables false
set_option linter.unusedSimpArgs false

theorem spl_join (c : UInt8) (l m : List UInt8) : spl c (l ++ c :: m) = spl c l ++ spl c m := by
  induction l with
  | nil => simp [spl]
  | cons x l ih =>
    rw [List.cons_append, spl]
    by_cases h : x = c
    · subst h
      rw [if_pos rfl, ih]
      simp [spl]
    · rw [if_neg h, ih]
      conv => rhs; rw [spl, if_neg h]
      cases hs : spl c l with
      | nil => exact absurd hs (spl_ne c l)
      | cons p ps => simp
def badOf (M : Mk) (rest : Bool) (ss : List (List UInt8)) (s : List UInt8) : Int := if rest && ss.isEmpty then 11 else (oneP M s).bad
theorem goP_cons (M : Mk) (rest : Bool) (s : List UInt8) (ss : List (List UInt8)) (i : Nat) (out : List Ev) : goP M rest (s :: ss) i out = if badOf M rest ss s ≠ 0 then ([], i, badOf M rest ss s) else goP M rest ss (i + 1) (out ++ [(oneP M s).e]) := rfl
theorem badOf_false (M : Mk) (ss : List (List UInt8)) (s : List UInt8) : badOf M false ss s = (oneP M s).bad := by unfold badOf; rfl
theorem goP_append (M : Mk) (rest : Bool) (A B : List (List UInt8)) (hB : rest = false ∨ B ≠ []) (i : Nat) (out : List Ev) :
    goP M rest (A ++ B) i out = if (goP M false A i out).2.2 ≠ 0 then goP M false A i out else goP M rest B (i + A.length) (goP M false A i out).1 := by
  induction A generalizing i out with
  | nil => simp [goP]
  | cons s A ih =>
    have he : badOf M rest (A ++ B) s = (oneP M s).bad := by
      unfold badOf
      have : (rest && (A ++ B).isEmpty) = false := by
        rcases hB with h | h
        · rw [h]; rfl
        · cases B with
          | nil => exact absurd rfl h
          | cons b B => simp
      rw [this]; rfl
    rw [List.cons_append, goP_cons, goP_cons, he, badOf_false]
    by_cases hb : (oneP M s).bad = 0
    · simp only [hb, ne_eq, not_true_eq_false, if_false]
      rw [ih]
      simp only [List.length_cons]
      rw [show i + 1 + A.length = i + (A.length + 1) by omega]
    · rw [if_pos hb, if_pos hb]
      simp [hb]
/-- Where there is anything wrong, nothing is told but the line. -/
theorem goP_bad (M : Mk) (rest : Bool) (A : List (List UInt8)) (i : Nat) (out : List Ev) (h : (goP M rest A i out).2.2 ≠ 0) : (goP M rest A i out).1 = [] := by
  induction A generalizing i out with
  | nil => simp [goP] at h
  | cons s A ih =>
    rw [goP_cons] at h ⊢
    by_cases hb : badOf M rest A s = 0
    · rw [if_neg (by simpa using hb)] at h ⊢
      exact ih _ _ h
    · rw [if_pos hb]
theorem goP_at (M : Mk) (rest : Bool) (A : List (List UInt8)) (i : Nat) (out : List Ev) (h : (goP M rest A i out).2.2 = 0) : (goP M rest A i out).2.1 = 0 := by
  induction A generalizing i out with
  | nil => rfl
  | cons s A ih =>
    rw [goP_cons] at h ⊢
    by_cases hb : badOf M rest A s = 0
    · rw [if_neg (by simpa using hb)] at h ⊢
      exact ih _ _ h
    · rw [if_pos hb] at h
      exact absurd h hb
/-- What is wrong does not hang on what was read before; what was read stands ahead. -/
theorem goP_out (M : Mk) (rest : Bool) (A : List (List UInt8)) (i : Nat) (out : List Ev) : ((goP M rest A i out).2.2 = (goP M rest A 0 []).2.2) ∧ ((goP M rest A 0 []).2.2 ≠ 0 → (goP M rest A i out).2.1 = i + (goP M rest A 0 []).2.1) ∧ ((goP M rest A 0 []).2.2 = 0 → (goP M rest A i out).1 = out ++ (goP M rest A 0 []).1) := by
  induction A generalizing i out with
  | nil => simp [goP]
  | cons s A ih =>
    rw [goP_cons, goP_cons]
    by_cases hb : badOf M rest A s = 0
    · rw [if_neg (by simpa using hb), if_neg (by simpa using hb)]
      obtain ⟨a1, a2, a3⟩ := ih (i + 1) (out ++ [(oneP M s).e])
      obtain ⟨b1, b2, b3⟩ := ih (0 + 1) ([] ++ [(oneP M s).e])
      refine ⟨a1.trans b1.symm, fun h => ?_, fun h => ?_⟩
      · rw [b1] at h
        rw [a2 h, b2 h]
        omega
      · rw [b1] at h
        rw [a3 h, b3 h]
        simp
    · rw [if_pos hb, if_pos hb]
      exact ⟨rfl, fun _ => by simp, fun h => absurd h hb⟩

/-! ### two scripts, one behind the other -/
theorem spl_last (l : List UInt8) (h : (spl 10 l).getLast? = some []) (h0 : l ≠ []) : (spl 10 l).dropLast ≠ [] := by
  intro e
  have h1 : spl 10 l = [[]] := by
    rcases List.eq_nil_or_concat (spl 10 l) with h2 | ⟨L, b, h2⟩
    · exact absurd h2 (spl_ne 10 l)
    · rw [List.concat_eq_append] at h2
      rw [h2, List.dropLast_concat] at e
      subst e
      rw [h2] at h ⊢
      simp at h
      rw [h]; rfl
  cases l with
  | nil => exact h0 rfl
  | cons x l =>
    unfold spl at h1
    by_cases hx : x = 10
    · rw [if_pos hx] at h1
      simp at h1
      exact spl_ne 10 l h1
    · rw [if_neg hx] at h1
      cases hs : spl 10 l with
      | nil => exact spl_ne 10 l hs
      | cons p ps => rw [hs] at h1; simp at h1
/-- A script whose last line is ended. -/
theorem parse_end (M : Mk) (s : List UInt8) : parseP M (s ++ [10]) = if 1000 < (spl 10 s).length then ([], 0, 3) else goP M false (spl 10 s) 0 [] := by
  have h1 : spl 10 (s ++ [10]) = spl 10 s ++ [[]] := spl_join 10 s []
  unfold parseP linesP
  rw [if_neg (by simp), h1]
  simp
theorem parse_join (M : Mk) (s t : List UInt8) : parseP M (s ++ 10 :: t) = if 1000 < (spl 10 s).length + (linesP t).1.length then ([], 0, 3) else goP M (linesP t).2 (spl 10 s ++ (linesP t).1) 0 [] := by
  have h1 : spl 10 (s ++ 10 :: t) = spl 10 s ++ spl 10 t := spl_join 10 s t
  have hlast : (spl 10 s ++ spl 10 t).getLast? = (spl 10 t).getLast? := by
    rw [List.getLast?_append]
    cases h : (spl 10 t).getLast? with
    | none => exact absurd (List.getLast?_eq_none_iff.1 h) (spl_ne 10 t)
    | some x => rfl
  unfold parseP linesP
  rw [if_neg (by simp)]
  simp only [h1, hlast]
  by_cases h : (spl 10 t).getLast? = some []
  · simp only [if_pos h]
    rw [List.dropLast_append_of_ne_nil (spl_ne 10 t), List.length_append]
  · simp only [if_neg h]
    rw [List.length_append]
theorem parse_lines (M : Mk) (t : List UInt8) : parseP M t = if 1000 < (linesP t).1.length then ([], 0, 3) else goP M (linesP t).2 (linesP t).1 0 [] := by
  unfold parseP
  by_cases h : t = []
  · subst h; rfl
  · rw [if_neg h]
/-- The law's own words. -/
theorem joins (M : Mk) (s t : List UInt8) (h1 : (parseP M (s ++ [10])).2.2 ≠ 3) (h2 : (parseP M (s ++ 10 :: t)).2.2 ≠ 3) :
    ((parseP M (s ++ [10])).2.2 ≠ 0 → (parseP M (s ++ 10 :: t)).2.2 = (parseP M (s ++ [10])).2.2 ∧ (parseP M (s ++ [10])).2.1 = (parseP M (s ++ 10 :: t)).2.1) ∧
    ((parseP M (s ++ [10])).2.2 = 0 → (parseP M t).2.2 ≠ 0 → (parseP M (s ++ 10 :: t)).2.2 = (parseP M t).2.2) ∧
    ((parseP M (s ++ [10])).2.2 = 0 → (parseP M t).2.2 = 0 → (parseP M (s ++ 10 :: t)).2.2 = 0 ∧ (parseP M (s ++ 10 :: t)).1 = (parseP M (s ++ [10])).1 ++ (parseP M t).1) := by
  rw [parse_end] at *
  rw [parse_join] at *
  rw [parse_lines M t] at *
  have c1 : ¬ 1000 < (spl 10 s).length + (linesP t).1.length := by
    intro h; rw [if_pos h] at h2; exact h2 rfl
  have c2 : ¬ 1000 < (spl 10 s).length := by omega
  have c3 : ¬ 1000 < (linesP t).1.length := by omega
  rw [if_neg c1, if_neg c2, if_neg c3] at *
  have hB : (linesP t).2 = false ∨ (linesP t).1 ≠ [] := by
    unfold linesP
    simp only
    split
    · exact .inl rfl
    · exact .inr (spl_ne 10 t)
  rw [goP_append M _ _ _ hB]
  obtain ⟨b1, b2, b3⟩ := goP_out M (linesP t).2 (linesP t).1 (0 + (spl 10 s).length) (goP M false (spl 10 s) 0 []).1
  refine ⟨fun h => ?_, fun h h3 => ?_, fun h h3 => ?_⟩
  · rw [if_pos h]; exact ⟨rfl, rfl⟩
  · rw [if_neg (by simpa using h)]; exact b1
  · rw [if_neg (by simpa using h)]
    exact ⟨b1.trans h3, b3 h3⟩
end Go.Proofs.YtikdhfedidknpaaDoor.Event
