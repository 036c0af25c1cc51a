/- A script that was read: each event may be, and its text is no longer but for four bytes a line, numbers alone. Conditions: a mask's text is no longer than what it was read from. -/
import Derived.Test.YtikdhfedidknpaaDoorEventAgainP
namespace Go.Proofs.YtikdhfedidknpaaDoor.Event
open Go.RowKit
set_option linter.unusedVariables false
set_option linter.unusedSimpArgs false

theorem linesT_append (M : Mk) (l m : List Ev) : linesT M (l ++ m) = linesT M l ++ linesT M m := by simp [linesT]
theorem goP_inv {M : Mk} (hM : M.Good) (hS : M.Short) (rest : Bool) (A : List (List UInt8)) (i : Nat) (out : List Ev) (ho : ∀ e ∈ out, e.Ok ∧ may e = true) (h : (goP M rest A i out).2.2 = 0) :
    (∀ e ∈ (goP M rest A i out).1, e.Ok ∧ may e = true) ∧ (goP M rest A i out).1.length = out.length + A.length ∧ (linesT M (goP M rest A i out).1).length ≤ (linesT M out).length + (A.map List.length).sum + 5 * A.length ∧ (A ≠ [] → rest = false) := by
  induction A generalizing i out with
  | nil => exact ⟨ho, rfl, by simp [goP], fun h => absurd rfl h⟩
  | cons s A ih =>
    rw [goP_cons] at h ⊢
    by_cases hb : badOf M rest A s = 0
    · rw [if_neg (by simpa using hb)] at h ⊢
      have hone : (oneP M s).bad = 0 := by
        unfold badOf at hb
        split at hb
        · omega
        · exact hb
      obtain ⟨o1, o2, o3⟩ := one_inv hM hS hone
      obtain ⟨a1, a2, a3, a4⟩ := ih (i + 1) (out ++ [(oneP M s).e]) (fun e he => by
        rcases List.mem_append.1 he with he | he
        · exact ho e he
        · rw [List.mem_singleton] at he; subst he; exact ⟨o1, o2⟩) h
      refine ⟨a1, by rw [a2]; simp; omega, ?_, fun _ => ?_⟩
      · refine Nat.le_trans a3 ?_
        rw [linesT_append, List.length_append]
        have : (linesT M [(oneP M s).e]).length = (lineT M (oneP M s).e).length + 1 := by simp [linesT]
        rw [this]
        simp only [List.map_cons, List.sum_cons, List.length_cons]
        omega
      · cases A with
        | nil =>
          unfold badOf at hb
          cases rest with
          | false => rfl
          | true => simp at hb
        | cons t A => exact a4 (by simp)
    · rw [if_pos hb] at h
      exact absurd h hb
theorem sum_dropLast (p : List (List UInt8)) (h : p.getLast? = some []) : (p.dropLast.map List.length).sum = (p.map List.length).sum ∧ p.dropLast.length + 1 = p.length := by
  rcases List.eq_nil_or_concat p with rfl | ⟨L, b, rfl⟩
  · simp at h
  · rw [List.concat_eq_append] at h ⊢
    simp at h
    subst h
    simp
theorem again {M : Mk} (hM : M.Good) (hS : M.Short) (l : List UInt8) (h : (parseP M l).2.2 = 0) :
    (∀ e ∈ (parseP M l).1, e.Ok ∧ may e = true) ∧ (parseP M l).1.length ≤ 1000 ∧ (linesT M (parseP M l).1).length ≤ l.length + 4 * (parseP M l).1.length := by
  rw [parse_lines] at h ⊢
  by_cases hc : 1000 < (linesP l).1.length
  · rw [if_pos hc] at h; simp at h
  · rw [if_neg hc] at h ⊢
    obtain ⟨a1, a2, a3, a4⟩ := goP_inv hM hS (linesP l).2 (linesP l).1 0 [] (fun e he => by cases he) h
    refine ⟨a1, by rw [a2]; simp; omega, Nat.le_trans a3 ?_⟩
    rw [a2]
    have hs := spl_sum 10 l
    have hne := List.length_pos_iff.2 (spl_ne 10 l)
    unfold linesP at a4 ⊢
    simp only at a4 ⊢
    by_cases hl : (spl 10 l).getLast? = some []
    · rw [if_pos hl] at a4 ⊢
      obtain ⟨s1, s2⟩ := sum_dropLast _ hl
      simp only [linesT, List.flatMap_nil, List.length_nil]
      omega
    · rw [if_neg hl] at a4 ⊢
      have := a4 (spl_ne 10 l)
      cases this
end Go.Proofs.YtikdhfedidknpaaDoor.Event
