/- What is written is read as it was, numbers alone. Conditions: the mask's text is read as it was written. -/
import Derived.Test.YtikdhfedidknpaaDoorEventLine
namespace Go.Proofs.YtikdhfedidknpaaDoor.Event
open Go.RowKit
set_option linter.unusedVariables false
set_option linter.unusedSimpArgs false

theorem field_a {M : Mk} {e x : Ev} (he : e.Ok) (h0 : 0 ≤ e.a) : field M ⟨x, 0⟩ 97 (fieldT M e 97) = ⟨{ x with a := e.a }, 0⟩ := by
  have hf : fieldT M e 97 = figs e.a := by simp [fieldT]
  have hb : numBad 97 (figs e.a) = false := by unfold numBad; rw [numOf_figs he.a]; simp; omega
  rw [hf]
  unfold field
  rw [if_neg (by decide), hb, numOf_figs he.a]
  simp [putN]
theorem field_b {M : Mk} {e x : Ev} (he : e.Ok) (h0 : 0 ≤ e.b) : field M ⟨x, 0⟩ 98 (fieldT M e 98) = ⟨{ x with b := e.b }, 0⟩ := by
  have hf : fieldT M e 98 = figs e.b := by simp [fieldT]
  have hb : numBad 98 (figs e.b) = false := by unfold numBad; rw [numOf_figs he.b]; simp; omega
  rw [hf]
  unfold field
  rw [if_neg (by decide), hb, numOf_figs he.b]
  simp [putN]
theorem field_n {M : Mk} {e x : Ev} (he : e.Ok) : field M ⟨x, 0⟩ 110 (fieldT M e 110) = ⟨{ x with n := e.n }, 0⟩ := by
  have hf : fieldT M e 110 = figs e.n := by simp [fieldT]
  have hb : numBad 110 (figs e.n) = false := by unfold numBad; rw [numOf_figs he.n]; simp
  rw [hf]
  unfold field
  rw [if_neg (by decide), hb, numOf_figs he.n]
  simp [putN]
theorem field_m {M : Mk} {e x : Ev} (he : e.Ok) : field M ⟨x, 0⟩ 109 (fieldT M e 109) = ⟨{ x with m := e.m }, 0⟩ := by
  have hf : fieldT M e 109 = figs e.m := by simp [fieldT]
  have hb : numBad 109 (figs e.m) = false := by unfold numBad; rw [numOf_figs he.m]; simp
  rw [hf]
  unfold field
  rw [if_neg (by decide), hb, numOf_figs he.m]
  simp [putN]
theorem field_s {M : Mk} (hM : M.Good) {e x : Ev} (he : e.Ok) (hx : x.s = 0) : field M ⟨x, 0⟩ 115 (fieldT M e 115) = ⟨{ x with s := e.s }, 0⟩ := by
  unfold field
  rw [if_pos rfl]
  by_cases h : e.s = 0
  · have hf : fieldT M e 115 = noneT := by simp [fieldT, h, hM.zero]
    rw [hf, if_pos rfl, h, ← hx]
  · have hf : fieldT M e 115 = M.t e.s := by simp [fieldT, h]
    rw [hf, if_neg (hM.none_ _ he.s), hM.back _ he.s h]
    have h2 : ¬ (M.t e.s = [] ∨ (0 : Int) = 11) := by rintro (h3 | h3); exact hM.some_ _ he.s h h3; omega
    simp only [if_neg h2]
    simp
theorem form_is (k : Int) : form k = [97, 110] ∨ form k = [97, 98] ∨ form k = [97, 110, 109] ∨ form k = [97, 110, 115] ∨ form k = [97, 115] ∨ form k = [97] := by
  unfold form
  repeat' split
  all_goals simp
theorem may_parts {e : Ev} (h : may e = true) : (1 ≤ e.k ∧ e.k ≤ 15 ∧ 0 ≤ e.a ∧ 0 ≤ e.b) ∧ (98 ∉ form e.k → e.b = 0) ∧ (110 ∉ form e.k → e.n = 0) ∧ (109 ∉ form e.k → e.m = 0) ∧ (115 ∉ form e.k → e.s = 0) := by
  unfold may at h
  simp only [Bool.and_eq_true, Bool.or_eq_true, Bool.not_eq_true', Bool.or_eq_false_iff, decide_eq_true_eq, decide_eq_false_iff_not] at h
  obtain ⟨⟨⟨⟨⟨⟨⟨h1, h2⟩, h3⟩, h4⟩, h5⟩, h6⟩, h7⟩, h8⟩ := h
  exact ⟨⟨by omega, by omega, by omega, by omega⟩, fun h => h5.resolve_left h, fun h => h6.resolve_left h, fun h => h7.resolve_left h, fun h => h8.resolve_left h⟩
theorem one_back {M : Mk} (hM : M.Good) {e : Ev} (he : e.Ok) (h : may e = true) : oneP M (lineT M e) = ⟨e, 0⟩ := by
  obtain ⟨⟨k1, k2, a0, b0⟩, hb, hn, hm, hs⟩ := may_parts h
  obtain ⟨w1, w2⟩ := word_at k1 k2
  have hp : spl 32 (lineT M e) = wordOf e.k :: (form e.k).map (fieldT M e) := by
    unfold lineT
    rw [foldl_line]
    exact line_parts hM he _ (words_clean _ w1) _
  unfold oneP
  rw [hp, List.head?_cons, Option.getD_some, w2]
  unfold oneQ
  rw [if_neg (by simp; omega), List.tail_cons]
  obtain ⟨k, a, b, n, m, s⟩ := e
  simp only at *
  rcases form_is k with hf | hf | hf | hf | hf | hf
  all_goals
    rw [hf] at hb hn hm hs ⊢
    simp only [List.map_cons, List.map_nil, fields]
    first
      | rw [field_a he a0, field_n he]
        simp at hb hm hs
        subst hb hm hs
        rfl
      | rw [field_a he a0, field_b he b0]
        simp at hn hm hs
        subst hn hm hs
        rfl
      | rw [field_a he a0, field_n he, field_m he]
        simp at hb hs
        subst hb hs
        rfl
      | rw [field_a he a0, field_n he, field_s hM he rfl]
        simp at hb hm
        subst hb hm
        rfl
      | rw [field_a he a0, field_s hM he rfl]
        simp at hb hn hm
        subst hb hn hm
        rfl
      | rw [field_a he a0]
        simp at hb hn hm hs
        subst hb hn hm hs
        rfl
theorem lines_spl {M : Mk} (hM : M.Good) {l : List Ev} (hl : ∀ e ∈ l, e.Ok ∧ may e = true) : spl 10 (linesT M l) = l.map (lineT M) ++ [[]] := by
  induction l with
  | nil => rfl
  | cons e l ih =>
    obtain ⟨h1, h2⟩ := hl e (by simp)
    obtain ⟨⟨k1, k2, _⟩, _⟩ := may_parts h2
    have := ih (fun x hx => hl x (by simp [hx]))
    unfold linesT at this ⊢
    rw [List.flatMap_cons, List.append_assoc, List.singleton_append, spl_part (line_clean hM h1 k1 k2), this]
    rfl
theorem goP_all {M : Mk} (hM : M.Good) {l : List Ev} (hl : ∀ e ∈ l, e.Ok ∧ may e = true) (i : Nat) (out : List Ev) : goP M false (l.map (lineT M)) i out = (out ++ l, 0, 0) := by
  induction l generalizing i out with
  | nil => simp [goP]
  | cons e l ih =>
    obtain ⟨h1, h2⟩ := hl e (by simp)
    simp only [List.map_cons, goP, one_back hM h1 h2]
    simp
    rw [ih (fun x hx => hl x (by simp [hx]))]
    simp
theorem text_back {M : Mk} (hM : M.Good) {l : List Ev} (hl : ∀ e ∈ l, e.Ok ∧ may e = true) (h : l.length ≤ 1000) : parseP M (linesT M l) = (l, 0, 0) := by
  unfold parseP
  by_cases h0 : l = []
  · subst h0; rfl
  · have hne : linesT M l ≠ [] := by
      cases l with
      | nil => exact absurd rfl h0
      | cons e l => unfold linesT; simp
    have hs := lines_spl hM hl
    have hlp : linesP (linesT M l) = (l.map (lineT M), false) := by
      unfold linesP
      simp [hs]
    rw [if_neg hne, hlp, if_neg (by simp; omega), goP_all hM hl]
    rfl
end Go.Proofs.YtikdhfedidknpaaDoor.Event
