/- What is read may be, and is written as a text that is read as the same, and is no longer, numbers alone. Conditions: a mask's text is no longer than what it was read from. -/
import Derived.Test.YtikdhfedidknpaaDoorEventJoinP
namespace Go.Proofs.YtikdhfedidknpaaDoor.Event
open Go.RowKit
set_option linter.unusedVariables false
set_option linter.unusedSimpArgs false

structure Mk.Short (M : Mk) : Prop where
  lt : ∀ s, (M.p s).2 = 0 → (M.p s).1 < 18446744073709551616
  len : ∀ s, (M.p s).2 = 0 → (M.t (M.p s).1).length ≤ s.length
theorem spl_sum (c : UInt8) (l : List UInt8) : ((spl c l).map List.length).sum + ((spl c l).length - 1) = l.length := by
  induction l with
  | nil => rfl
  | cons x l ih =>
    unfold spl
    by_cases h : x = c
    · rw [if_pos h]
      have := List.length_pos_iff.2 (spl_ne c l)
      simp only [List.map_cons, List.sum_cons, List.length_nil, List.length_cons]
      omega
    · rw [if_neg h]
      cases hs : spl c l with
      | nil => exact absurd hs (spl_ne c l)
      | cons p ps =>
        rw [hs] at ih
        simp only [List.map_cons, List.sum_cons, List.length_cons] at ih ⊢
        omega
theorem num_inv {M : Mk} {g : Got} {f : UInt8} {s : List UInt8} (hf : f ≠ 115) (h : (field M g f s).bad = 0) : g.bad = 0 ∧ ∃ n, (I64 n ∧ figs n = s) ∧ ((f = 97 ∨ f = 98) → 0 ≤ n) ∧ field M g f s = ⟨putN g.e f n, 0⟩ := by
  unfold field at h ⊢
  rw [if_neg hf] at h ⊢
  simp only at h ⊢
  cases hn : numOf s with
  | none =>
    have hb : numBad f s = true := by unfold numBad; rw [hn]
    rw [hb] at h
    simp at h
  | some n =>
    by_cases hb : numBad f s = true
    · rw [hb] at h; simp at h
    · rw [if_neg hb] at h ⊢
      refine ⟨h, n, numOf_some hn, fun hab => ?_, by rw [h]; rfl⟩
      unfold numBad at hb
      rw [hn] at hb
      simp only [Bool.and_eq_true, Bool.or_eq_true, decide_eq_true_eq, not_and] at hb
      rcases Int.lt_or_le n 0 with h0 | h0
      · exact absurd hab (hb h0)
      · exact h0
theorem mask_inv {M : Mk} {g : Got} {s : List UInt8} (h : (field M g 115 s).bad = 0) : g.bad = 0 ∧ ((s = noneT ∧ field M g 115 s = ⟨g.e, 0⟩) ∨ ((M.p s).2 = 0 ∧ field M g 115 s = ⟨{ g.e with s := (M.p s).1 }, 0⟩)) := by
  unfold field at h ⊢
  rw [if_pos rfl] at h ⊢
  by_cases hn : s = noneT
  · rw [if_pos hn] at h ⊢
    exact ⟨h, .inl ⟨hn, by cases g; simp_all⟩⟩
  · rw [if_neg hn] at h ⊢
    simp only at h ⊢
    by_cases h1 : s = [] ∨ (M.p s).2 = 11
    · rw [if_pos h1] at h; simp at h
    · rw [if_neg h1] at h ⊢
      by_cases h2 : (M.p s).2 ≠ 0 ∧ g.bad = 0
      · rw [if_pos h2] at h; simp at h
      · rw [if_neg h2] at h ⊢
        refine ⟨h, .inr ⟨?_, by rw [h]⟩⟩
        by_cases h3 : (M.p s).2 = 0
        · exact h3
        · exact absurd ⟨h3, h⟩ h2
theorem kind_inv {w : List UInt8} (h : kindOf w ≠ 0) : 1 ≤ kindOf w ∧ kindOf w ≤ 15 ∧ wordOf (kindOf w) = w := by
  unfold kindOf at h ⊢
  by_cases hi : words.idxOf w < 15
  · rw [if_pos hi] at h ⊢
    refine ⟨by omega, by omega, ?_⟩
    unfold wordOf
    rw [show (((words.idxOf w : Nat) : Int) + 1 - 1).toNat = words.idxOf w by omega]
    have hl : words.idxOf w < words.length := hi
    rw [List.getElem?_eq_getElem hl]
    simp
  · rw [if_neg hi] at h
    exact absurd rfl h
theorem line_len (M : Mk) (e : Ev) : (lineT M e).length = (wordOf e.k).length + ((form e.k).map fun f => 1 + (fieldT M e f).length).sum := by
  unfold lineT
  rw [foldl_line, List.length_append]
  congr 1
  induction form e.k with
  | nil => rfl
  | cons f fs ih => simp only [List.flatMap_cons, List.length_append, List.length_cons, List.map_cons, List.sum_cons, ih]; omega
theorem mask_len {M : Mk} (hM : M.Good) (hS : M.Short) {e : Ev} {s : List UInt8} (h : (s = noneT ∧ e.s = 0) ∨ ((M.p s).2 = 0 ∧ e.s = (M.p s).1)) : (fieldT M e 115).length ≤ s.length + 4 := by
  rcases h with ⟨h1, h2⟩ | ⟨h1, h2⟩
  · simp [fieldT, h2, hM.zero]
  · by_cases h0 : e.s = 0
    · simp [fieldT, h0, hM.zero]
    · have := hS.len s h1
      rw [← h2] at this
      simp [fieldT, h0]
      omega
theorem zero64 : I64 0 := ⟨by omega, by omega⟩
theorem one_inv {M : Mk} (hM : M.Good) (hS : M.Short) {s : List UInt8} (h : (oneP M s).bad = 0) : (oneP M s).e.Ok ∧ may (oneP M s).e = true ∧ (lineT M (oneP M s).e).length ≤ s.length + 4 := by
  have hsum := spl_sum 32 s
  unfold oneP at h ⊢
  cases hp : spl 32 s with
  | nil => exact absurd hp (spl_ne 32 s)
  | cons w ps =>
    rw [hp] at hsum h
    rw [List.head?_cons, Option.getD_some] at h ⊢
    generalize hk : kindOf w = k at *
    unfold oneQ at h ⊢
    by_cases hc : k = 0 ∨ (w :: ps).length ≠ (form k).length + 1
    · rw [if_pos hc] at h; simp at h
    · rw [if_neg hc] at h ⊢
      rw [List.tail_cons] at h ⊢
      rw [List.length_cons] at hc
      simp only [List.length_cons] at hsum
      have hk0 : k ≠ 0 := fun e => hc (.inl e)
      have hlen : ps.length = (form k).length := by
        by_cases e : ps.length = (form k).length
        · exact e
        · exact absurd (.inr (by omega)) hc
      have hki := kind_inv (w := w) (by rw [hk]; exact hk0)
      rw [hk] at hki
      obtain ⟨k1, k2, kw⟩ := hki
      have k64 : I64 k := ⟨by omega, by omega⟩
      simp only [List.map_cons, List.sum_cons] at hsum
      rcases form_is k with hf | hf | hf | hf | hf | hf
      · rw [hf] at hlen h ⊢
        obtain ⟨s1, s2, rfl⟩ : ∃ s1 s2, ps = [s1, s2] := by match ps, hlen with | [a, b], _ => exact ⟨a, b, rfl⟩
        simp only [fields] at h ⊢
        obtain ⟨h1, n2, ⟨i2, f2⟩, _, e2⟩ := num_inv (by decide) h
        obtain ⟨_, n1, ⟨i1, f1⟩, p1, e1⟩ := num_inv (by decide) h1
        rw [e1] at e2 ⊢
        rw [e2]
        refine ⟨⟨k64, i1, zero64, i2, zero64, by simp [putN, Ev.zero]⟩, ?_, ?_⟩
        · have := p1 (.inl rfl)
          simp [may, putN, Ev.zero, hf]; omega
        · rw [line_len]
          simp only [putN, Ev.zero, hf]
          simp [fieldT, hf, kw, f1, f2]
          simp at hsum; omega
      · rw [hf] at hlen h ⊢
        obtain ⟨s1, s2, rfl⟩ : ∃ s1 s2, ps = [s1, s2] := by match ps, hlen with | [a, b], _ => exact ⟨a, b, rfl⟩
        simp only [fields] at h ⊢
        obtain ⟨h1, n2, ⟨i2, f2⟩, p2, e2⟩ := num_inv (by decide) h
        obtain ⟨_, n1, ⟨i1, f1⟩, p1, e1⟩ := num_inv (by decide) h1
        rw [e1] at e2 ⊢
        rw [e2]
        refine ⟨⟨k64, i1, i2, zero64, zero64, by simp [putN, Ev.zero]⟩, ?_, ?_⟩
        · have := p1 (.inl rfl)
          have := p2 (.inr rfl)
          simp [may, putN, Ev.zero, hf]; omega
        · rw [line_len]
          simp only [putN, Ev.zero, hf]
          simp [fieldT, hf, kw, f1, f2]
          simp at hsum; omega
      · rw [hf] at hlen h ⊢
        obtain ⟨s1, s2, s3, rfl⟩ : ∃ s1 s2 s3, ps = [s1, s2, s3] := by match ps, hlen with | [a, b, c], _ => exact ⟨a, b, c, rfl⟩
        simp only [fields] at h ⊢
        obtain ⟨h2, n3, ⟨i3, f3⟩, _, e3⟩ := num_inv (by decide) h
        obtain ⟨h1, n2, ⟨i2, f2⟩, _, e2⟩ := num_inv (by decide) h2
        obtain ⟨_, n1, ⟨i1, f1⟩, p1, e1⟩ := num_inv (by decide) h1
        rw [e1] at e2 e3 ⊢
        rw [e2] at e3 ⊢
        rw [e3]
        refine ⟨⟨k64, i1, zero64, i2, i3, by simp [putN, Ev.zero]⟩, ?_, ?_⟩
        · have := p1 (.inl rfl)
          simp [may, putN, Ev.zero, hf]; omega
        · rw [line_len]
          simp only [putN, Ev.zero, hf]
          simp [fieldT, hf, kw, f1, f2, f3]
          simp at hsum; omega
      · rw [hf] at hlen h ⊢
        obtain ⟨s1, s2, s3, rfl⟩ : ∃ s1 s2 s3, ps = [s1, s2, s3] := by match ps, hlen with | [a, b, c], _ => exact ⟨a, b, c, rfl⟩
        simp only [fields] at h ⊢
        obtain ⟨h2, h3⟩ := mask_inv h
        obtain ⟨h1, n2, ⟨i2, f2⟩, _, e2⟩ := num_inv (by decide) h2
        obtain ⟨_, n1, ⟨i1, f1⟩, p1, e1⟩ := num_inv (by decide) h1
        rw [e1] at e2 h3 ⊢
        rw [e2] at h3 ⊢
        have p1' := p1 (.inl rfl)
        simp at hsum
        rcases h3 with ⟨m1, m2⟩ | ⟨m1, m2⟩
        · rw [m2]
          have ml := mask_len (e := putN (putN { Ev.zero with k := k } 97 n1) 110 n2) (s := s3) hM hS (.inl ⟨m1, by simp [putN, Ev.zero]⟩)
          refine ⟨⟨k64, i1, zero64, i2, zero64, by simp [putN, Ev.zero]⟩, by simp [may, putN, Ev.zero, hf]; omega, ?_⟩
          rw [line_len]
          simp only [putN, Ev.zero, hf] at ml ⊢
          have a1 : ∀ e : Ev, fieldT M e 97 = figs e.a := fun e => by simp [fieldT]
          have a2 : ∀ e : Ev, fieldT M e 110 = figs e.n := fun e => by simp [fieldT]
          simp at ml
          simp [hf, kw, f1, f2, a1, a2]
          omega
        · rw [m2]
          have ml := mask_len (e := { putN (putN { Ev.zero with k := k } 97 n1) 110 n2 with s := (M.p s3).1 }) (s := s3) hM hS (.inr ⟨m1, rfl⟩)
          refine ⟨⟨k64, i1, zero64, i2, zero64, hS.lt _ m1⟩, by simp [may, putN, Ev.zero, hf]; omega, ?_⟩
          rw [line_len]
          simp only [putN, Ev.zero, hf] at ml ⊢
          have a1 : ∀ e : Ev, fieldT M e 97 = figs e.a := fun e => by simp [fieldT]
          have a2 : ∀ e : Ev, fieldT M e 110 = figs e.n := fun e => by simp [fieldT]
          simp at ml
          simp [hf, kw, f1, f2, a1, a2]
          omega
      · rw [hf] at hlen h ⊢
        obtain ⟨s1, s3, rfl⟩ : ∃ s1 s3, ps = [s1, s3] := by match ps, hlen with | [a, b], _ => exact ⟨a, b, rfl⟩
        simp only [fields] at h ⊢
        obtain ⟨h1, h3⟩ := mask_inv h
        obtain ⟨_, n1, ⟨i1, f1⟩, p1, e1⟩ := num_inv (by decide) h1
        rw [e1] at h3 ⊢
        have p1' := p1 (.inl rfl)
        simp at hsum
        rcases h3 with ⟨m1, m2⟩ | ⟨m1, m2⟩
        · rw [m2]
          have ml := mask_len (e := putN { Ev.zero with k := k } 97 n1) (s := s3) hM hS (.inl ⟨m1, by simp [putN, Ev.zero]⟩)
          refine ⟨⟨k64, i1, zero64, zero64, zero64, by simp [putN, Ev.zero]⟩, by simp [may, putN, Ev.zero, hf]; omega, ?_⟩
          rw [line_len]
          simp only [putN, Ev.zero, hf] at ml ⊢
          have a1 : ∀ e : Ev, fieldT M e 97 = figs e.a := fun e => by simp [fieldT]
          simp at ml
          simp [hf, kw, f1, a1]
          omega
        · rw [m2]
          have ml := mask_len (e := { putN { Ev.zero with k := k } 97 n1 with s := (M.p s3).1 }) (s := s3) hM hS (.inr ⟨m1, rfl⟩)
          refine ⟨⟨k64, i1, zero64, zero64, zero64, hS.lt _ m1⟩, by simp [may, putN, Ev.zero, hf]; omega, ?_⟩
          rw [line_len]
          simp only [putN, Ev.zero, hf] at ml ⊢
          have a1 : ∀ e : Ev, fieldT M e 97 = figs e.a := fun e => by simp [fieldT]
          simp at ml
          simp [hf, kw, f1, a1]
          omega
      · rw [hf] at hlen h ⊢
        obtain ⟨s1, rfl⟩ : ∃ s1, ps = [s1] := by match ps, hlen with | [a], _ => exact ⟨a, rfl⟩
        simp only [fields] at h ⊢
        obtain ⟨_, n1, ⟨i1, f1⟩, p1, e1⟩ := num_inv (by decide) h
        rw [e1]
        refine ⟨⟨k64, i1, zero64, zero64, zero64, by simp [putN, Ev.zero]⟩, ?_, ?_⟩
        · have := p1 (.inl rfl)
          simp [may, putN, Ev.zero, hf]; omega
        · rw [line_len]
          simp only [putN, Ev.zero, hf]
          simp [fieldT, hf, kw, f1]
          simp at hsum; omega
end Go.Proofs.YtikdhfedidknpaaDoor.Event
