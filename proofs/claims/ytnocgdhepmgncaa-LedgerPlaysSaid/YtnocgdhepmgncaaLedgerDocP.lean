/- The document's list of credits, and what it tells. Conditions: as each fact states them. -/
import Derived.Test.YtnocgdhepmgncaaLedgerFew
import Derived.Test.YtnocgdhepmgncaaLedgerSumsP
namespace Go.Proofs.Ytnocgdhepmgncaa.Ledger
open Go.RowKit
set_option linter.unusedVariables false
set_option linter.unusedSimpArgs false

def sumIf (P : De → Bool) : List De → Int
  | [] => 0
  | r :: l => (if P r = true then r.ns else 0) + sumIf P l
theorem sumIf_append (P : De → Bool) (l m : List De) : sumIf P (l ++ m) = sumIf P l + sumIf P m := by
  induction l with
  | nil => simp [sumIf]
  | cons r l ih => simp only [List.cons_append, sumIf, ih]; omega
abbrev Pos (l : List De) : Prop := ∀ r ∈ l, 0 ≤ r.ns
theorem sumIf_nonneg (P : De → Bool) {l : List De} (h : Pos l) : 0 ≤ sumIf P l := by
  induction l with
  | nil => simp [sumIf]
  | cons r l ih =>
    have h1 := h r (by simp)
    have h2 := ih (fun x hx => h x (by simp [hx]))
    simp only [sumIf]
    split <;> omega
abbrev dTot (l : List De) : Int := sumIf (fun _ => true) l
abbrev dTask (k : Int) (l : List De) : Int := sumIf (fun r => decide (r.t = k) && !r.gone) l
abbrev dGroup (g : Int) (l : List De) : Int := sumIf (fun r => decide (g ∈ r.xs)) l
theorem sumIf_tot (P : De → Bool) {l : List De} (h : Pos l) : sumIf P l ≤ dTot l := by
  induction l with
  | nil => simp [sumIf]
  | cons r l ih =>
    have h1 := h r (by simp)
    have h2 := ih (fun x hx => h x (by simp [hx]))
    simp only [dTot, sumIf] at h2 ⊢
    split <;> simp <;> omega
theorem Pos.take {l : List De} (h : Pos l) (k : Nat) : Pos (l.take k) := fun r hr => h r (List.mem_of_mem_take hr)
theorem sumIf_take (P : De → Bool) {l : List De} {k : Nat} {r : De} (hk : l[k]? = some r) : sumIf P (l.take (k + 1)) = sumIf P (l.take k) + (if P r = true then r.ns else 0) := by
  obtain ⟨hl, e⟩ := List.getElem?_eq_some_iff.1 hk
  rw [List.take_succ_eq_append_getElem hl, e, sumIf_append]
  simp [sumIf]
theorem sumIf_part (P : De → Bool) {l : List De} (h : Pos l) (k : Nat) : 0 ≤ sumIf P (l.take k) ∧ sumIf P (l.take k) ≤ dTot l := by
  refine ⟨sumIf_nonneg P (h.take k), ?_⟩
  have h1 := sumIf_append (fun _ => true) (l.take k) (l.drop k)
  rw [List.take_append_drop] at h1
  have h2 := sumIf_tot P (h.take k)
  have h3 := sumIf_nonneg (fun _ => true) (l := l.drop k) (fun r hr => h r (List.mem_of_mem_drop hr))
  simp only [dTot] at h2 ⊢
  omega
/-- The document's credit and forgetting. -/
def De.row (d : De) : De := { d with gone := false }
def De.off (k : Int) (r : De) : De := { r with gone := r.gone || decide (r.t = k) }
def dCre (s : Bk) (l : List De) (d : De) : List De := if code s d.xs d.t d.ns = 0 then l ++ [d.row] else l
def dFgt (l : List De) (k : Int) : List De := l.map (De.off k)
/-- The list tells what the book has. -/
structure Dc (s : Bk) (l : List De) : Prop where
  pos : Pos l
  tot : dTot l = s.tot
  t : ∀ k, dTask k l = s.t k
  g : ∀ g, dGroup g l = s.g g
theorem Dc.new : Dc Bk.new [] := ⟨fun r hr => (by cases hr), rfl, fun k => rfl, fun g => rfl⟩
theorem Dc.cre {s : Bk} {l : List De} (h : Dc s l) (d : De) : Dc (cre s d.xs d.t d.ns) (dCre s l d) := by
  unfold Ledger.cre dCre
  split
  · rename_i hc
    obtain ⟨h0, _, _, _⟩ := code_zero hc
    obtain ⟨hp, ht, hk, hg⟩ := h
    refine ⟨fun r hr => ?_, ?_, fun k => ?_, fun g => ?_⟩
    · rcases List.mem_append.1 hr with hr | hr
      · exact hp r hr
      · simp at hr; subst hr; exact h0
    · show sumIf _ _ = s.tot + d.ns
      rw [sumIf_append]
      simp only [dTot] at ht
      simp [sumIf, ht, De.row]
    · have := hk k
      show sumIf _ _ = upd s.t d.t (s.t d.t + d.ns) k
      rw [sumIf_append]
      simp only [dTask] at this
      rw [this]
      unfold upd
      by_cases e : k = d.t
      · subst e; simp [sumIf, De.row]
      · have e' : ¬ d.t = k := fun h => e h.symm
        simp [sumIf, De.row, e, e']
    · have := hg g
      show sumIf _ _ = addG s.g d.xs d.ns g
      rw [sumIf_append]
      simp only [dGroup] at this
      rw [this]
      unfold addG
      by_cases e : g ∈ d.xs
      · simp [sumIf, De.row, e]
      · simp [sumIf, De.row, e]
  · exact h
theorem sumIf_map (P : De → Bool) (k : Int) (l : List De) : sumIf P (l.map (De.off k)) = sumIf (fun r => P (De.off k r)) l := by
  induction l with
  | nil => rfl
  | cons r l ih => simp only [List.map_cons, sumIf, ih]; rfl
theorem sumIf_congr {P Q : De → Bool} {l : List De} (h : ∀ r ∈ l, P r = Q r) : sumIf P l = sumIf Q l := by
  induction l with
  | nil => rfl
  | cons r l ih => simp only [sumIf]; rw [h r (by simp), ih (fun x hx => h x (by simp [hx]))]
theorem sumIf_none {P : De → Bool} {l : List De} (h : ∀ r ∈ l, P r = false) : sumIf P l = 0 := by
  induction l with
  | nil => rfl
  | cons r l ih => simp only [sumIf]; rw [h r (by simp), ih (fun x hx => h x (by simp [hx]))]; simp
theorem Dc.fgt {s : Bk} {l : List De} (h : Dc s l) (a : Int) : Dc (fgt s a) (dFgt l a) := by
  obtain ⟨hp, ht, hk, hg⟩ := h
  refine ⟨fun r hr => ?_, ?_, fun k => ?_, fun g => ?_⟩
  · obtain ⟨x, hx, rfl⟩ := List.mem_map.1 hr
    exact hp x hx
  · show sumIf _ (l.map _) = s.tot
    rw [sumIf_map]; exact ht
  · show sumIf _ (l.map _) = upd s.t a 0 k
    rw [sumIf_map]
    unfold upd
    by_cases e : k = a
    · subst e
      rw [if_pos rfl]
      exact sumIf_none fun r _ => by cases h1 : decide (r.t = k) <;> simp [De.off, h1]
    · rw [if_neg e, ← hk k]
      refine sumIf_congr fun r _ => ?_
      by_cases h1 : r.t = k
      · have h2 : ¬ r.t = a := fun h => e (h1 ▸ h)
        simp [De.off, h1, h1 ▸ h2]
      · simp [De.off, h1]
  · show sumIf _ (l.map _) = s.g g
    rw [sumIf_map]; exact hg g
theorem dFgt_len (l : List De) (a : Int) : (dFgt l a).length = l.length := by simp [dFgt]
theorem dCre_len (s : Bk) (l : List De) (d : De) : (dCre s l d).length ≤ l.length + 1 := by unfold dCre; split <;> simp

/-! ### those that had something, put in one by one -/
/-- Rising, and those of the first k rows that had something. -/
def Ins (f : Int → Int) (l : List De) (k : Nat) (out : List Int) : Prop := out.Pairwise (· < ·) ∧ ∀ i, i ∈ out ↔ f i ≠ 0 ∧ ∃ r ∈ l.take k, r.t = i
theorem Ins.zero (f : Int → Int) (l : List De) : Ins f l 0 [] := ⟨List.Pairwise.nil, fun i => by simp⟩
theorem Ins.skip {f : Int → Int} {l : List De} {k : Nat} {out : List Int} {r : De} (h : Ins f l k out) (hk : l[k]? = some r) (hs : f r.t = 0 ∨ r.t ∈ out) : Ins f l (k + 1) out := by
  obtain ⟨hl, e⟩ := List.getElem?_eq_some_iff.1 hk
  refine ⟨h.1, fun i => ?_⟩
  rw [h.2, List.take_succ_eq_append_getElem hl, e]
  constructor
  · rintro ⟨h1, x, hx, h2⟩
    exact ⟨h1, x, by simp [hx], h2⟩
  · rintro ⟨h1, x, hx, h2⟩
    rcases List.mem_append.1 hx with hx | hx
    · exact ⟨h1, x, hx, h2⟩
    · simp at hx
      subst hx
      rcases hs with hs | hs
      · rw [h2] at hs; exact absurd hs h1
      · rw [h2] at hs; exact (h.2 i).1 hs
theorem Ins.put {f : Int → Int} {l : List De} {k : Nat} {out : List Int} {r : De} (h : Ins f l k out) (hk : l[k]? = some r) (h0 : f r.t ≠ 0) (hn : r.t ∉ out) {at_ : Nat} (ha : at_ ≤ out.length) (hlo : ∀ j x, j < at_ → out[j]? = some x → x < r.t) (hhi : ∀ x, out[at_]? = some x → ¬ x < r.t) :
    Ins f l (k + 1) (out.take at_ ++ [r.t] ++ out.drop at_) := by
  obtain ⟨hl, e⟩ := List.getElem?_eq_some_iff.1 hk
  have h1 : ∀ x ∈ out.take at_, x < r.t := fun x hx => by
    obtain ⟨j, hj, ex⟩ := List.mem_iff_getElem.1 hx
    simp at hj ex
    exact hlo j x (by omega) (by rw [List.getElem?_eq_getElem (by omega), ex])
  have h2 : ∀ x ∈ out.drop at_, r.t < x := fun x hx => by
    obtain ⟨j, hj, ex⟩ := List.mem_iff_getElem.1 hx
    simp at hj ex
    have hne : x ≠ r.t := fun e => hn (e ▸ List.mem_of_mem_drop hx)
    have h3 := hhi out[at_] (List.getElem?_eq_getElem (by omega))
    rcases Nat.eq_zero_or_pos j with rfl | hj0
    · simp at ex; rw [ex] at h3; omega
    · have := List.pairwise_iff_getElem.1 h.1 at_ (at_ + j) (by omega) (by omega) (by omega)
      rw [ex] at this
      omega
  have hp := h.1
  rw [← List.take_append_drop at_ out, List.pairwise_append] at hp
  refine ⟨?_, fun i => ?_⟩
  · rw [List.pairwise_append, List.pairwise_append]
    refine ⟨⟨hp.1, by simp, fun x hx y hy => by simp at hy; subst hy; exact h1 x hx⟩, hp.2.1, fun x hx y hy => ?_⟩
    rcases List.mem_append.1 hx with hx | hx
    · have := h1 x hx; have := h2 y hy; omega
    · simp at hx; subst hx; exact h2 y hy
  · have hm : i ∈ out ↔ i ∈ out.take at_ ∨ i ∈ out.drop at_ := by rw [← List.mem_append, List.take_append_drop]
    have h3 := h.2 i
    rw [List.take_succ_eq_append_getElem hl, e]
    simp only [List.mem_append, List.mem_singleton]
    constructor
    · rintro ((hi | rfl) | hi)
      · obtain ⟨a, x, b, c⟩ := h3.1 (hm.2 (.inl hi)); exact ⟨a, x, .inl b, c⟩
      · exact ⟨h0, r, .inr rfl, rfl⟩
      · obtain ⟨a, x, b, c⟩ := h3.1 (hm.2 (.inr hi)); exact ⟨a, x, .inl b, c⟩
    · rintro ⟨a, x, hx | rfl, c⟩
      · rcases hm.1 (h3.2 ⟨a, x, hx, c⟩) with h4 | h4
        · exact .inl (.inl h4)
        · exact .inr h4
      · exact .inl (.inr c.symm)
theorem Ins.done {l : List De} {out : List Int} (h : Ins (fun k => dTask k l) l l.length out) : Ris (fun k => dTask k l) out := by
  refine ⟨h.1, fun i => ?_⟩
  rw [h.2, List.take_length]
  constructor
  · exact fun h => h.1
  · intro h0
    refine ⟨h0, ?_⟩
    by_cases he : ∃ r ∈ l, r.t = i
    · exact he
    · exfalso
      apply h0
      refine sumIf_none fun r hr => ?_
      have : ¬ r.t = i := fun e => he ⟨r, hr, e⟩
      simp [this]
end Go.Proofs.Ytnocgdhepmgncaa.Ledger
