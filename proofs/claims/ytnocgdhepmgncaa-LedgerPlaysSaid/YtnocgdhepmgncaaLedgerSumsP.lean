/- Sums over those that had something. Conditions: as each fact states them. -/
import Derived.Test.YtnocgdhepmgncaaLedgerPlain
namespace Go.Proofs.Ytnocgdhepmgncaa.Ledger
open Go.RowKit
set_option linter.unusedVariables false
set_option linter.unusedSimpArgs false

def sumT (f : Int → Int) : List Int → Int
  | [] => 0
  | x :: l => f x + sumT f l
theorem sumT_perm {f : Int → Int} {l l' : List Int} (h : l.Perm l') : sumT f l = sumT f l' := by
  induction h with
  | nil => rfl
  | cons x _ ih => simp only [sumT, ih]
  | swap x y l => simp only [sumT]; omega
  | trans _ _ h1 h2 => exact h1.trans h2
theorem sumT_congr {f g : Int → Int} {l : List Int} (h : ∀ x ∈ l, f x = g x) : sumT f l = sumT g l := by
  induction l with
  | nil => rfl
  | cons x l ih => simp only [sumT]; rw [h x (by simp), ih (fun y hy => h y (by simp [hy]))]
theorem sumT_nonneg {f : Int → Int} (hf : ∀ i, 0 ≤ f i) (l : List Int) : 0 ≤ sumT f l := by
  induction l with
  | nil => simp [sumT]
  | cons x l ih => have := hf x; simp only [sumT]; omega
theorem sumT_ge {f : Int → Int} (hf : ∀ i, 0 ≤ f i) {l : List Int} {x : Int} (hx : x ∈ l) : f x ≤ sumT f l := by
  induction l with
  | nil => cases hx
  | cons y l ih =>
    simp only [sumT]
    rcases List.mem_cons.1 hx with rfl | hm
    · have := sumT_nonneg hf l; omega
    · have := hf y; have := ih hm; omega
theorem sumT_append (f : Int → Int) (l m : List Int) : sumT f (l ++ m) = sumT f l + sumT f m := by
  induction l with
  | nil => simp [sumT]
  | cons x l ih => simp only [List.cons_append, sumT, ih]; omega
theorem sumT_take {f : Int → Int} {l : List Int} {k : Nat} {x : Int} (hk : l[k]? = some x) : sumT f (l.take (k + 1)) = sumT f (l.take k) + f x := by
  obtain ⟨hl, e⟩ := List.getElem?_eq_some_iff.1 hk
  rw [List.take_succ_eq_append_getElem hl, e, sumT_append]
  simp [sumT]
theorem sumT_part {f : Int → Int} (hf : ∀ i, 0 ≤ f i) (l : List Int) (k : Nat) : sumT f (l.take k) ≤ sumT f l := by
  have h := sumT_append f (l.take k) (l.drop k)
  rw [List.take_append_drop] at h
  have := sumT_nonneg hf (l.drop k)
  omega
/-- All that f tells is S. -/
def Sup (f : Int → Int) (S : Int) : Prop := ∃ l : List Int, l.Nodup ∧ (∀ i, i ∈ l ↔ f i ≠ 0) ∧ sumT f l = S
theorem Sup.none : Sup (fun _ => 0) 0 := ⟨[], List.nodup_nil, fun i => by simp, rfl⟩
theorem Sup.upd {f : Int → Int} {S : Int} (h : Sup f S) (k v : Int) : Sup (upd f k v) (S - f k + v) := by
  obtain ⟨l, hn, hm, hs⟩ := h
  have hM : (l.erase k).Nodup := hn.erase k
  have hmem : ∀ i, i ∈ l.erase k ↔ i ≠ k ∧ f i ≠ 0 := fun i => by rw [hn.mem_erase_iff, hm]
  have hsum : sumT f l = f k + sumT f (l.erase k) := by
    by_cases hk : k ∈ l
    · exact (sumT_perm (List.perm_cons_erase hk)).trans rfl
    · have h0 : f k = 0 := by
        by_cases h0 : f k = 0
        · exact h0
        · exact absurd ((hm k).2 h0) hk
      rw [List.erase_of_not_mem hk, h0, Int.zero_add]
  have hc : sumT (Ledger.upd f k v) (l.erase k) = sumT f (l.erase k) := sumT_congr fun x hx => upd_ne _ ((hmem x).1 hx).1
  by_cases hv : v = 0
  · subst hv
    refine ⟨l.erase k, hM, fun i => ?_, by rw [hc]; omega⟩
    rw [hmem]
    by_cases e : i = k
    · subst e; simp [upd_at]
    · simp [upd_ne _ e, e]
  · refine ⟨k :: l.erase k, List.nodup_cons.2 ⟨fun hk => ((hmem k).1 hk).1 rfl, hM⟩, fun i => ?_, ?_⟩
    · rw [List.mem_cons, hmem]
      by_cases e : i = k
      · subst e; simp [upd_at, hv]
      · simp [upd_ne _ e, e]
    · simp only [sumT]
      rw [hc, upd_at]
      omega
theorem Sup.told {f : Int → Int} {S : Int} (h : Sup f S) {l : List Int} (hl : Ris f l) : sumT f l = S := by
  obtain ⟨l', hn, hm, hs⟩ := h
  rw [← hs]
  exact sumT_perm ((List.perm_ext_iff_of_nodup hl.nodup hn).2 fun i => by rw [hl.2, hm])
theorem Sup.le {f : Int → Int} {S : Int} (h : Sup f S) (hf : ∀ i, 0 ≤ f i) (i : Int) : f i ≤ S := by
  obtain ⟨l, hn, hm, hs⟩ := h
  by_cases h0 : f i = 0
  · rw [h0, ← hs]; exact sumT_nonneg hf l
  · rw [← hs]; exact sumT_ge hf ((hm i).2 h0)
theorem Sup.pos {f : Int → Int} {S : Int} (h : Sup f S) (hf : ∀ i, 0 ≤ f i) : 0 ≤ S := by
  obtain ⟨l, hn, hm, hs⟩ := h
  rw [← hs]; exact sumT_nonneg hf l
/-- With what was forgotten, all that tasks had is Total. -/
def Gone (s : Bk) (gone : Int) : Prop := 0 ≤ gone ∧ Sup s.t (s.tot - gone)
theorem Gone.new : Gone Bk.new 0 := ⟨Int.le_refl _, by simpa [Bk.new] using Sup.none⟩
theorem Gone.cre {s : Bk} {gone : Int} (h : Gone s gone) (xs : List Int) (t ns : Int) : Gone (cre s xs t ns) gone := by
  unfold Ledger.cre
  split
  · refine ⟨h.1, ?_⟩
    have := h.2.upd t (s.t t + ns)
    show Sup (upd s.t t (s.t t + ns)) (s.tot + ns - gone)
    rwa [show s.tot - gone - s.t t + (s.t t + ns) = s.tot + ns - gone by omega] at this
  · exact h
theorem Gone.fgt {s : Bk} {gone : Int} (h : Gone s gone) (ho : Ok s) (t : Int) : Gone (fgt s t) (gone + s.t t) ∧ gone + s.t t ≤ top := by
  have hf : ∀ i, 0 ≤ s.t i := fun i => (ho.t i).1
  have h1 := h.2.le hf t
  have h2 := ho.hi
  have h3 := hf t
  have h4 := h.1
  refine ⟨⟨by omega, ?_⟩, by omega⟩
  have := h.2.upd t 0
  show Sup (upd s.t t 0) (s.tot - (gone + s.t t))
  rwa [show s.tot - gone - s.t t + 0 = s.tot - (gone + s.t t) by omega] at this
end Go.Proofs.Ytnocgdhepmgncaa.Ledger
