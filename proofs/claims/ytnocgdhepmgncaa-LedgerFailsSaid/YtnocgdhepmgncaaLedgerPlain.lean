/- Who had how much: accounts as plain functions of a number, and the document's list of credits. Conditions: as each fact states them. -/
import Derived.Test.YtnocgdhepmgncaaRows
import Derived.Lib.Hide
import Derived.Lib.SlicesCompact
namespace Go.Proofs.Ytnocgdhepmgncaa.Ledger
open Go.RowKit
set_option linter.unusedVariables false
set_option linter.unusedSimpArgs false

abbrev I64 (x : Int) : Prop := -9223372036854775808 ≤ x ∧ x ≤ 9223372036854775807
abbrev top : Int := 9223372036854775807
/-- What a book tells: how much each task had, each group, and all. -/
structure Bk where
  t : Int → Int
  g : Int → Int
  tot : Int
def Bk.new : Bk := ⟨fun _ => 0, fun _ => 0, 0⟩
def upd (f : Int → Int) (k v : Int) : Int → Int := fun i => if i = k then v else f i
theorem upd_same (f : Int → Int) (k : Int) : upd f k (f k) = f := by
  funext i; unfold upd; split
  · subst_vars; rfl
  · rfl
theorem upd_at (f : Int → Int) (k v : Int) : upd f k v k = v := by simp [upd]
theorem upd_ne (f : Int → Int) {k v i : Int} (h : i ≠ k) : upd f k v i = f i := by simp [upd, h]

def low (xs : List Int) : Bool := xs.any (fun x => decide (x < 0))
/-- A path that may be: none below 0, none twice. -/
def good (xs : List Int) : Bool := !low xs && decide xs.Nodup
def wrong (xs : List Int) (task ns : Int) : Bool := decide (ns < 0) || decide (task < 0) || !good xs
def code (s : Bk) (xs : List Int) (task ns : Int) : Int := if wrong xs task ns = true then 1 else if top - s.tot < ns then 3 else 0
def addG (g : Int → Int) (xs : List Int) (ns : Int) : Int → Int := fun i => if i ∈ xs then g i + ns else g i
def add (s : Bk) (xs : List Int) (task ns : Int) : Bk := ⟨upd s.t task (s.t task + ns), addG s.g xs ns, s.tot + ns⟩
def cre (s : Bk) (xs : List Int) (task ns : Int) : Bk := if code s xs task ns = 0 then add s xs task ns else s
def fgt (s : Bk) (task : Int) : Bk := { s with t := upd s.t task 0 }

/-- What always holds. -/
structure Ok (s : Bk) : Prop where
  t : ∀ i, 0 ≤ s.t i ∧ s.t i ≤ s.tot
  g : ∀ i, 0 ≤ s.g i ∧ s.g i ≤ s.tot
  neg : ∀ i, i < 0 → s.t i = 0
  lo : 0 ≤ s.tot
  hi : s.tot ≤ top
theorem Ok.new : Ok Bk.new := ⟨fun i => by simp [Bk.new], fun i => by simp [Bk.new], fun i _ => rfl, by simp [Bk.new], by simp [Bk.new]⟩
theorem not_wrong {xs : List Int} {task ns : Int} (h : wrong xs task ns = false) : 0 ≤ ns ∧ 0 ≤ task ∧ good xs = true := by
  unfold wrong at h
  simp only [Bool.or_eq_false_iff, decide_eq_false_iff_not, Bool.not_eq_false'] at h
  obtain ⟨⟨h1, h2⟩, h3⟩ := h
  exact ⟨by omega, by omega, h3⟩
theorem code_zero {s : Bk} {xs : List Int} {task ns : Int} (h : code s xs task ns = 0) : 0 ≤ ns ∧ 0 ≤ task ∧ good xs = true ∧ ns ≤ top - s.tot := by
  unfold code at h
  cases hw : wrong xs task ns with
  | true => rw [hw] at h; simp at h
  | false =>
    rw [hw] at h
    simp only [Bool.false_eq_true, if_false] at h
    obtain ⟨h1, h2, h3⟩ := not_wrong hw
    refine ⟨h1, h2, h3, ?_⟩
    split at h <;> omega
theorem Ok.add {s : Bk} (h : Ok s) {xs : List Int} {task ns : Int} (h0 : 0 ≤ ns) (h1 : 0 ≤ task) (h2 : ns ≤ top - s.tot) : Ok (add s xs task ns) := by
  obtain ⟨ht, hg, hn, hl, hh⟩ := h
  refine ⟨fun i => ?_, fun i => ?_, fun i hi => ?_, ?_, ?_⟩
  · show 0 ≤ upd s.t task (s.t task + ns) i ∧ upd s.t task (s.t task + ns) i ≤ s.tot + ns
    have a := ht i; have b := ht task
    unfold upd; split <;> omega
  · show 0 ≤ addG s.g xs ns i ∧ addG s.g xs ns i ≤ s.tot + ns
    have a := hg i
    unfold addG; split <;> omega
  · show upd s.t task (s.t task + ns) i = 0
    rw [upd_ne _ (by omega)]; exact hn i hi
  · show 0 ≤ s.tot + ns; omega
  · show s.tot + ns ≤ top; omega
theorem Ok.cre {s : Bk} (h : Ok s) (xs : List Int) (task ns : Int) : Ok (cre s xs task ns) := by
  unfold Ledger.cre
  split
  · rename_i hc
    obtain ⟨h0, h1, _, h2⟩ := code_zero hc
    exact h.add h0 h1 h2
  · exact h
theorem Ok.fgt {s : Bk} (h : Ok s) (task : Int) : Ok (fgt s task) := by
  obtain ⟨ht, hg, hn, hl, hh⟩ := h
  refine ⟨fun i => ?_, hg, fun i hi => ?_, hl, hh⟩
  · show 0 ≤ upd s.t task 0 i ∧ upd s.t task 0 i ≤ s.tot
    have a := ht i
    unfold upd; split <;> omega
  · show upd s.t task 0 i = 0
    unfold upd; split
    · rfl
    · exact hn i hi
/-- A credit of nothing turns nothing. -/
theorem add_zero (s : Bk) (xs : List Int) (task : Int) : add s xs task 0 = s := by
  obtain ⟨t, g, tot⟩ := s
  simp only [add, Bk.mk.injEq]
  refine ⟨?_, ?_, by omega⟩
  · rw [Int.add_zero]; exact upd_same t task
  · funext i; unfold addG; split <;> simp

/-! ### a path that is sorted, and told each once -/
theorem sorted_low {xs : List Int} {y : Int} {ys : List Int} (h : xs.mergeSort (fun x y => decide (x ≤ y)) = y :: ys) : low xs = decide (y < 0) := by
  have tr : ∀ a b c : Int, decide (a ≤ b) = true → decide (b ≤ c) = true → decide (a ≤ c) = true := fun a b c h1 h2 => by simp only [decide_eq_true_eq] at *; omega
  have to : ∀ a b : Int, (decide (a ≤ b) || decide (b ≤ a)) = true := fun a b => by simp only [Bool.or_eq_true, decide_eq_true_eq]; omega
  have hp := List.mergeSort_perm xs (fun x y => decide (x ≤ y))
  have hs := List.pairwise_mergeSort tr to xs
  rw [h] at hp hs
  rw [List.pairwise_cons] at hs
  unfold low
  rw [Bool.eq_iff_iff, List.any_eq_true]
  simp only [decide_eq_true_eq]
  constructor
  · rintro ⟨x, hx, hlt⟩
    rcases List.mem_cons.1 (hp.mem_iff.2 hx) with rfl | hm
    · exact hlt
    · have := hs.1 x hm
      simp only [decide_eq_true_eq] at this
      omega
  · intro hlt
    exact ⟨y, hp.mem_iff.1 (by simp), hlt⟩
theorem keeps_succ (zs : List Int) (j : Nat) (a b : Int) (h0 : zs[j]? = some a) (h1 : zs[j + 1]? = some b) : Lib.keeps zs.toArray (j + 1) = decide (b ≠ a) := by
  obtain ⟨k0, rfl⟩ := List.getElem?_eq_some_iff.1 h0
  obtain ⟨k1, rfl⟩ := List.getElem?_eq_some_iff.1 h1
  unfold Lib.keeps
  simp [k0, k1]
theorem filter_len_lt {α : Type} (p : α → Bool) : ∀ (l : List α) (a : α), a ∈ l → p a = false → (l.filter p).length < l.length
  | x :: l, a, ha, hp => by
    rw [List.filter_cons]
    split
    · rename_i hx
      rcases List.mem_cons.1 ha with rfl | hm
      · rw [hp] at hx; cases hx
      · have := filter_len_lt p l a hm hp; simp only [List.length_cons]; omega
    · have := List.length_filter_le p l; simp only [List.length_cons]; omega
/-- Of a list that does not fall, told each once: as long as before just if none is there twice. -/
theorem compact_len {zs : List Int} (hs : zs.Pairwise (fun x y => x ≤ y)) : ((Lib.compact zs).length = zs.length) ↔ zs.Nodup := by
  constructor
  · intro h
    have hk : ∀ j, j < zs.length → Lib.keeps zs.toArray j = true := by
      intro j hj
      cases hb : Lib.keeps zs.toArray j with
      | true => rfl
      | false =>
        exfalso
        have := filter_len_lt (Lib.keeps zs.toArray) (List.range zs.length) j (by simpa using hj) hb
        simp [Lib.compact, Lib.compactUpTo] at h
        simp at this
        omega
    rw [List.nodup_iff_pairwise_ne, List.pairwise_iff_getElem]
    intro i j hi hj hij e
    have h1 : zs[j - 1]? = some zs[j - 1] := List.getElem?_eq_getElem (by omega)
    have h2 : zs[j - 1 + 1]? = some zs[j] := by rw [show j - 1 + 1 = j by omega]; exact List.getElem?_eq_getElem hj
    have h3 := keeps_succ zs (j - 1) _ _ h1 h2
    rw [show j - 1 + 1 = j by omega, hk j hj] at h3
    have h4 : zs[j] ≠ zs[j - 1] := by simpa using h3.symm
    have h5 := List.pairwise_iff_getElem.1 hs (j - 1) j (by omega) hj (by omega)
    by_cases e2 : i = j - 1
    · subst e2; exact h4 e.symm
    · have h6 := List.pairwise_iff_getElem.1 hs i (j - 1) hi (by omega) (by omega)
      omega
  · intro hn
    rw [Lib.compact_all]
    intro j hj
    cases j with
    | zero => simp [Lib.keeps]
    | succ j =>
      rw [keeps_succ zs j _ _ (List.getElem?_eq_getElem (by omega)) (List.getElem?_eq_getElem hj)]
      rw [List.nodup_iff_pairwise_ne, List.pairwise_iff_getElem] at hn
      have := hn j (j + 1) (by omega) hj (by omega)
      simpa using fun e => this e.symm
theorem sorted_good (xs : List Int) : good xs = (!low xs && decide ((Lib.compact (xs.mergeSort (fun x y => decide (x ≤ y)))).length = xs.length)) := by
  have tr : ∀ a b c : Int, decide (a ≤ b) = true → decide (b ≤ c) = true → decide (a ≤ c) = true := fun a b c h1 h2 => by simp only [decide_eq_true_eq] at *; omega
  have to : ∀ a b : Int, (decide (a ≤ b) || decide (b ≤ a)) = true := fun a b => by simp only [Bool.or_eq_true, decide_eq_true_eq]; omega
  have hp := List.mergeSort_perm xs (fun x y => decide (x ≤ y))
  have hs := List.pairwise_mergeSort tr to xs
  have hc := compact_len (hs.imp fun h => by simpa using h)
  rw [hp.length_eq, hp.nodup_iff] at hc
  unfold good
  congr 1
  exact decide_eq_decide.2 hc.symm
/-- Rising, and those that had something. -/
def Ris (f : Int → Int) (l : List Int) : Prop := l.Pairwise (· < ·) ∧ ∀ i, i ∈ l ↔ f i ≠ 0
theorem Ris.nodup {f : Int → Int} {l : List Int} (h : Ris f l) : l.Nodup := h.1.imp fun h => by omega
theorem Ris.uniq {f : Int → Int} {l l' : List Int} (h : Ris f l) (h' : Ris f l') : l = l' := by
  refine List.Perm.eq_of_pairwise (le := fun a b => a < b) (fun a b _ _ h1 h2 => by omega) h.1 h'.1 ?_
  exact (List.perm_ext_iff_of_nodup h.nodup h'.nodup).2 fun i => by rw [h.2, h'.2]
theorem ris_sort {f : Int → Int} {l : List Int} (hn : l.Nodup) (h : ∀ i, i ∈ l ↔ f i ≠ 0) : Ris f (l.mergeSort (fun x y => decide (x ≤ y))) := by
  have tr : ∀ a b c : Int, decide (a ≤ b) = true → decide (b ≤ c) = true → decide (a ≤ c) = true := fun a b c h1 h2 => by simp only [decide_eq_true_eq] at *; omega
  have to : ∀ a b : Int, (decide (a ≤ b) || decide (b ≤ a)) = true := fun a b => by simp only [Bool.or_eq_true, decide_eq_true_eq]; omega
  have hp := List.mergeSort_perm l (fun x y => decide (x ≤ y))
  have hs := List.pairwise_mergeSort tr to l
  have hm : (l.mergeSort (fun x y => decide (x ≤ y))).Nodup := hp.nodup_iff.2 hn
  refine ⟨(hs.and hm).imp fun ⟨h1, h2⟩ => ?_, fun i => by rw [hp.mem_iff, h]⟩
  simp only [decide_eq_true_eq] at h1
  omega
end Go.Proofs.Ytnocgdhepmgncaa.Ledger
