/- What slices.Reverse does to a slice of integers. Conditions: none. -/
import Derived.Test.YtanahddlnchioaaGtUnder
import Derived.BigRegion
namespace Go.Proofs.Ytanahddlnchioaa.Gt
open Go.ChangeShapes Go.WideShapes Go.ChangeAt Go.RowKit Hp
set_option linter.unusedVariables false
set_option linter.unusedSimpArgs false

def ints (l : List Int) : List Value := l.map (Value.int .i64)
/-- The first k and the last k are turned round. -/
def rv (xs : List Int) (k : Nat) : List Int := (List.range xs.length).map fun t => xs.getD (if t < k ∨ xs.length - k ≤ t then xs.length - 1 - t else t) 0
theorem rv_length (xs : List Int) (k : Nat) : (rv xs k).length = xs.length := by simp [rv]
theorem rv_get (xs : List Int) (k t : Nat) (ht : t < xs.length) : (rv xs k)[t]? = some (xs.getD (if t < k ∨ xs.length - k ≤ t then xs.length - 1 - t else t) 0) := by
  simp [rv, ht]
theorem getD_lt {xs : List Int} {t : Nat} (ht : t < xs.length) : xs[t]? = some (xs.getD t 0) := by
  rw [List.getD_eq_getElem?_getD, List.getElem?_eq_getElem ht]; rfl
theorem rv_zero (xs : List Int) : rv xs 0 = xs := by
  apply List.ext_getElem?
  intro t
  by_cases ht : t < xs.length
  · rw [rv_get _ _ _ ht, if_neg (by omega), getD_lt ht]
  · rw [List.getElem?_eq_none (by rw [rv_length]; omega), List.getElem?_eq_none (by omega)]
theorem rv_last (xs : List Int) (k : Nat) (hk : xs.length ≤ 2 * k + 1) : rv xs k = xs.reverse := by
  apply List.ext_getElem?
  intro t
  by_cases ht : t < xs.length
  · rw [rv_get _ _ _ ht, List.getElem?_reverse ht, getD_lt (by omega)]
    congr 2
    split <;> omega
  · rw [List.getElem?_eq_none (by rw [rv_length]; omega), List.getElem?_eq_none (by simp; omega)]
theorem rv_step (xs : List Int) (k : Nat) (hk : 2 * k + 1 < xs.length) : ((rv xs k).set k (xs.getD (xs.length - 1 - k) 0)).set (xs.length - 1 - k) (xs.getD k 0) = rv xs (k + 1) := by
  apply List.ext_getElem?
  intro t
  by_cases ht : t < xs.length
  · rw [rv_get _ _ _ ht]
    by_cases h1 : t = xs.length - 1 - k
    · subst h1
      rw [List.getElem?_set_self (by rw [List.length_set, rv_length]; omega), if_pos (by omega)]
      congr 2; omega
    · rw [List.getElem?_set_ne (fun e => h1 e.symm)]
      by_cases h2 : t = k
      · subst h2
        rw [List.getElem?_set_self (by rw [rv_length]; omega), if_pos (by omega)]
      · rw [List.getElem?_set_ne (fun e => h2 e.symm), rv_get _ _ _ ht]
        congr 2
        split <;> split <;> omega
  · rw [List.getElem?_eq_none (by rw [List.length_set, List.length_set, rv_length]; omega), List.getElem?_eq_none (by rw [rv_length]; omega)]

/-- Nothing but the row's own block has changed. -/
def ButOwn (v : Value) (w w' : World) : Prop := w'.os = w.os ∧ w'.tape = w.tape ∧ w'.output = w.output ∧ w.heap.size ≤ w'.heap.size ∧ ∀ k, k < w.heap.size → v.ownBlock ≠ some k → w'.heap[k]? = w.heap[k]?
def IsRev (B : Nat) (v : Value) (xs : List Int) (w : World) (e : Ending) (w' : World) : Prop := e = .returned (.tuple #[]) ∧ w'.ownsRow B 3 1 v xs.length (ints xs.reverse) ∧ ButOwn v w w'
def RevI (B g c : Nat) (xs : List Int) (w : World) (left : Nat) (ti tj : Value) (wr : World) : Prop :=
  ∃ k : Nat, 2 * k ≤ xs.length + 1 ∧ left + k = xs.length + 1 ∧ ti = .int .i64 k ∧ tj = .int .i64 ((xs.length : Int) - 1 - k) ∧ wr.ownsRow B 3 1 (.slice (some ⟨g, 0, none⟩) xs.length c) xs.length (ints (rv xs k)) ∧ But g w wr
theorem ints_get {l : List Int} {t : Nat} {x : Int} (h : l[t]? = some x) : (ints l)[t]? = some (.int .i64 x) := by simp [ints, h]
theorem ints_set (l : List Int) (t : Nat) (x : Int) : ints (l.set t x) = (ints l).set t (.int .i64 x) := by simp [ints, List.map_set]

theorem reverse_nil (w : World) (v : Value) (B : Nat) (h : w.ownsRow B 3 1 v 0 []) : Calls Try.prog 46 #[v] w (IsRev B v [] w) := by
  obtain ⟨ao, cap, rfl⟩ : ∃ ao cap, v = .slice ao 0 cap := by
    rcases h.2 with ⟨rfl, _⟩ | ⟨g, cap, cur, rfl, _⟩
    · exact ⟨_, _, rfl⟩
    · exact ⟨_, _, rfl⟩
  replace h := Lib.hid h
  go_enter Try.func46, Try.ntmps46
  go_wp2
  refine wp_loop_rounds 1 ?_
  rw [rounds_succ]
  go_wp2
  go_end0
  exact ⟨rfl, h.out, rfl, rfl, rfl, Nat.le_refl _, fun _ _ _ => rfl⟩
theorem reverse (w : World) (v : Value) (B : Nat) (xs : List Int) (h : w.ownsRow B 3 1 v xs.length (ints xs)) (hn : xs.length ≤ 4096) (h0 : 0 < xs.length) :
    Calls Try.prog 46 #[v] w (IsRev B v xs w) := by
  obtain ⟨g, c, rfl, _⟩ := h.form h0
  replace h := Lib.hid h
  go_enter Try.func46, Try.ntmps46
  go_wp2
  go_loopg [2, 3] (xs.length + 1) (fun left ti tj wr => RevI B g c xs w left ti tj wr)
  case atStart => exact ⟨0, by omega, by omega, rfl, by simp, by rw [rv_zero]; exact h.out, But.of (Below.refl _ w)⟩
  case round =>
    obtain ⟨k, hk, hleft, rfl, rfl, hown, hbut⟩ := hrel
    by_cases hlt : 2 * k + 1 < xs.length
    · obtain ⟨m, hm⟩ : ∃ m, m = xs.length - 1 - k := ⟨_, rfl⟩
      have hj : ((xs.length : Int) - 1 - k) = (m : Int) := by omega
      have r1 := hown.cellAt k (by omega)
      have r2 := hown.cellAt m (by omega)
      rw [ints_get (rv_get xs k k (by omega)), if_neg (by omega)] at r1
      rw [ints_get (rv_get xs k m (by omega)), if_neg (by omega)] at r2
      have z1 := hown.frozenAt k
      have z2 := hown.frozenAt m
      have hst := rv_step xs k hlt
      rw [← hm] at hst
      generalize xs.getD k 0 = x1 at *
      generalize xs.getD m 0 = x2 at *
      have nx : Hid (((wr.setCell ⟨g, k, none⟩ (.int .i64 x2)).setCell ⟨g, m, none⟩ (.int .i64 x1)).drew.ownsRow B 3 1 (.slice (some ⟨g, 0, none⟩) xs.length c) xs.length (ints (rv xs (k + 1))) ∧ But g w ((wr.setCell ⟨g, k, none⟩ (.int .i64 x2)).setCell ⟨g, m, none⟩ (.int .i64 x1)).drew) := by
        have hb := (hbut.setCell (p := ⟨g, k, none⟩) (.inl rfl) (.int .i64 x2)).setCell (p := ⟨g, m, none⟩) (.inl rfl) (.int .i64 x1)
        refine ⟨?_, hb.os, hb.tape, hb.output, hb.size, hb.block⟩
        have := ((hown.stored k (.int .i64 x2)).1.stored m (.int .i64 x1)).1
        rw [← ints_set, ← ints_set, hst] at this
        exact this
      have q1 : (k : Int) < xs.length := by omega
      have q2 : (m : Int) < xs.length := by omega
      have q3 : (k : Int) < m := by omega
      have q4 : Hid ((m : Int) - 1 = (xs.length : Int) - 1 - ((k + 1 : Nat) : Int)) := by show _ = _; omega
      have q5 : Hid (gk - 1 + (k + 1) = xs.length + 1 ∧ 0 < gk ∧ 2 * (k + 1) ≤ xs.length + 1) := by show _ ∧ _; omega
      rw [hj]
      have hne : ¬ k = m := by omega
      clear hm hj hown hbut hlt hst hk hleft h
      have hlen : (xs.length : Int) ≤ 4096 := by omega
      go_wp2
      go_region
      go_wp2
      go_roundg (gk - 1)
      case measure => have := q5.out; omega
      case rel => exact ⟨k + 1, q5.out.2.2, q5.out.1, by go_num, by rw [← q4.out], nx.out.1, nx.out.2⟩
    · have hx := rv_last xs k (by omega)
      rw [hx] at hown
      replace hown := Lib.hid hown
      replace hbut := Lib.hid hbut
      have q3 : ¬ (k : Int) < (xs.length : Int) - 1 - k := by omega
      clear hx h
      go_wp2
      go_end0
      exact ⟨rfl, hown.out, hbut.out.os, hbut.out.tape, hbut.out.output, hbut.out.size, fun j hj hv => hbut.out.block j hj (fun e => hv (by simp [Value.ownBlock, e]))⟩
end Go.Proofs.Ytanahddlnchioaa.Gt
