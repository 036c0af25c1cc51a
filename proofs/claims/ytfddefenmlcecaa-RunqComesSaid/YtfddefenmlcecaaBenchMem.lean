/- A bench: a queue that is worked on, and what each of eight had when it was dropped; how it lies in memory; its calls most and here. Conditions: as each fact states them. -/
import Derived.Test.YtfddefenmlcecaaQueueSame
import Derived.Test.YtfddefenmlcecaaRunqWake
namespace Go.Proofs.Ytfddefenmlcecaa.Queue
open Go.ChangeShapes Go.WideShapes Go.ChangeAt Go.RowKit Tree
set_option linter.unusedVariables false
set_option linter.unusedSimpArgs false
set_option maxRecDepth 100000

def benchL (q : Nat) (own : List Ent) (cr gr tk : Int) : List Value := .pointer (some ⟨q, 0, none⟩) :: (cellsE own ++ [.int .i64 cr, .int .i64 gr, .int .u64 tk])
theorem cellsE_len (l : List Ent) : (cellsE l).length = 4 * l.length := by
  induction l with
  | nil => rfl
  | cons e l ih => simp [cellsE, ih]; omega
/-- A bench's block. -/
structure Be (w : World) (b q : Nat) (own : List Ent) (cr gr tk : Int) : Prop where
  blk : w.heap[b]? = some (.cells (benchL q own cr gr tk).toArray 64 (0, 0))
  len : own.length = 8
theorem Be.on {w w' : World} {b q : Nat} {own : List Ent} {cr gr tk : Int} (h : Be w b q own cr gr tk) (e : w'.heap[b]? = w.heap[b]?) : Be w' b q own cr gr tk := ⟨e.trans h.blk, h.len⟩
theorem Be.lt {w : World} {b q : Nat} {own : List Ent} {cr gr tk : Int} (h : Be w b q own cr gr tk) : b < w.heap.size := lt_of h.blk
theorem Be.fresh {w w' : World} {b q : Nat} {own : List Ent} {cr gr tk : Int} (h : Be w b q own cr gr tk) (g : Below w.heap.size w w') : Be w' b q own cr gr tk := h.on (g.block b h.lt)
theorem Be.cells {w : World} {b q : Nat} {own : List Ent} {cr gr tk : Int} (h : Be w b q own cr gr tk) :
    w.cell? ⟨b, 0, none⟩ = some (.pointer (some ⟨q, 0, none⟩)) ∧ w.cell? ⟨b, 33, none⟩ = some (.int .i64 cr) ∧ w.cell? ⟨b, 34, none⟩ = some (.int .i64 gr) ∧ w.cell? ⟨b, 35, none⟩ = some (.int .u64 tk) ∧ (∀ j, w.frozen? ⟨b, j, none⟩ = false) := by
  have hl : (cellsE own).length = 32 := by rw [cellsE_len, h.len]
  refine ⟨?_, ?_, ?_, ?_, fun j => frozen_of_row w b j _ _ h.blk⟩
  all_goals rw [cell_of_row w b _ _ _ _ h.blk]
  · rfl
  · simp [benchL, List.getElem?_append_right, hl]
  · simp [benchL, List.getElem?_append_right, hl]
  · simp [benchL, List.getElem?_append_right, hl]
theorem Be.own {w : World} {b q : Nat} {own : List Ent} {cr gr tk : Int} (h : Be w b q own cr gr tk) {i : Nat} {e : Ent} (he : own[i]? = some e) :
    w.cell? ⟨b, 1 + i * 4, none⟩ = some (.int .i64 e.id) ∧ w.cell? ⟨b, 1 + i * 4 + 1, none⟩ = some (.int .u64 e.wt) ∧ w.cell? ⟨b, 1 + i * 4 + 2, none⟩ = some (.int .i64 e.v) ∧ w.cell? ⟨b, 1 + i * 4 + 3, none⟩ = some (.int .u64 e.rm) := by
  obtain ⟨c0, c1, c2, c3⟩ := cellsE_at he
  have key : ∀ k v, (cellsE own)[k]? = some v → w.cell? ⟨b, 1 + k, none⟩ = some v := by
    intro k v hv
    have hk : k < (cellsE own).length := (List.getElem?_eq_some_iff.1 hv).1
    rw [cell_of_row w b _ _ _ _ h.blk]
    simp only [benchL, List.getElem?_toArray, Nat.add_comm 1 k, List.getElem?_cons_succ]
    rw [List.getElem?_append_left hk]
    exact hv
  exact ⟨key _ _ c0, key _ _ c1, key _ _ c2, key _ _ c3⟩

theorem cellsE_set : ∀ (own : List Ent) (i : Nat) (e : Ent), i < own.length → cellsE (own.set i e) = ((((cellsE own).set (i * 4) (.int .i64 e.id)).set (i * 4 + 1) (.int .u64 e.wt)).set (i * 4 + 2) (.int .i64 e.v)).set (i * 4 + 3) (.int .u64 e.rm)
  | [], i, e, h => by simp at h
  | d :: l, 0, e, h => by simp [cellsE]
  | d :: l, i + 1, e, h => by
    have ih := cellsE_set l i e (by simpa using h)
    rw [List.set_cons_succ]
    simp only [cellsE]
    rw [ih, show (i + 1) * 4 = i * 4 + 1 + 1 + 1 + 1 by omega]
    simp only [List.set_cons_succ]
theorem set_in (x : Value) (l m : List Value) (k : Nat) (v : Value) (h : k < l.length) : (x :: (l ++ m)).set (k + 1) v = x :: (l.set k v ++ m) := by rw [List.set_cons_succ, List.set_append_left _ _ h]
theorem benchL_set (q : Nat) (own : List Ent) (cr gr tk : Int) (i : Nat) (e : Ent) (h : i < own.length) :
    ((((benchL q own cr gr tk).set (1 + i * 4) (.int .i64 e.id)).set (1 + i * 4 + 1) (.int .u64 e.wt)).set (1 + i * 4 + 2) (.int .i64 e.v)).set (1 + i * 4 + 3) (.int .u64 e.rm) = benchL q (own.set i e) cr gr tk := by
  have hl := cellsE_len own
  unfold benchL
  rw [cellsE_set own i e h, show 1 + i * 4 + 3 = (i * 4 + 3) + 1 by omega, show 1 + i * 4 + 2 = (i * 4 + 2) + 1 by omega, show 1 + i * 4 + 1 = (i * 4 + 1) + 1 by omega, show 1 + i * 4 = i * 4 + 1 by omega]
  rw [set_in _ _ _ _ _ (by omega), set_in _ _ _ _ _ (by rw [List.length_set]; omega), set_in _ _ _ _ _ (by rw [List.length_set, List.length_set]; omega), set_in _ _ _ _ _ (by rw [List.length_set, List.length_set, List.length_set]; omega)]
/-- One of the eight stored. -/
theorem Be.setOwn {w : World} {b q : Nat} {own : List Ent} {cr gr tk : Int} (h : Be w b q own cr gr tk) (i : Nat) (hi : i < 8) (e : Ent) :
    Be ((((w.setCell ⟨b, 1 + i * 4, none⟩ (.int .i64 e.id)).setCell ⟨b, 1 + i * 4 + 1, none⟩ (.int .u64 e.wt)).setCell ⟨b, 1 + i * 4 + 2, none⟩ (.int .i64 e.v)).setCell ⟨b, 1 + i * 4 + 3, none⟩ (.int .u64 e.rm)) b q (own.set i e) cr gr tk := by
  have hl : (cellsE own).length = 32 := by rw [cellsE_len, h.len]
  have h1 := heap_setCell_same w b (1 + i * 4) _ _ (.int .i64 e.id) h.blk
  have h2 := heap_setCell_same _ b (1 + i * 4 + 1) _ _ (.int .u64 e.wt) h1
  have h3 := heap_setCell_same _ b (1 + i * 4 + 2) _ _ (.int .i64 e.v) h2
  have h4 := heap_setCell_same _ b (1 + i * 4 + 3) _ _ (.int .u64 e.rm) h3
  simp only [List.setIfInBounds_toArray] at h4
  rw [benchL_set q own cr gr tk i e (by rw [h.len]; exact hi)] at h4
  exact ⟨h4, by rw [List.length_set]; exact h.len⟩

def mostOf (tk : Int) : Int := (1024 * tk + 63) / 64
theorem mosts (w : World) (b q : Nat) (own : List Ent) (cr gr tk : Int) (h : Be w b q own cr gr tk) (h1 : 0 ≤ tk) (h2 : tk ≤ 65536) : Calls Try.prog 30 #[.pointer (some ⟨b, 0, none⟩)] w (Is (.int .i64 (mostOf tk)) w) := by
  obtain ⟨c0, c1, c2, c3, fz⟩ := h.cells
  clear h
  go_enter Try.func30, Try.ntmps30
  go_wp2
  go_ret
  exact ⟨rfl, Below.refl _ _⟩

def HereI (w : World) (len : Nat) (left : Nat) (t : Value) (wr : World) : Prop := ∃ j : Nat, j ≤ len ∧ left = len - j ∧ t = .int .i64 j ∧ wr = w
theorem heres (w : World) (b q : Nat) (O : Nat → Prop) (own : List Ent) (cr gr tk id : Int) (st : St) (h : Be w b q own cr gr tk) (hq : Qu w q O st) (ho : Once st.es) (hid : ∀ e ∈ st.es, I64 e.id) (hl : st.es.length ≤ 500) :
    Calls Try.prog 66 #[.pointer (some ⟨b, 0, none⟩), .int .i64 id] w (Is (.bool (named st.es id)) w) := by
  obtain ⟨c0, c1, c2, c3, fz⟩ := h.cells
  have E := Lib.hid (ents w q O st hq ho hid hl)
  clear h hq ho hid fz c1 c2 c3
  go_enter Try.func66, Try.ntmps66
  go_wp2_with (go_at_call 28; refine (E.out).mono ?_; rintro e w1 ⟨v, rfl, R, hg1⟩)
  obtain ⟨ao, cp, rfl, hao, hcp⟩ := R.shape
  have L := Lib.hid (R.lst rfl)
  clear R E c0
  generalize hn : st.es.length = n at *
  go_loopw [6] (fun t wr => ∃ j : Nat, j ≤ n ∧ t = .int .i64 j ∧ wr = w1 ∧ Hid (∀ i e, i < j → st.es[i]? = some e → e.id ≠ id)) (fun t _ => match t with | .int _ z => n - z.toNat | _ => 0)
  case atStart => exact ⟨0, by omega, rfl, rfl, Lib.hid (by intro i e hi; omega)⟩
  case round =>
    obtain ⟨j, hj, rfl, rfl, H⟩ := hrel
    by_cases hjn : j < n
    · have hjn' : (j : Int) < (n : Int) := by omega
      obtain ⟨e, he⟩ : ∃ e, st.es[j]? = some e := ⟨_, List.getElem?_eq_getElem (by omega)⟩
      obtain ⟨g, rfl, hgl, k0, _, _, _⟩ := L.out j e he
      by_cases hid : e.id = id
      · have hnm : named st.es id = true := by unfold named; rw [List.any_eq_true]; exact ⟨e, List.mem_of_getElem? he, by simpa using hid⟩
        rw [hnm]
        rw [hid] at k0
        clear H he
        go_wp2_with fail
        go_ret
        exact ⟨rfl, hg1⟩
      · have hne : (e.id == id) = false := by simpa using hid
        have H' : Hid (∀ i f, i < j + 1 → st.es[i]? = some f → f.id ≠ id) := Lib.hid (fun i f hi hf => by
          rcases Nat.lt_succ_iff_lt_or_eq.1 hi with h1 | rfl
          · exact H.out i f h1 hf
          · rw [he] at hf; cases hf; exact hid)
        generalize e.id = ei at *
        clear H he hid
        go_wp2_with fail
        exact ⟨⟨j + 1, by omega, by simp, by simp, H'⟩, by simp; omega⟩
    · have hjn' : ¬ (j : Int) < (n : Int) := by omega
      have hnm : named st.es id = false := by
        unfold named
        rw [List.any_eq_false]
        intro e he
        obtain ⟨i, hi⟩ := List.getElem?_of_mem he
        have := H.out i e (by have := (List.getElem?_eq_some_iff.1 hi).1; omega) hi
        simpa using this
      have NM := Lib.hid hnm
      clear H hnm
      go_wp2_with fail
      go_ret
      exact ⟨by rw [NM.out]; rfl, hg1⟩
end Go.Proofs.Ytfddefenmlcecaa.Queue
