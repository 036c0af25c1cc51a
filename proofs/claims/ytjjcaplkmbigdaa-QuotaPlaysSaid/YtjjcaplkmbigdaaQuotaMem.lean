/- A band in memory. Conditions: none. -/
import Derived.Test.YtjjcaplkmbigdaaQuotaPlain
import Derived.Test.YtjjcaplkmbigdaaMem
namespace Go.Proofs.Ytjjcaplkmbigdaa.Quota
open Go.ChangeShapes Go.WideShapes Go.ChangeAt Go.RowKit Mem
set_option linter.unusedVariables false
set_option linter.unusedSimpArgs false

def cL (l : List Int) : List Value := l.map (Value.int .i64)
theorem cL_length (l : List Int) : (cL l).length = l.length := by simp [cL]
theorem cL_at {d : Bd} {k : Nat} (hk : k < d.loc.length) : (cL d.loc)[k]? = some (.int .i64 (d.at k)) := by
  simp [cL, Bd.at, List.getElem?_eq_getElem hk]
theorem cL_set (l : List Int) (k : Nat) (x : Int) : cL (l.set k x) = (cL l).set k (.int .i64 x) := by simp [cL, List.map_set]

def fill : List Int → Nat → Nat → List Int
  | l, _, 0 => l
  | l, o, m + 1 => fill (l.set o 0) (o + 1) m
theorem fill_get : ∀ (m o : Nat) (l : List Int) (k : Nat), (fill l o m)[k]? = if o ≤ k ∧ k < o + m ∧ k < l.length then some 0 else l[k]?
  | 0, o, l, k => by simp [fill]; omega
  | m + 1, o, l, k => by
    rw [fill, fill_get m (o + 1) (l.set o 0) k, List.getElem?_set, List.length_set]
    by_cases h1 : o = k
    · subst h1
      by_cases h2 : o < l.length
      · simp [h2]
      · simp [h2]
    · by_cases h2 : o + 1 ≤ k ∧ k < o + 1 + m ∧ k < l.length
      · rw [if_pos h2, if_pos (by omega)]
      · rw [if_neg h2, if_neg h1, if_neg (by omega)]
theorem fill_all (l : List Int) : fill l 0 l.length = List.replicate l.length 0 := by
  apply List.ext_getElem?
  intro k
  rw [fill_get, List.getElem?_replicate]
  by_cases h : k < l.length
  · rw [if_pos (by omega), if_pos h]
  · rw [if_neg (by omega), if_neg h, List.getElem?_eq_none (by omega)]

/-- A band's block b, and its local times' block g; neither is in O. -/
structure Parts (w : World) (b g : Nat) (O : Nat → Prop) (d : Bd) : Prop where
  blk : w.heap[b]? = some (.cells #[.int .i64 d.q, .int .i64 d.s, .int .i64 d.p, .slice (some ⟨g, 0, none⟩) d.loc.length d.loc.length, .int .i64 d.sp] 65 (0, 0))
  out : ¬ O b
  row : w.ownsRow 0 2 1 (.slice (some ⟨g, 0, none⟩) d.loc.length d.loc.length) d.loc.length (cL d.loc)
  rout : ¬ O g
def Band (w : World) (b : Nat) (O : Nat → Prop) (d : Bd) : Prop := ∃ g, Parts w b g O d

section
variable {w w' : World} {b g : Nat} {O : Nat → Prop} {d : Bd}
theorem Parts.lt (h : Parts w b g O d) : b < w.heap.size := lt_of h.blk
theorem Parts.glt (h : Parts w b g O d) : g < w.heap.size := (h.row.lt g rfl).2
theorem Parts.ne (h : Parts w b g O d) : g ≠ b := fun e => own_ne h.row h.blk (by decide) (by rw [e]; rfl)
theorem Parts.fresh (h : Parts w b g O d) (hg : Below w.heap.size w w') : Parts w' b g O d := ⟨box_fresh h.blk hg, h.out, owns_fresh h.row hg, h.rout⟩
theorem Parts.same {O' : Nat → Prop} (h : Parts w b g O d) (hs : Same O' w w') (hb : O' b) (hg : O' g) : Parts w' b g O d :=
  ⟨(hs.block b hb).trans h.blk, h.out, owns_same h.row hs (by intro k hk; simp [Value.ownBlock] at hk; exact hk ▸ hg), h.rout⟩
theorem Parts.other {O' : Nat → Prop} (h : Parts w b g O d) (hO : ∀ k, O' k → O k ∨ w.heap.size ≤ k) : Parts w b g O' d :=
  ⟨h.blk, fun h1 => (hO b h1).elim h.out (by have := h.lt; omega), h.row, fun h1 => (hO g h1).elim h.rout (by have := h.glt; omega)⟩
theorem Band.lt (h : Band w b O d) : b < w.heap.size := h.elim fun _ h => h.lt
theorem Band.fresh (h : Band w b O d) (hg : Below w.heap.size w w') : Band w' b O d := h.elim fun g h => ⟨g, h.fresh hg⟩
theorem Band.other {O' : Nat → Prop} (h : Band w b O d) (hO : ∀ k, O' k → O k ∨ w.heap.size ≤ k) : Band w b O' d := h.elim fun g h => ⟨g, h.other hO⟩
theorem Parts.drew (h : Parts w b g O d) : Parts w.drew b g O d := h.fresh (Below.refl _ w).drew
theorem Parts.drewN (h : Parts w b g O d) (n : Nat) : Parts (w.drewN n) b g O d := h.fresh (drawn w n)

/-- Stores: into each field, and into a local time. -/
theorem Parts.setBlk (h : Parts w b g O d) {j : Nat} {u : Value} {d' : Bd} (hl : d'.loc = d.loc) (he : #[.int .i64 d.q, .int .i64 d.s, .int .i64 d.p, .slice (some ⟨g, 0, none⟩) d.loc.length d.loc.length, .int .i64 d.sp].setIfInBounds j u = #[.int .i64 d'.q, .int .i64 d'.s, .int .i64 d'.p, .slice (some ⟨g, 0, none⟩) d'.loc.length d'.loc.length, .int .i64 d'.sp]) :
    Parts (w.setCell ⟨b, j, none⟩ u) b g O d' := by
  refine ⟨by rw [set_block h.blk, he], h.out, ?_, h.rout⟩
  rw [hl]
  exact kept_own h.row (one_grown w b j u) h.ne
theorem Parts.setQ (h : Parts w b g O d) (x : Int) : Parts (w.setCell ⟨b, 0, none⟩ (.int .i64 x)) b g O { d with q := x } := h.setBlk rfl rfl
theorem Parts.setS (h : Parts w b g O d) (x : Int) : Parts (w.setCell ⟨b, 1, none⟩ (.int .i64 x)) b g O { d with s := x } := h.setBlk rfl rfl
theorem Parts.setP (h : Parts w b g O d) (x : Int) : Parts (w.setCell ⟨b, 2, none⟩ (.int .i64 x)) b g O { d with p := x } := h.setBlk rfl rfl
theorem Parts.setSp (h : Parts w b g O d) (x : Int) : Parts (w.setCell ⟨b, 4, none⟩ (.int .i64 x)) b g O { d with sp := x } := h.setBlk rfl rfl
theorem Parts.setL (h : Parts w b g O d) (k : Nat) (x : Int) : Parts (w.setCell ⟨g, k, none⟩ (.int .i64 x)) b g O { d with loc := d.loc.set k x } := by
  refine ⟨?_, h.out, ?_, h.rout⟩
  · simp only [List.length_set]
    rw [Below.heap_setCell _ _ _ _ (fun e => h.ne e.symm)]
    exact h.blk
  · simp only [List.length_set, cL_set]
    exact (h.row.stored k _).1
/-- All local times at once. -/
theorem Parts.setSome : ∀ (m o : Nat) {w : World} {d : Bd}, Parts w b g O d → Parts (w.setCells g o (List.replicate m (.int .i64 0))) b g O { d with loc := fill d.loc o m }
  | 0, o, w, d, h => h
  | m + 1, o, w, d, h => Parts.setSome m (o + 1) (h.setL o 0)
theorem Parts.setAll (h : Parts w b g O d) : Parts (w.setCells g 0 (List.replicate d.loc.length (.int .i64 0))) b g O { d with loc := List.replicate d.loc.length 0 } := by
  have := h.setSome d.loc.length 0
  rwa [fill_all] at this
theorem Parts.sameAll {a : World} (hg : ¬ O g) : ∀ (m o : Nat) {w : World}, Same O a w → Same O a (w.setCells g o (List.replicate m (.int .i64 0)))
  | 0, o, w, hs => hs
  | m + 1, o, w, hs => Parts.sameAll hg m (o + 1) (hs.setCell (p := ⟨g, o, none⟩) hg _)
/-- Its cells. -/
theorem Parts.cells (h : Parts w b g O d) : w.cell? ⟨b, 0, none⟩ = some (.int .i64 d.q) ∧ w.cell? ⟨b, 1, none⟩ = some (.int .i64 d.s) ∧ w.cell? ⟨b, 2, none⟩ = some (.int .i64 d.p) ∧ w.cell? ⟨b, 3, none⟩ = some (.slice (some ⟨g, 0, none⟩) d.loc.length d.loc.length) ∧ w.cell? ⟨b, 4, none⟩ = some (.int .i64 d.sp) ∧ (∀ j, w.frozen? ⟨b, j, none⟩ = false) := five h.blk
theorem Parts.cell (h : Parts w b g O d) {k : Nat} (hk : k < d.loc.length) : w.cell? ⟨g, k, none⟩ = some (.int .i64 (d.at k)) := by
  obtain ⟨g', c, e, hc, _⟩ := row_cell h.row (cL_at hk)
  cases e
  exact hc
theorem Parts.free (h : Parts w b g O d) (k : Nat) : w.frozen? ⟨g, k, none⟩ = false := h.row.frozenAt k
theorem Parts.sameB (h : Parts w b g O d) {a : World} (hs : Same O a w) (j : Nat) (u : Value) : Same O a (w.setCell ⟨b, j, none⟩ u) := hs.setCell h.out u
theorem Parts.sameG (h : Parts w b g O d) {a : World} (hs : Same O a w) (j : Nat) (u : Value) : Same O a (w.setCell ⟨g, j, none⟩ u) := hs.setCell h.rout u
end
end Go.Proofs.Ytjjcaplkmbigdaa.Quota
