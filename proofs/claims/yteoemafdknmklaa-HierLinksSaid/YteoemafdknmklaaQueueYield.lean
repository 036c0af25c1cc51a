/- What Yield of package runq does where there is no other one. Conditions: each number is one of its kind. -/
import Derived.Test.YteoemafdknmklaaQueueDrop
namespace Go.Proofs.Yteoemafdknmklaa.Queue
open Go.ChangeShapes Go.WideShapes Go.ChangeAt Go.RowKit Tree
set_option linter.unusedVariables false
set_option linter.unusedSimpArgs false
set_option maxRecDepth 100000

/-- Four cells of one block, stored one by one. -/
theorem set4 {w1 : World} {b : Nat} {T : TypeId} {a0 a1 a2 a3 : Value} (h : w1.heap[b]? = some (.cells #[a0, a1, a2, a3] T (0, 0))) (x0 x1 x2 x3 : Value) :
    ((((w1.setCell ⟨b, 0, none⟩ x0).setCell ⟨b, 1, none⟩ x1).setCell ⟨b, 2, none⟩ x2).setCell ⟨b, 3, none⟩ x3).heap[b]? = some (.cells #[x0, x1, x2, x3] T (0, 0)) ∧
    Chg (fun k => k = b) w1 ((((w1.setCell ⟨b, 0, none⟩ x0).setCell ⟨b, 1, none⟩ x1).setCell ⟨b, 2, none⟩ x2).setCell ⟨b, 3, none⟩ x3) := by
  have h1 : (w1.setCell ⟨b, 0, none⟩ x0).heap[b]? = some (.cells #[x0, a1, a2, a3] T (0, 0)) := by rw [heap_setCell_same w1 b 0 _ _ _ h]; rfl
  have h2 : ((w1.setCell ⟨b, 0, none⟩ x0).setCell ⟨b, 1, none⟩ x1).heap[b]? = some (.cells #[x0, x1, a2, a3] T (0, 0)) := by rw [heap_setCell_same _ b 1 _ _ _ h1]; rfl
  have h3 : (((w1.setCell ⟨b, 0, none⟩ x0).setCell ⟨b, 1, none⟩ x1).setCell ⟨b, 2, none⟩ x2).heap[b]? = some (.cells #[x0, x1, x2, a3] T (0, 0)) := by rw [heap_setCell_same _ b 2 _ _ _ h2]; rfl
  refine ⟨by rw [heap_setCell_same _ b 3 _ _ _ h3]; rfl, ((((Chg.refl (fun k => k = b) w1).setCell (p := ⟨b, 0, none⟩) (fun _ => rfl) x0).setCell (p := ⟨b, 1, none⟩) (fun _ => rfl) x1).setCell (p := ⟨b, 2, none⟩) (fun _ => rfl) x2).setCell (p := ⟨b, 3, none⟩) (fun _ => rfl) x3⟩
/-- What stands when the current one was found: the box of the queue, the box of the answer, the box of the one found. -/
structure Found (w : World) (q b : Nat) (cur nc : Int) (X : World) : Prop where
  box : X.cell? ⟨w.heap.size, 0, none⟩ = some (.pointer (some ⟨q, 0, none⟩))
  ans : X.cell? ⟨w.heap.size + 1, 0, none⟩ = some (.int .i64 0)
  fz : ∀ j, X.frozen? ⟨w.heap.size + 1, j, none⟩ = false
  now : X.cell? ⟨b, 2, none⟩ = some (.int .i64 nc)
  lt : b < X.heap.size
  big : w.heap.size + 1 < X.heap.size
  grow : Below w.heap.size w X
theorem Found.fresh {w : World} {q b : Nat} {cur nc : Int} {X Y : World} (h : Found w q b cur nc X) (g : Below X.heap.size X Y) : Found w q b cur nc Y :=
  ⟨(g.cell (p := ⟨w.heap.size, 0, none⟩) (by have := h.big; simp; omega)).trans h.box, (g.cell (p := ⟨w.heap.size + 1, 0, none⟩) h.big).trans h.ans, fun j => (g.frozen (p := ⟨w.heap.size + 1, j, none⟩) h.big).trans (h.fz j), (g.cell (p := ⟨b, 2, none⟩) h.lt).trans h.now, Nat.lt_of_lt_of_le h.lt g.size, Nat.lt_of_lt_of_le h.big g.size, h.grow.trans (g.mono h.grow.size)⟩
theorem found_a {w w1 : World} {q : Nat} {cur na nb nc nd : Int} (y0 : w1.cell? ⟨w.heap.size, 0, none⟩ = some (.pointer (some ⟨q, 0, none⟩))) (y1 : w1.cell? ⟨w.heap.size + 1, 0, none⟩ = some (.int .i64 0)) (yf : ∀ j, w1.frozen? ⟨w.heap.size + 1, j, none⟩ = false) (hgX : Below w.heap.size w w1) (hb : w.heap.size + 1 < w1.heap.size) :
    Found w q w1.heap.size cur nc (w1.alloc (.cells #[.int .i64 na, .int .u64 nb, .int .i64 nc, .int .u64 nd] 30)) := by
  have G := (Below.refl w1.heap.size w1).alloc (Nat.le_refl _) (.cells #[.int .i64 na, .int .u64 nb, .int .i64 nc, .int .u64 nd] 30)
  obtain ⟨n0, n1, n2, n3, nz, nn⟩ := new_four (Below.refl _ (w1.alloc (.cells #[.int .i64 na, .int .u64 nb, .int .i64 nc, .int .u64 nd] 30)))
  exact ⟨(G.cell (p := ⟨w.heap.size, 0, none⟩) (by simp; omega)).trans y0, (G.cell (p := ⟨w.heap.size + 1, 0, none⟩) hb).trans y1, fun j => (G.frozen (p := ⟨w.heap.size + 1, j, none⟩) hb).trans (yf j), n2, lt_of nn, Nat.lt_of_lt_of_le hb G.size, hgX.trans (G.mono hgX.size)⟩
theorem found_b {w w1 : World} {q b : Nat} {cur na nb nc nd : Int} {a0 a1 a2 a3 : Value} (y0 : w1.cell? ⟨w.heap.size, 0, none⟩ = some (.pointer (some ⟨q, 0, none⟩))) (y1 : w1.cell? ⟨w.heap.size + 1, 0, none⟩ = some (.int .i64 0)) (yf : ∀ j, w1.frozen? ⟨w.heap.size + 1, j, none⟩ = false) (hgX : Below w.heap.size w w1) (hb : w.heap.size + 1 < b) (hs : w1.heap[b]? = some (.cells #[a0, a1, a2, a3] 30 (0, 0))) :
    Found w q b cur nc ((((w1.setCell ⟨b, 0, none⟩ (.int .i64 na)).setCell ⟨b, 1, none⟩ (.int .u64 nb)).setCell ⟨b, 2, none⟩ (.int .i64 nc)).setCell ⟨b, 3, none⟩ (.int .u64 nd)) := by
  obtain ⟨s1, s2⟩ := set4 hs (.int .i64 na) (.int .u64 nb) (.int .i64 nc) (.int .u64 nd)
  have hl := lt_of hs
  have G : Below (w.heap.size + 2) w1 _ := s2.below (by omega) (fun i hi => by omega)
  refine ⟨(G.cell (p := ⟨w.heap.size, 0, none⟩) (by simp)).trans y0, (G.cell (p := ⟨w.heap.size + 1, 0, none⟩) (by simp)).trans y1, fun j => (G.frozen (p := ⟨w.heap.size + 1, j, none⟩) (by simp)).trans (yf j), ?_, lt_of s1, ?_, hgX.trans (G.mono (by omega))⟩
  · rw [cell_of_row _ _ _ _ _ _ s1]; rfl
  · have := G.size
    omega
/-- Whether the current one goes for another one. -/
def goes (st : St) (g : Int) : Bool := named st.es st.cur && (match other st with
  | none => false
  | some o => decide (o.v ≤ reach (find st.es st.cur).v g))
def yielded (st : St) (g : Int) : Int := if goes st g then (match other st with
  | none => -1
  | some o => o.id) else chosen st g
end Go.Proofs.Yteoemafdknmklaa.Queue
