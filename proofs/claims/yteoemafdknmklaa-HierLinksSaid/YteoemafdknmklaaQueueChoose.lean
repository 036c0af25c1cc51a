/- What Pick, Yield, Current, Min and Flag of package runq do. Conditions: each number is one of its kind. -/
import Derived.Test.YteoemafdknmklaaQueueStay
import Derived.Recover
namespace Go.Proofs.Yteoemafdknmklaa.Queue
open Go.ChangeShapes Go.WideShapes Go.ChangeAt Go.RowKit Tree
set_option linter.unusedVariables false
set_option linter.unusedSimpArgs false
set_option maxRecDepth 100000

theorem makes (fn : Fn) (first cap : Array Value) (w : World) : (Instr.makeFunc fn first cap).run Try.prog w = .ok (.func fn first cap) w := rfl
theorem picks_close (w : World) (q bq bi : Nat) (x : Int) (v : Value) (u : FrameMode) (h1 : w.cell? ⟨bq, 0, none⟩ = some (.pointer (some ⟨q, 0, none⟩))) (h2 : w.cell? ⟨bi, 0, none⟩ = some (.int .i64 x)) (h3 : w.cell? ⟨q, 2, none⟩ = some v) (h4 : w.frozen? ⟨q, 2, none⟩ = false) :
    CallsD Try.prog 54 #[.pointer (some ⟨bi, 0, none⟩), .pointer (some ⟨bq, 0, none⟩)] u w fun e u' w' => u' = u ∧ (e = .returned (.tuple #[]) ∧ w' = w.setCell ⟨q, 2, none⟩ (.int .i64 x)) := by
  go_enter_d Try.func54, Try.ntmps54
  go_wp2
  go_end0
  exact ⟨rfl, rfl⟩
theorem Qu.setCur {w w' : World} {q : Nat} {O : Nat → Prop} {st : St} (h : Qu w q O st) (hg : Below w.heap.size w w') (x : Int) : Qu (w'.setCell ⟨q, 2, none⟩ (.int .i64 x)) q O { st with cur := x } := by
  obtain ⟨m, t, T, h⟩ := h
  have h' := h.fresh hg
  exact ⟨m, t, T, h'.blk.setCur x, h'.map.on (Below.heap_setCell _ _ _ _ (fun e => h.qm e.symm)), kept_on h'.kept fun b hb => Below.heap_setCell _ _ _ _ (fun e => h.kept.apart b hb (.inr (.inl e))), h.keys, h.oq, h.om, h.qm⟩
theorem pick_nil (w : World) (g : Int) : Calls Try.prog 35 #[.pointer none, .int .i64 g] w (Is (.int .i64 (-1)) w) := by
  have hmf := makes
  go_enter_defers Try.func35, Try.ntmps35
  go_wp2_with (go_at_call 44; refine (made_nil _).mono ?_; rintro e w1 ⟨rfl, rfl⟩)
  exact ⟨.int .i64 (-1), by simp [results, Try.results35, go_sem], rfl, by go_grown⟩
/-- Two new blocks of one cell each, behind whatever else is made. -/
theorem ones {w w1 : World} {x y : Value} {s t : TypeId} (hg : Below ((w.alloc (.cells #[x] s)).alloc (.cells #[y] t)).heap.size ((w.alloc (.cells #[x] s)).alloc (.cells #[y] t)) w1) :
    w1.cell? ⟨w.heap.size, 0, none⟩ = some x ∧ w1.cell? ⟨w.heap.size + 1, 0, none⟩ = some y ∧ (∀ j, w1.frozen? ⟨w.heap.size + 1, j, none⟩ = false) ∧ Below w.heap.size w w1 ∧ w.heap.size + 1 < w1.heap.size := by
  have e1 : (w.alloc (.cells #[x] s)).heap.size = w.heap.size + 1 := by simp
  have a1 : ((w.alloc (.cells #[x] s)).alloc (.cells #[y] t)).heap[w.heap.size + 1]? = some (.cells #[y] t (0, 0)) := by rw [← e1]; exact heap_alloc_new _ _
  have a0 : ((w.alloc (.cells #[x] s)).alloc (.cells #[y] t)).heap[w.heap.size]? = some (.cells #[x] s (0, 0)) := by
    rw [heap_alloc_old _ _ (by rw [e1]; omega)]; exact heap_alloc_new _ _
  have b1 : w1.heap[w.heap.size + 1]? = some (.cells #[y] t (0, 0)) := (hg.block _ (lt_of a1)).trans a1
  have b0 : w1.heap[w.heap.size]? = some (.cells #[x] s (0, 0)) := (hg.block _ (lt_of a0)).trans a0
  refine ⟨?_, ?_, fun j => frozen_of_row w1 _ j _ _ b1, fresh_trans ((Below.refl _ w).alloc (Nat.le_refl _) _) (fresh_trans ((Below.refl _ _).alloc (Nat.le_refl _) _) hg), lt_of b1⟩
  · rw [cell_of_row _ _ _ _ _ _ b0]; rfl
  · rw [cell_of_row _ _ _ _ _ _ b1]; rfl
set_option maxHeartbeats 2000000 in
theorem picks (w : World) (q : Nat) (O : Nat → Prop) (st : St) (g : Int) (h : Qu w q O st) (hO : ∀ k, O k → k < w.heap.size) (ho : Once st.es) (hc : I64 st.cur) (hg : I64 g) (hv : ∀ e ∈ st.es, I64 e.v) :
    Calls Try.prog 35 #[.pointer (some ⟨q, 0, none⟩), .int .i64 g] w (Did (.int .i64 (chosen st g)) { st with cur := chosen st g } q O w) := by
  have hmf := makes
  have M := Lib.hid (fun w' (g : Below w.heap.size w w') => made w' q O st (h.fresh g))
  have S := Lib.hid (fun w' (gb : Below w.heap.size w w') => stayOrFirsts w' q O st g (h.fresh gb) ho hc hg hv)
  have H := Lib.hid (fun w' (gb : Below w.heap.size w w') x => h.setCur gb x)
  have hq := h.lt
  have hqo := h.out
  have c2 : w.cell? ⟨q, 2, none⟩ = some (.int .i64 st.cur) ∧ w.frozen? ⟨q, 2, none⟩ = false := by
    obtain ⟨m, t, T, h⟩ := h
    exact ⟨h.blk.cells.2.2.1, h.blk.cells.2.2.2.2.2 2⟩
  clear h
  generalize chosen st g = x at *
  obtain ⟨_, _, _, hg0, _⟩ := ones (Below.refl _ ((w.alloc (.cells #[.pointer (some ⟨q, 0, none⟩)] 42)).alloc (.cells #[.int .i64 0] 3)))
  go_enter_defers Try.func35, Try.ntmps35
  go_wp2_with (first
    | (go_at_call 44; refine (M.out _ hg0).mono ?_; rintro e w1 ⟨rfl, rfl⟩)
    | (go_at_call 55; refine (S.out _ hg0).mono ?_; rintro e w1 ⟨rfl, hg1⟩; obtain ⟨o0, o1, of, hg2, hl⟩ := ones hg1; clear hg1))
  have hqn : ¬ q = w.heap.size + 1 := by omega
  have hnq : ¬ w.heap.size + 1 = q := by omega
  have x2 := (hg2.cell (p := ⟨q, 2, none⟩) hq).trans c2.1
  have xf := (hg2.frozen (p := ⟨q, 2, none⟩) hq).trans c2.2
  have hgX : Below w.heap.size w (w1.setCell ⟨w.heap.size + 1, 0, none⟩ (.int .i64 x)) := hg2.setCell (by simp) _
  have Z := Lib.hid (H.out _ hgX x)
  refine leaves_cons (f := 54) (args := #[.pointer (some ⟨w.heap.size + 1, 0, none⟩), .pointer (some ⟨w.heap.size, 0, none⟩)]) (by simp) (by simp [go_sem]) ?_
  refine (picks_close _ q w.heap.size (w.heap.size + 1) x (.int .i64 st.cur) .returning (by go_simp) (by go_simp) (by go_simp) (by go_simp)).mono ?_
  rintro e u' w'' ⟨rfl, rfl, rfl⟩
  refine ⟨.int .i64 x, by simp [results, Try.results35, go_sem, hqn, hnq, o1], rfl, Z.out, (Same.of hgX hO).trans (Same.setCell (p := ⟨q, 2, none⟩) hqo _)⟩
end Go.Proofs.Yteoemafdknmklaa.Queue
