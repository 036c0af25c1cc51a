/- A tree of groups in memory; what names, isRoot and Parent of package gtree answer. Conditions: none. -/
import Derived.Test.YtanahddlnchioaaHpLaws
import Derived.Deep.RegionWith
namespace Go.Proofs.Ytanahddlnchioaa.Gt
open Go.ChangeShapes Go.WideShapes Go.ChangeAt Go.RowKit Hp
set_option linter.unusedVariables false
set_option linter.unusedSimpArgs false

/-- A tree at block tb, its pool at block b, none of their blocks in O. -/
structure Tre (w : World) (tb b : Nat) (O : Nat → Prop) (st : St) : Prop where
  blk : w.heap[tb]? = some (.cells #[.pointer (some ⟨b, 0, none⟩)] 61 (0, 0))
  out : ¬ O tb
  pool : Pool w b (With O tb) st
theorem Tre.fresh {w w' : World} {tb b : Nat} {O : Nat → Prop} {st : St} (h : Tre w tb b O st) (hg : Below w.heap.size w w') : Tre w' tb b O st :=
  ⟨heap_fresh h.blk hg, h.out, h.pool.fresh hg⟩
theorem Tre.cell {w : World} {tb b : Nat} {O : Nat → Prop} {st : St} (h : Tre w tb b O st) : w.cell? ⟨tb, 0, none⟩ = some (.pointer (some ⟨b, 0, none⟩)) := by
  rw [cell_of_row w tb _ _ _ _ h.blk]; rfl
theorem Tre.lt {w : World} {tb b : Nat} {O : Nat → Prop} {st : St} (h : Tre w tb b O st) : tb < w.heap.size := lt_of h.blk
theorem Tre.other {w : World} {tb b : Nat} {O O' : Nat → Prop} {st : St} (h : Tre w tb b O st) (hO : ∀ k, O' k → O k ∨ w.heap.size ≤ k) : Tre w tb b O' st := by
  refine ⟨h.blk, fun h1 => ?_, h.pool.other fun k hk => ?_⟩
  · rcases hO _ h1 with h2 | h2
    · exact h.out h2
    · have := h.lt; omega
  · rcases hk with hk | rfl
    · rcases hO k hk with h2 | h2
      · exact .inl (.inl h2)
      · exact .inr h2
    · exact .inl (.inr rfl)
theorem alloc1 (w : World) (o : Obj) : Below w.heap.size w (w.alloc o) := (Below.refl _ w).alloc (Nat.le_refl _) o

theorem alloc1d (w : World) (o : Obj) : Below w.heap.size w (w.alloc o).drew := (alloc1 w o).drew
theorem alloc2d' (w : World) (o1 o2 : Obj) : Below w.heap.size w ((w.alloc o1).alloc o2).drew := (alloc2 w o1 o2).drew
theorem fourd {w w1 : World} {x0 x1 y0 y1 : Value} {t u : TypeId} (h : Below ((w.alloc (.cells #[x0, x1] t)).alloc (.cells #[y0, y1] u)).drew.heap.size ((w.alloc (.cells #[x0, x1] t)).alloc (.cells #[y0, y1] u)).drew w1) :
    w1.cell? ⟨w.heap.size + 1, 0, none⟩ = some y0 ∧ w1.cell? ⟨w.heap.size + 1, 1, none⟩ = some y1 ∧ ∀ j, w1.frozen? ⟨w.heap.size + 1, j, none⟩ = false :=
  box2 (four (w := w) (x0 := x0) (x1 := x1) (t := t) (u := u) (W := (w.alloc (.cells #[x0, x1] t)).alloc (.cells #[y0, y1] u)) ⟨h.os, h.tape, h.output, h.size, h.block⟩ rfl).2.2
theorem names_nil (w : World) (i g : Int) : Calls Try.prog 27 #[.pointer none, .agg #[.int .i64 i, .int .i64 g]] w (IsBool false w) := by
  go_enter Try.func27, Try.ntmps27
  go_wp2
  go_ret; exact ⟨rfl, alloc1 _ _⟩

set_option maxHeartbeats 4000000 in
theorem names (w : World) (tb b : Nat) (O : Nat → Prop) (st : St) (i g : Int) (h : Tre w tb b O st) (h1 : st.pl.length ≤ 4096) :
    Calls Try.prog 27 #[.pointer (some ⟨tb, 0, none⟩), .agg #[.int .i64 i, .int .i64 g]] w (IsBool (st.names i g) w) := by
  have G : Hid _ := fun w h => get w b (With O tb) st i g h h1
  have c0 := cell_alloc h.cell
  have d0 := fun o1 o2 => cell_alloc (c0 o1) o2
  have hn : Hid (st.names i g = (st.err i g == 0)) := by show _ = _; unfold St.err; cases st.names i g <;> rfl
  generalize st.thing i g = x at *
  generalize st.tgen i g = y at *
  generalize st.err i g = z at *
  generalize st.names i g = r at *
  go_enter Try.func27, Try.ntmps27
  go_wp2
  go_region_with (go_at_call 51; first
    | (refine (G.out _ (h.pool.fresh (alloc1d _ _))).mono ?_; rintro e w1 ⟨rfl, hg1⟩; have hg := fresh_trans (alloc1d _ _) hg1; clear hg1)
    | (refine (G.out _ (h.pool.fresh (alloc2d' _ _ _))).mono ?_; rintro e w1 ⟨rfl, hg1⟩; obtain ⟨b0, b1, bz⟩ := fourd hg1; have hg := fresh_trans (alloc2d' _ _ _) hg1; clear hg1))
  all_goals
    go_wp2
    go_ret
    exact ⟨by rw [hn.out]; rfl, by have := hg.size; go_grown⟩
end Go.Proofs.Ytanahddlnchioaa.Gt
