/- What the calls of package runq answer of a queue that is nil; New; Current, Min and Flag. Conditions: none. -/
import Derived.Test.YteoemafdknmklaaQueueChoose
namespace Go.Proofs.Yteoemafdknmklaa.Queue
open Go.ChangeShapes Go.WideShapes Go.ChangeAt Go.RowKit Tree
set_option linter.unusedVariables false
set_option linter.unusedSimpArgs false
set_option maxRecDepth 100000

theorem cell_alloc {w : World} {a : Addr} {v : Value} (h : w.cell? a = some v) (o : Obj) : (w.alloc o).cell? a = some v :=
  (World.cell?_of_block (Below.heap_alloc w o a.block (World.block_lt_of_cell? w a h))).trans h
theorem drop_nil (w : World) (id : Int) : Calls Try.prog 32 #[.pointer none, .int .i64 id] w (Is (.tuple #[Ent.zero.val, .int .i64 12]) w) := by
  have F := Lib.hid (fun w => finds_nil w id)
  simp only [Ent.val, Ent.zero] at *
  have hg0 := (Below.refl w.heap.size w).alloc (Nat.le_refl _) (.cells #[.int .i64 0, .int .u64 0, .int .i64 0, .int .u64 0] 30)
  go_enter_defers Try.func32, Try.ntmps32
  go_wp2_with (go_at_call 51; refine (F.out _).mono ?_; rintro e w1 ⟨rfl, hg1⟩; obtain ⟨n0, n1, n2, n3, nz, nn⟩ := new_four hg1; replace hg0 := fresh_trans hg0 hg1; have hl := lt_of nn; clear hg1 nn)
  have hs := hg0.size
  have k0 : ((((w1.setCell ⟨w.heap.size, 0, none⟩ (.int .i64 0)).setCell ⟨w.heap.size, 1, none⟩ (.int .u64 0)).setCell ⟨w.heap.size, 2, none⟩ (.int .i64 0)).setCell ⟨w.heap.size, 3, none⟩ (.int .u64 0)).cell? ⟨w.heap.size, 0, none⟩ = some (.int .i64 0) := by go_simp
  have k1 : ((((w1.setCell ⟨w.heap.size, 0, none⟩ (.int .i64 0)).setCell ⟨w.heap.size, 1, none⟩ (.int .u64 0)).setCell ⟨w.heap.size, 2, none⟩ (.int .i64 0)).setCell ⟨w.heap.size, 3, none⟩ (.int .u64 0)).cell? ⟨w.heap.size, 1, none⟩ = some (.int .u64 0) := by go_simp
  have k2 : ((((w1.setCell ⟨w.heap.size, 0, none⟩ (.int .i64 0)).setCell ⟨w.heap.size, 1, none⟩ (.int .u64 0)).setCell ⟨w.heap.size, 2, none⟩ (.int .i64 0)).setCell ⟨w.heap.size, 3, none⟩ (.int .u64 0)).cell? ⟨w.heap.size, 2, none⟩ = some (.int .i64 0) := by go_simp
  have k3 : ((((w1.setCell ⟨w.heap.size, 0, none⟩ (.int .i64 0)).setCell ⟨w.heap.size, 1, none⟩ (.int .u64 0)).setCell ⟨w.heap.size, 2, none⟩ (.int .i64 0)).setCell ⟨w.heap.size, 3, none⟩ (.int .u64 0)).cell? ⟨w.heap.size, 3, none⟩ = some (.int .u64 0) := by go_simp
  refine ⟨.tuple #[.agg #[.int .i64 0, .int .u64 0, .int .i64 0, .int .u64 0], .int .i64 12], by simp [results, Try.results32, go_sem, cell_alloc k0, cell_alloc k1, cell_alloc k2, cell_alloc k3], rfl, ?_⟩
  exact ((((hg0.setCell (Nat.le_refl _) _).setCell (Nat.le_refl _) _).setCell (Nat.le_refl _) _).setCell (Nat.le_refl _) _).alloc (by simpa [World.setCell] using hs) _
theorem charge_nil (w : World) (x : Int) : Calls Try.prog 38 #[.pointer none, .int .u64 x] w (Is (.int .i64 12) w) := by
  go_enter_defers Try.func38, Try.ntmps38
  go_wp2_with (go_at_call 44; refine (made_nil _).mono ?_; rintro e w1 ⟨rfl, rfl⟩)
  exact ⟨_, results_tmp rfl _ _ _, rfl, by go_grown⟩
theorem current_nil (w : World) : Calls Try.prog 37 #[.pointer none] w (Is (.int .i64 (-1)) w) := by
  go_enter Try.func37, Try.ntmps37
  go_wp2_with (go_at_call 44; refine (made_nil _).mono ?_; rintro e w1 ⟨rfl, rfl⟩)
  go_ret; exact ⟨rfl, Below.refl _ _⟩
theorem min_nil (w : World) : Calls Try.prog 27 #[.pointer none] w (Is (.int .i64 0) w) := by
  go_enter Try.func27, Try.ntmps27
  go_wp2_with (go_at_call 44; refine (made_nil _).mono ?_; rintro e w1 ⟨rfl, rfl⟩)
  go_ret; exact ⟨rfl, Below.refl _ _⟩
theorem load_nil (w : World) : Calls Try.prog 41 #[.pointer none] w (Is (.int .u64 0) w) := by
  go_enter Try.func41, Try.ntmps41
  go_wp2_with (go_at_call 44; refine (made_nil _).mono ?_; rintro e w1 ⟨rfl, rfl⟩)
  go_ret; exact ⟨rfl, Below.refl _ _⟩
theorem currents (w : World) (q : Nat) (O : Nat → Prop) (st : St) (h : Qu w q O st) : Calls Try.prog 37 #[.pointer (some ⟨q, 0, none⟩)] w (Is (.int .i64 st.cur) w) := by
  have M := Lib.hid (made w q O st h)
  obtain ⟨m, t, T, h⟩ := h
  obtain ⟨c0, c1, c2, c3, c4, fz⟩ := h.blk.cells
  clear h
  go_enter Try.func37, Try.ntmps37
  go_wp2_with (go_at_call 44; refine (M.out).mono ?_; rintro e w1 ⟨rfl, rfl⟩)
  go_ret; exact ⟨rfl, Below.refl _ _⟩
theorem minss (w : World) (q : Nat) (O : Nat → Prop) (st : St) (h : Qu w q O st) : Calls Try.prog 27 #[.pointer (some ⟨q, 0, none⟩)] w (Is (.int .i64 st.min) w) := by
  have M := Lib.hid (made w q O st h)
  obtain ⟨m, t, T, h⟩ := h
  obtain ⟨c0, c1, c2, c3, c4, fz⟩ := h.blk.cells
  clear h
  go_enter Try.func27, Try.ntmps27
  go_wp2_with (go_at_call 44; refine (M.out).mono ?_; rintro e w1 ⟨rfl, rfl⟩)
  go_ret; exact ⟨rfl, Below.refl _ _⟩
def St.new : St := ⟨[], -1, 0, false⟩
/-- A queue of New's. -/
def Born (w : World) (e : Ending) (w' : World) : Prop := ∃ q, w.heap.size ≤ q ∧ e = .returned (.pointer (some ⟨q, 0, none⟩)) ∧ Below w.heap.size w w' ∧ ∀ O : Nat → Prop, (∀ b, O b → b < w.heap.size) → Qu w' q O St.new
theorem news (w : World) : Calls Try.prog 15 #[] w (Born w) := by
  have hmm := @run_makeMap Try.prog
  have N := Lib.hid (fun w => Tree.news w)
  go_enter Try.func15, Try.ntmps15
  go_wp2_with (go_at_call 39; refine (N.out _).mono ?_; rintro e w1 ⟨t, ht, rfl, hg1, hk⟩)
  go_ret
  have e1 : (w.alloc (.map #[] 0)).heap.size = w.heap.size + 1 := by simp
  have hg2 := (Below.refl w1.heap.size w1).alloc (Nat.le_refl _) (.cells #[.map (some w.heap.size), .pointer (some ⟨t, 0, none⟩), .int .i64 (-1), .int .i64 0, .bool false] 69)
  have hs := hg1.size
  rw [e1] at hs ht
  refine ⟨w1.heap.size, by omega, rfl, fresh_trans ((Below.refl _ w).alloc (Nat.le_refl _) _) (fresh_trans hg1 hg2), fun O hO => ?_⟩
  have hk1 := hk (fun b => O b ∨ b = w.heap.size) (by rintro b (hb | rfl); have := hO b hb; omega; omega)
  refine ⟨w.heap.size, t, .nil, heap_alloc_new _ _, ((Mp.made w).fresh hg1).fresh hg2, ?_, rfl, fun e => by have := hO _ e; omega, fun e => by have := hO _ e; omega, by omega⟩
  have hk2 := kept_on hk1 (w' := w1.alloc (.cells #[.map (some w.heap.size), .pointer (some ⟨t, 0, none⟩), .int .i64 (-1), .int .i64 0, .bool false] 69)) fun b hb => hg2.block b (kept_lt hk1 b hb)
  refine ⟨hk2.top, hk2.nodup, hk2.sorted, hk2.ok, hk2.rr, hk2.black, ?_⟩
  rintro b hb (e | rfl | e)
  · exact hk1.apart b hb (.inl e)
  · have := kept_lt hk1 _ hb; omega
  · exact hk1.apart b hb (.inr e)
end Go.Proofs.Yteoemafdknmklaa.Queue
