/- An event as a value, its fields as values of any type, and what event.field and event.with make of them. Conditions: the letter is one of the five. -/
import Derived.Test.YtikdhfedidknpaaDoorEventProgP
import Derived.WalkKit
import Derived.WalkMore
import Derived.WalkSmall
import Derived.Handy
import Derived.LoopTactic
namespace Go.Proofs.YtikdhfedidknpaaDoor.Event
open Go.ChangeShapes Go.WideShapes Go.ChangeAt Go.RowKit
set_option linter.unusedVariables false
set_option linter.unusedSimpArgs false
set_option maxRecDepth 100000

theorem fresh_trans {a b c : World} (h : Below a.heap.size a b) (k : Below b.heap.size b c) : Below a.heap.size a c := h.trans (k.mono h.size)
/-- An event's cells. -/
def evC (e : Ev) : Array Value := #[.int .i64 e.k, .int .i64 e.a, .int .i64 e.b, .int .i64 e.n, .int .i64 e.m, .int .u64 (e.s : Int)]
def evV (e : Ev) : Value := .agg (evC e)
/-- A value told, and nothing that was there changed. -/
def IsV (v : Value) (w : World) (e : Ending) (w' : World) : Prop := e = .returned v ∧ Below w.heap.size w w'
/-- A field's value, of the type that its letter says. -/
def fvOf (f : UInt8) (z : Int) : Value :=
  if f = 65 ∨ f = 66 then .iface 3 (.int .i64 z) else if f = 78 ∨ f = 77 then .iface 2 (.int .i64 z) else .iface 31 (.int .u64 z)
abbrev Fu (f : UInt8) : Prop := f = 65 ∨ f = 66 ∨ f = 78 ∨ f = 77 ∨ f = 83
theorem alloc_below (w : World) (o : Obj) : Below w.heap.size w (w.alloc o) := (Below.refl _ w).alloc (Nat.le_refl _) _

theorem field_ (e : Ev) (f : UInt8) (hf : Fu f) (w : World) : Calls Tryd.prog 28 #[evV e, .int .i32 (f.toNat : Int)] w (IsV (fvOf f (getF e f)) w) := by
  have hb := alloc_below w (.cells (evC e) 33)
  unfold evV evC at *
  rcases hf with rfl | rfl | rfl | rfl | rfl
  all_goals
    go_enter Tryd.func28, Tryd.ntmps28
    go_wp2
    go_ret
    exact ⟨rfl, hb⟩
theorem as_int (v : Value) (w : World) : (Instr.typeAssert (.iface 3 v) 20 3 false).run Tryd.prog w = .ok v w := rfl
theorem as_int64 (v : Value) (w : World) : (Instr.typeAssert (.iface 2 v) 20 2 false).run Tryd.prog w = .ok v w := rfl
theorem as_uint64 (v : Value) (w : World) : (Instr.typeAssert (.iface 31 v) 20 31 false).run Tryd.prog w = .ok v w := rfl
theorem with_ (e : Ev) (f : UInt8) (hf : Fu f) (z : Int) (hz : f = 83 → 0 ≤ z) (w : World) : Calls Tryd.prog 27 #[evV e, .int .i32 (f.toNat : Int), fvOf f z] w (IsV (evV (putF e f z)) w) := by
  obtain ⟨V, hV⟩ : ∃ V, V = evV (putF e f z) := ⟨_, rfl⟩
  rw [← hV]
  have hV' := Lib.hid hV
  have hz' := Lib.hid hz
  clear hV hz
  obtain ⟨k, a, b, n, m, s⟩ := e
  unfold evV evC
  have h1 := as_int
  have h2 := as_int64
  have h3 := as_uint64
  rcases hf with rfl | rfl | rfl | rfl | rfl
  all_goals
    unfold fvOf
    first
      | rw [if_pos (by decide)]
      | rw [if_neg (by decide), if_pos (by decide)]
      | rw [if_neg (by decide), if_neg (by decide)]
    go_enter Tryd.func27, Tryd.ntmps27
    go_wp2
    have hz := hz'.out
    refine bodyPost_ret (v := V) (by rw [hV'.out]; simp [results, Tryd.results27, go_sem, evV, evC, putF]; try (have := hz trivial; omega)) rfl ?_
    exact ⟨rfl, ((Below.refl _ w).alloc (Nat.le_refl _) _).alloc (by show w.heap.size ≤ (w.heap.push _).size; rw [Array.size_push]; omega) _⟩
end Go.Proofs.YtikdhfedidknpaaDoor.Event
