/- Slices of numbers in memory; what few returns. Conditions: each argument is a number of its kind. -/
import Derived.Test.YtlbaiblhoojehaaChecked
import Derived.Test.YtlbaiblhoojehaaLoadPlain
import Derived.WalkKit
import Derived.ProofKit
import Derived.Below
import Derived.Carry
import Derived.WalkMore
import Derived.WalkSmall
import Derived.LoopTactic
import Derived.Deep.LoopGhost
import Derived.Lib.Hide
import Derived.Maps.AppendAt
import Derived.Deep.AppendLies
namespace Go.Proofs.Ytlbaiblhoojehaa.Load
open Go.ChangeShapes Go.WideShapes Go.ChangeAt Go.RowKit
set_option linter.unusedVariables false
set_option linter.unusedSimpArgs false

theorem fresh_trans {a b c : World} (h : Below a.heap.size a b) (k : Below b.heap.size b c) : Below a.heap.size a c := h.trans (k.mono h.size)
theorem drawn {w w' : World} {n : Nat} (h : Below n w w') (k : Nat) : Below n w (w'.drewN k) := h.trans ⟨rfl, rfl, rfl, Nat.le_refl _, fun _ _ => rfl⟩
theorem lt_of {w : World} {k : Nat} {o : Obj} (h : w.heap[k]? = some o) : k < w.heap.size := (Array.getElem?_eq_some_iff.1 h).1
theorem heap_fresh {w w' : World} {k : Nat} {o : Obj} (h : w.heap[k]? = some o) (hg : Below w.heap.size w w') : w'.heap[k]? = some o := (hg.block k (lt_of h)).trans h
theorem alloc1 (w : World) (o : Obj) : Below w.heap.size w (w.alloc o) := (Below.refl _ w).alloc (Nat.le_refl _) o
theorem cell_of_row (w : World) (g : Nat) (cur : Array Value) (e : TypeId) (q : Nat × Nat) (j : Nat) (h : w.heap[g]? = some (.cells cur e q)) : w.cell? ⟨g, j, none⟩ = cur[j]? := by simp [World.cell?, h]

/-- A slice of numbers, z 0 to z (len - 1). -/
def Lies (v : Option Addr) (len : Nat) (z : Nat → Int) (w : World) : Prop := ∀ j, j < len → ∃ b off, v = some ⟨b, off, none⟩ ∧ b < w.heap.size ∧ w.cell? ⟨b, off + j, none⟩ = some (.int .u64 (z j))
theorem Lies.fresh {v : Option Addr} {len : Nat} {z : Nat → Int} {w w' : World} (h : Lies v len z w) (hg : Below w.heap.size w w') : Lies v len z w' := by
  intro j hj
  obtain ⟨b, o, e, hb, hc⟩ := h j hj
  exact ⟨b, o, e, by have := hg.size; omega, (hg.cell hb).trans hc⟩
theorem Lies.less {v : Option Addr} {len n : Nat} {z : Nat → Int} {w : World} (h : Lies v len z w) (hn : n ≤ len) : Lies v n z w := fun j hj => h j (by omega)

def One (k : IntKind) (n : Int) (w : World) (e : Ending) (w' : World) : Prop := e = .returned (.int k n) ∧ w = w'
theorem one_of {k : IntKind} {a b : Int} {w : World} (h : a = b) : One k b w (.returned (.int k a)) w := by subst h; exact ⟨rfl, rfl⟩
def OneB (k : IntKind) (n : Int) (w : World) (e : Ending) (w' : World) : Prop := e = .returned (.int k n) ∧ Below w.heap.size w w'
theorem oneB_of {k : IntKind} {a b : Int} {w w' : World} (h : a = b) (g : Below w.heap.size w w') : OneB k b w (.returned (.int k a)) w' := by subst h; exact ⟨rfl, g⟩
def Yes (w : World) (e : Ending) (w' : World) : Prop := e = .returned (.bool true) ∧ Below w.heap.size w w'
theorem yes_of {b : Bool} {w w' : World} (h : b = true) (g : Below w.heap.size w w') : Yes w (.returned (.bool b)) w' := by subst h; exact ⟨rfl, g⟩

theorem few (v : Option Addr) (len cap : Nat) (w : World) (hlen : len ≤ 9223372036854775807) (hcap : len ≤ cap) (hn : v = none → len = 0) :
    Calls Try.prog 10 #[.slice v len cap] w (fun e w' => e = .returned (.slice v (min len 100) cap) ∧ w = w') := by
  by_cases h : (100 : Int) < len
  · have h1 : (100 : Int) ≤ cap := by omega
    obtain ⟨a, rfl⟩ : ∃ a, v = some a := by
      cases v with
      | none => have := hn rfl; omega
      | some a => exact ⟨a, rfl⟩
    have e : min len 100 = 100 := by omega
    rw [e]
    go_enter Try.func10, Try.ntmps10
    go_wp2
    go_ret
    exact ⟨rfl, rfl⟩
  · have e : min len 100 = len := by omega
    rw [e]
    go_enter Try.func10, Try.ntmps10
    go_wp2
    go_ret
    exact ⟨rfl, rfl⟩
end Go.Proofs.Ytlbaiblhoojehaa.Load
