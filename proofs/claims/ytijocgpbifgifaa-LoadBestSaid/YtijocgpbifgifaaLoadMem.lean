/- Slices of numbers in memory; what Sum and Gap return, the program's and the document's. Conditions: each argument is a number of its kind. -/
import Derived.Test.YtijocgpbifgifaaChecked
import Derived.Test.YtijocgpbifgifaaLoadPlain
import Derived.WalkKit
import Derived.ProofKit
import Derived.Below
import Derived.Carry
import Derived.WalkMore
import Derived.WalkSmall
import Derived.LoopTactic
import Derived.Deep.LoopGhost
import Derived.Lib.Hide
import Derived.Maps.AppendAt
import Derived.Deep.AppendLies
namespace Go.Proofs.Ytijocgpbifgifaa.Load
open Go.ChangeShapes Go.WideShapes Go.ChangeAt Go.RowKit
set_option linter.unusedVariables false
set_option linter.unusedSimpArgs false

theorem fresh_trans {a b c : World} (h : Below a.heap.size a b) (k : Below b.heap.size b c) : Below a.heap.size a c := h.trans (k.mono h.size)
theorem drawn {w w' : World} {n : Nat} (h : Below n w w') (k : Nat) : Below n w (w'.drewN k) := h.trans ⟨rfl, rfl, rfl, Nat.le_refl _, fun _ _ => rfl⟩
theorem lt_of {w : World} {k : Nat} {o : Obj} (h : w.heap[k]? = some o) : k < w.heap.size := (Array.getElem?_eq_some_iff.1 h).1
theorem heap_fresh {w w' : World} {k : Nat} {o : Obj} (h : w.heap[k]? = some o) (hg : Below w.heap.size w w') : w'.heap[k]? = some o := (hg.block k (lt_of h)).trans h
theorem alloc1 (w : World) (o : Obj) : Below w.heap.size w (w.alloc o) := (Below.refl _ w).alloc (Nat.le_refl _) o
theorem cell_of_row (w : World) (g : Nat) (cur : Array Value) (e : TypeId) (q : Nat × Nat) (j : Nat) (h : w.heap[g]? = some (.cells cur e q)) : w.cell? ⟨g, j, none⟩ = cur[j]? := by simp [World.cell?, h]

/-- A slice of numbers, z 0 to z (len - 1). -/
def Lies (v : Option Addr) (len : Nat) (z : Nat → Int) (w : World) : Prop := ∀ j, j < len → ∃ b off, v = some ⟨b, off, none⟩ ∧ b < w.heap.size ∧ w.cell? ⟨b, off + j, none⟩ = some (.int .u64 (z j))
theorem Lies.fresh {v : Option Addr} {len : Nat} {z : Nat → Int} {w w' : World} (h : Lies v len z w) (hg : Below w.heap.size w w') : Lies v len z w' := by
  intro j hj
  obtain ⟨b, o, e, hb, hc⟩ := h j hj
  exact ⟨b, o, e, by have := hg.size; omega, (hg.cell hb).trans hc⟩
theorem Lies.less {v : Option Addr} {len n : Nat} {z : Nat → Int} {w : World} (h : Lies v len z w) (hn : n ≤ len) : Lies v n z w := fun j hj => h j (by omega)

def One (k : IntKind) (n : Int) (w : World) (e : Ending) (w' : World) : Prop := e = .returned (.int k n) ∧ w = w'
theorem one_of {k : IntKind} {a b : Int} {w : World} (h : a = b) : One k b w (.returned (.int k a)) w := by subst h; exact ⟨rfl, rfl⟩
def OneB (k : IntKind) (n : Int) (w : World) (e : Ending) (w' : World) : Prop := e = .returned (.int k n) ∧ Below w.heap.size w w'
theorem oneB_of {k : IntKind} {a b : Int} {w w' : World} (h : a = b) (g : Below w.heap.size w w') : OneB k b w (.returned (.int k a)) w' := by subst h; exact ⟨rfl, g⟩
def Yes (w : World) (e : Ending) (w' : World) : Prop := e = .returned (.bool true) ∧ Below w.heap.size w w'
theorem yes_of {b : Bool} {w w' : World} (h : b = true) (g : Below w.heap.size w w') : Yes w (.returned (.bool b)) w' := by subst h; exact ⟨rfl, g⟩

def gap (a b : Int) : Int := if a < b then 0 else a - b
theorem gaps (a b : Int) (w : World) (ha : U64 a) (hb : U64 b) : Calls Try.prog 19 #[.int .u64 a, .int .u64 b] w (One .u64 (gap a b) w) := by
  unfold U64 at ha hb
  go_enter Try.func19, Try.ntmps19
  go_wp2
  all_goals (go_ret; exact one_of (by unfold gap; repeat' split <;> omega))
theorem refGaps (a b : Int) (w : World) (ha : U64 a) (hb : U64 b) : Calls Try.prog 20 #[.int .u64 a, .int .u64 b] w (One .u64 (gap a b) w) := by
  unfold U64 at ha hb
  by_cases h : a < b
  · go_enter Try.func20, Try.ntmps20
    go_wp2
    go_ret
    exact one_of (by unfold gap; rw [if_pos (by omega)])
  · go_enter Try.func20, Try.ntmps20
    go_wp2
    go_ret
    exact one_of (by unfold gap; rw [if_neg (by omega)])

def SumI (z : Nat → Int) (len : Nat) (w : World) (t3 t8 : Value) (wr : World) : Prop := ∃ k : Nat, k ≤ len ∧ t3 = .int .u64 (tot z k) ∧ t8 = .int .i64 k ∧ wr = w
theorem sums (v : Option Addr) (len cap : Nat) (z : Nat → Int) (w : World) (hlen : len ≤ 9223372036854775807) (HZ : Hid (∀ j, j < len → U64 (z j))) (HC : Hid (Lies v len z w)) :
    Calls Try.prog 17 #[.slice v len cap] w (One .u64 (tot z len) w) := by
  go_enter Try.func17, Try.ntmps17
  go_wp2
  go_loopw [3, 8] (fun t3 t8 wr => SumI z len w t3 t8 wr) (fun _ i _ => len - (intOf i).toNat)
  case atStart => exact ⟨0, by omega, rfl, rfl, rfl⟩
  case round =>
    obtain ⟨k, hk, rfl, rfl, rfl⟩ := hrel
    obtain ⟨b0, b1⟩ := tot_bd (z := z) (n := k) (fun j hj => (HZ.out j (by omega)).1)
    by_cases hlt : k < len
    · have h3 : (k : Int) < len := by omega
      obtain ⟨b, o, rfl, hb, hc⟩ := HC.out k hlt
      obtain ⟨z0, z1⟩ := HZ.out k hlt
      by_cases ht : 18446744073709551615 - tot z k < z k
      · have T := Lib.hid (tot_top hlt (fun j hj => (HZ.out j hj).1) ht)
        generalize tot z k = t at *
        generalize z k = y at *
        go_wp2
        go_ret
        exact one_of T.out.symm
      · have T := Lib.hid (tot_next ht)
        generalize tot z k = t at *
        generalize z k = y at *
        go_wp2
        go_roundw
        case rel => exact ⟨k + 1, hlt, by rw [T.out], by go_num, rfl⟩
        case measure => simp [intOf]; omega
    · have h3 : ¬ (k : Int) < len := by omega
      obtain rfl : k = len := by omega
      generalize tot z k = t at *
      go_wp2
      go_ret
      exact ⟨rfl, rfl⟩
theorem refSums (v : Option Addr) (len cap : Nat) (z : Nat → Int) (w : World) (hlen : len ≤ 9223372036854775807) (HZ : Hid (∀ j, j < len → U64 (z j))) (HC : Hid (Lies v len z w)) :
    Calls Try.prog 18 #[.slice v len cap] w (One .u64 (tot z len) w) := by
  go_enter Try.func18, Try.ntmps18
  go_wp2
  go_loopw [3, 4] (fun t3 t8 wr => SumI z len w t3 t8 wr) (fun _ i _ => len - (intOf i).toNat)
  case atStart => exact ⟨0, by omega, rfl, rfl, rfl⟩
  case round =>
    obtain ⟨k, hk, rfl, rfl, rfl⟩ := hrel
    obtain ⟨b0, b1⟩ := tot_bd (z := z) (n := k) (fun j hj => (HZ.out j (by omega)).1)
    by_cases hlt : k < len
    · have h3 : (k : Int) < len := by omega
      obtain ⟨b, o, rfl, hb, hc⟩ := HC.out k hlt
      obtain ⟨z0, z1⟩ := HZ.out k hlt
      by_cases ht : 18446744073709551615 - tot z k < z k
      · have T := Lib.hid (tot_top hlt (fun j hj => (HZ.out j hj).1) ht)
        generalize tot z k = t at *
        generalize z k = y at *
        have hwrap : IntKind.u64.wrap (t + y) = t + y - 18446744073709551616 := by rw [IntKind.wrap_u64]; omega
        have hl : t + y - 18446744073709551616 < t := by omega
        go_wp2
        go_ret
        exact one_of T.out.symm
      · have T := Lib.hid (tot_next ht)
        generalize tot z k = t at *
        generalize z k = y at *
        have hwrap : IntKind.u64.wrap (t + y) = t + y := by rw [IntKind.wrap_u64]; omega
        have hl : ¬ t + y < t := by omega
        go_wp2
        go_roundw
        case rel => exact ⟨k + 1, hlt, by rw [T.out], by go_num, rfl⟩
        case measure => simp [intOf]; omega
    · have h3 : ¬ (k : Int) < len := by omega
      obtain rfl : k = len := by omega
      generalize tot z k = t at *
      go_wp2
      go_ret
      exact ⟨rfl, rfl⟩

theorem few (v : Option Addr) (len cap : Nat) (w : World) (hlen : len ≤ 9223372036854775807) (hcap : len ≤ cap) (hn : v = none → len = 0) :
    Calls Try.prog 10 #[.slice v len cap] w (fun e w' => e = .returned (.slice v (min len 100) cap) ∧ w = w') := by
  by_cases h : (100 : Int) < len
  · have h1 : (100 : Int) ≤ cap := by omega
    obtain ⟨a, rfl⟩ : ∃ a, v = some a := by
      cases v with
      | none => have := hn rfl; omega
      | some a => exact ⟨a, rfl⟩
    have e : min len 100 = 100 := by omega
    rw [e]
    go_enter Try.func10, Try.ntmps10
    go_wp2
    go_ret
    exact ⟨rfl, rfl⟩
  · have e : min len 100 = len := by omega
    rw [e]
    go_enter Try.func10, Try.ntmps10
    go_wp2
    go_ret
    exact ⟨rfl, rfl⟩
end Go.Proofs.Ytijocgpbifgifaa.Load
