/- How a tree of keys lies in memory, and what a change elsewhere leaves of it. Conditions: none. -/
import Derived.Test.YteoemafdknmklaaTreeBal
import Derived.WalkKit
import Derived.ProofKit
import Derived.OpenShut
import Derived.Below
import Derived.Handy
import Derived.IntWalk
import Derived.Deep.QuietTactic
import Derived.BigQuiet
import Derived.Deep.AppendLies
import Derived.Lib.Hide
namespace Go.Proofs.Yteoemafdknmklaa.Tree
open Go.ChangeShapes Go.WideShapes Go.ChangeAt Go.RowKit
set_option linter.unusedVariables false
set_option linter.unusedSimpArgs false

/-- Nothing but what is in B has changed, of what was there. -/
structure Chg (B : Nat → Prop) (w w' : World) : Prop where
  os : w'.os = w.os
  tape : w'.tape = w.tape
  output : w'.output = w.output
  size : w.heap.size ≤ w'.heap.size
  block : ∀ k, k < w.heap.size → ¬ B k → w'.heap[k]? = w.heap[k]?

theorem Chg.refl (B : Nat → Prop) (w : World) : Chg B w w := ⟨rfl, rfl, rfl, Nat.le_refl _, fun _ _ _ => rfl⟩
theorem Chg.trans {B B' : Nat → Prop} {a b c : World} (h : Chg B a b) (k : Chg B' b c) (hb : ∀ i, i < a.heap.size → B' i → B i) : Chg B a c :=
  ⟨k.os.trans h.os, k.tape.trans h.tape, k.output.trans h.output, Nat.le_trans h.size k.size,
    fun i hi hn => (k.block i (Nat.lt_of_lt_of_le hi h.size) (fun h2 => hn (hb i hi h2))).trans (h.block i hi hn)⟩
theorem Chg.mono {B B' : Nat → Prop} {a b : World} (h : Chg B a b) (k : ∀ i, i < a.heap.size → B i → B' i) : Chg B' a b :=
  ⟨h.os, h.tape, h.output, h.size, fun i hi hn => h.block i hi (fun h2 => hn (k i hi h2))⟩
theorem Chg.of {B : Nat → Prop} {a b : World} (h : Below a.heap.size a b) : Chg B a b := ⟨h.os, h.tape, h.output, h.size, fun i hi _ => h.block i hi⟩
theorem Chg.below {B : Nat → Prop} {a b : World} {n : Nat} (h : Chg B a b) (hn : n ≤ a.heap.size) (hb : ∀ i, i < n → ¬ B i) : Below n a b :=
  ⟨h.os, h.tape, h.output, by have := h.size; omega, fun i hi => h.block i (Nat.lt_of_lt_of_le hi hn) (hb i hi)⟩
theorem Chg.then {B : Nat → Prop} {a b c : World} (h : Chg B a b) (k : Below b.heap.size b c) : Chg B a c := h.trans (B' := fun _ => False) (.of k) (fun _ _ h => h.elim)
theorem Chg.setCell {B : Nat → Prop} {a w : World} (h : Chg B a w) {p : Addr} (hp : p.block < a.heap.size → B p.block) (u : Value) : Chg B a (w.setCell p u) :=
  h.trans (B' := fun i => i = p.block) ⟨rfl, rfl, rfl, by simp [World.setCell], fun k _ hk => Below.heap_setCell _ _ _ _ hk⟩ (fun i hi e => by subst e; exact hp hi)
theorem Chg.drew {B : Nat → Prop} {a w : World} (h : Chg B a w) : Chg B a w.drew := ⟨h.os, h.tape, h.output, h.size, h.block⟩
theorem Chg.drewN {B : Nat → Prop} {a w : World} (h : Chg B a w) (n : Nat) : Chg B a (w.drewN n) := ⟨h.os, h.tape, h.output, h.size, h.block⟩
theorem Chg.alloc {B : Nat → Prop} {a w : World} (h : Chg B a w) (o : Obj) : Chg B a (w.alloc o) := h.then ((Below.refl _ w).alloc (Nat.le_refl _) o)
theorem Chg.cell {B : Nat → Prop} {a w : World} (h : Chg B a w) {p : Addr} (h1 : p.block < a.heap.size) (h2 : ¬ B p.block) : w.cell? p = a.cell? p := World.cell?_of_block (h.block _ h1 h2)

theorem fresh_trans {a b c : World} (h : Below a.heap.size a b) (k : Below b.heap.size b c) : Below a.heap.size a c := h.trans (k.mono h.size)
theorem drawn (w : World) (n : Nat) : Below w.heap.size w (w.drewN n) := ⟨rfl, rfl, rfl, Nat.le_refl _, fun _ _ => rfl⟩
theorem undrew {w w' : World} (h : Below w.drew.heap.size w.drew w') : Below w.heap.size w w' := ⟨h.os, h.tape, h.output, h.size, h.block⟩
theorem lt_of {w : World} {k : Nat} {o : Obj} (h : w.heap[k]? = some o) : k < w.heap.size := (Array.getElem?_eq_some_iff.1 h).1

theorem at_nil : Tr.nil.at = none := rfl
theorem at_node (b : Nat) (c : Bool) (l : Tr) (v i : Int) (r : Tr) : (Tr.node b c l v i r).at = some ⟨b, 0, none⟩ := rfl
/-- A node's block. -/
def Nd (w : World) (b : Nat) (c : Bool) (l : Option Addr) (v i : Int) (r : Option Addr) : Prop :=
  w.heap[b]? = some (.cells #[.int .i64 v, .int .i64 i, .bool c, .pointer l, .pointer r] 107 (0, 0))
def In (w : World) : Tr → Prop
  | .nil => True
  | .node b c l v i r => Nd w b c l.at v i r.at ∧ In w l ∧ In w r

theorem Nd.cells {w : World} {b : Nat} {c : Bool} {l r : Option Addr} {v i : Int} (h : Nd w b c l v i r) :
    w.cell? ⟨b, 0, none⟩ = some (.int .i64 v) ∧ w.cell? ⟨b, 1, none⟩ = some (.int .i64 i) ∧ w.cell? ⟨b, 2, none⟩ = some (.bool c) ∧ w.cell? ⟨b, 3, none⟩ = some (.pointer l) ∧ w.cell? ⟨b, 4, none⟩ = some (.pointer r) ∧
    (∀ j, w.frozen? ⟨b, j, none⟩ = false) := by
  unfold Nd at h
  refine ⟨?_, ?_, ?_, ?_, ?_, fun j => frozen_of_row w b j _ _ h⟩
  all_goals rw [cell_of_row w b _ _ _ _ h]; rfl
theorem Nd.lt {w : World} {b : Nat} {c : Bool} {l r : Option Addr} {v i : Int} (h : Nd w b c l v i r) : b < w.heap.size := lt_of h
theorem Nd.on {w w' : World} {b : Nat} {c : Bool} {l r : Option Addr} {v i : Int} (h : Nd w b c l v i r) (e : w'.heap[b]? = w.heap[b]?) : Nd w' b c l v i r := e.trans h
theorem Nd.other {w : World} {b : Nat} {c : Bool} {l r : Option Addr} {v i : Int} (h : Nd w b c l v i r) {p : Addr} (hp : b ≠ p.block) (u : Value) : Nd (w.setCell p u) b c l v i r := h.on (Below.heap_setCell _ _ _ _ hp)
theorem Nd.drew {w : World} {b : Nat} {c : Bool} {l r : Option Addr} {v i : Int} (h : Nd w b c l v i r) : Nd w.drew b c l v i r := h
theorem Nd.setV {w : World} {b : Nat} {c : Bool} {l r : Option Addr} {v i : Int} (h : Nd w b c l v i r) (u : Int) : Nd (w.setCell ⟨b, 0, none⟩ (.int .i64 u)) b c l u i r := by unfold Nd at *; rw [heap_setCell_same w b 0 _ _ _ h]; rfl
theorem Nd.setI {w : World} {b : Nat} {c : Bool} {l r : Option Addr} {v i : Int} (h : Nd w b c l v i r) (u : Int) : Nd (w.setCell ⟨b, 1, none⟩ (.int .i64 u)) b c l v u r := by unfold Nd at *; rw [heap_setCell_same w b 1 _ _ _ h]; rfl
theorem Nd.setC {w : World} {b : Nat} {c : Bool} {l r : Option Addr} {v i : Int} (h : Nd w b c l v i r) (u : Bool) : Nd (w.setCell ⟨b, 2, none⟩ (.bool u)) b u l v i r := by unfold Nd at *; rw [heap_setCell_same w b 2 _ _ _ h]; rfl
theorem Nd.setL {w : World} {b : Nat} {c : Bool} {l r : Option Addr} {v i : Int} (h : Nd w b c l v i r) (u : Option Addr) : Nd (w.setCell ⟨b, 3, none⟩ (.pointer u)) b c u v i r := by unfold Nd at *; rw [heap_setCell_same w b 3 _ _ _ h]; rfl
theorem Nd.setR {w : World} {b : Nat} {c : Bool} {l r : Option Addr} {v i : Int} (h : Nd w b c l v i r) (u : Option Addr) : Nd (w.setCell ⟨b, 4, none⟩ (.pointer u)) b c l v i u := by unfold Nd at *; rw [heap_setCell_same w b 4 _ _ _ h]; rfl

theorem In.lt {w : World} {T : Tr} (h : In w T) : ∀ b ∈ T.bl, b < w.heap.size := by
  induction T with
  | nil => simp [Tr.bl]
  | node b c l v i r ihl ihr =>
    intro k hk
    simp only [Tr.bl, List.mem_cons, List.mem_append] at hk
    rcases hk with rfl | hk | hk
    · exact h.1.lt
    · exact ihl h.2.1 k hk
    · exact ihr h.2.2 k hk
theorem In.on {w w' : World} {T : Tr} (h : In w T) (hb : ∀ b ∈ T.bl, w'.heap[b]? = w.heap[b]?) : In w' T := by
  induction T with
  | nil => trivial
  | node b c l v i r ihl ihr =>
    exact ⟨h.1.on (hb b (by simp [Tr.bl])), ihl h.2.1 (fun k hk => hb k (by simp [Tr.bl, hk])), ihr h.2.2 (fun k hk => hb k (by simp [Tr.bl, hk]))⟩
theorem In.fresh {w w' : World} {T : Tr} (h : In w T) (hg : Below w.heap.size w w') : In w' T := h.on fun b hb => hg.block b (h.lt b hb)
theorem In.chg {w w' : World} {T : Tr} {B : Nat → Prop} (h : In w T) (hg : Chg B w w') (hb : ∀ b ∈ T.bl, ¬ B b) : In w' T := h.on fun b hk => hg.block b (h.lt b hk) (hb b hk)
theorem In.drew {w : World} {T : Tr} (h : In w T) : In w.drew T := h.on fun _ _ => rfl
theorem In.alloc {w : World} {T : Tr} (h : In w T) (o : Obj) : In (w.alloc o) T := h.fresh ((Below.refl _ w).alloc (Nat.le_refl _) o)
theorem In.setCell {w : World} {T : Tr} (h : In w T) {p : Addr} (hp : p.block ∉ T.bl) (u : Value) : In (w.setCell p u) T := h.on fun b hb => Below.heap_setCell _ _ _ _ (fun e => hp (e ▸ hb))

/-- A new block of two cells, behind whatever else is made. -/
theorem new_two {w w1 : World} {x y : Value} {t : TypeId} (hg : Below (w.alloc (.cells #[x, y] t)).heap.size (w.alloc (.cells #[x, y] t)) w1) :
    w1.cell? ⟨w.heap.size, 0, none⟩ = some x ∧ w1.cell? ⟨w.heap.size, 1, none⟩ = some y ∧ (∀ j, w1.frozen? ⟨w.heap.size, j, none⟩ = false) ∧ w1.heap[w.heap.size]? = some (.cells #[x, y] t (0, 0)) := by
  have h0 : (w.alloc (.cells #[x, y] t)).heap[w.heap.size]? = some (.cells #[x, y] t (0, 0)) := heap_alloc_new w _
  have h : w1.heap[w.heap.size]? = some (.cells #[x, y] t (0, 0)) := by rw [hg.block _ (lt_of h0), h0]
  refine ⟨?_, ?_, fun j => frozen_of_row w1 _ j _ _ h, h⟩
  all_goals rw [cell_of_row _ _ _ _ _ _ h]; rfl
theorem new_four {w w1 : World} {x y z u : Value} {t : TypeId} (hg : Below (w.alloc (.cells #[x, y, z, u] t)).heap.size (w.alloc (.cells #[x, y, z, u] t)) w1) :
    w1.cell? ⟨w.heap.size, 0, none⟩ = some x ∧ w1.cell? ⟨w.heap.size, 1, none⟩ = some y ∧ w1.cell? ⟨w.heap.size, 2, none⟩ = some z ∧ w1.cell? ⟨w.heap.size, 3, none⟩ = some u ∧ (∀ j, w1.frozen? ⟨w.heap.size, j, none⟩ = false) ∧
    w1.heap[w.heap.size]? = some (.cells #[x, y, z, u] t (0, 0)) := by
  have h0 : (w.alloc (.cells #[x, y, z, u] t)).heap[w.heap.size]? = some (.cells #[x, y, z, u] t (0, 0)) := heap_alloc_new w _
  have h : w1.heap[w.heap.size]? = some (.cells #[x, y, z, u] t (0, 0)) := by rw [hg.block _ (lt_of h0), h0]
  refine ⟨?_, ?_, ?_, ?_, fun j => frozen_of_row w1 _ j _ _ h, h⟩
  all_goals rw [cell_of_row _ _ _ _ _ _ h]; rfl
/-- What only reads answers. -/
def Is (v : Value) (w : World) (e : Ending) (w' : World) : Prop := e = .returned v ∧ Below w.heap.size w w'
def Still (v : Value) (w : World) (e : Ending) (w' : World) : Prop := e = .returned v ∧ w = w'
theorem is_of {u v : Value} {w w' : World} (h : u = v) (g : Below w.heap.size w w') : Is v w (.returned u) w' := by subst h; exact ⟨rfl, g⟩
end Go.Proofs.Yteoemafdknmklaa.Tree
