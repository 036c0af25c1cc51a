/- What walk and Walk of package rbtree answer. Conditions: the nodes lie apart from the row that is filled. -/
import Derived.Test.YteoemafdknmklaaQueueMem
import Derived.Deep.RegionHeld3
import Derived.Deep.AppendLies
namespace Go.Proofs.Yteoemafdknmklaa.Queue
open Go.ChangeShapes Go.WideShapes Go.ChangeAt Go.RowKit Tree
set_option linter.unusedVariables false
set_option linter.unusedSimpArgs false
set_option maxRecDepth 100000

def cellsK : List Ky → List Value
  | [] => []
  | k :: l => .int .i64 k.1 :: .int .i64 k.2 :: cellsK l
theorem cellsK_append (a b : List Ky) : cellsK (a ++ b) = cellsK a ++ cellsK b := by
  induction a with
  | nil => rfl
  | cons k l ih => simp [cellsK, ih]
/-- A row in memory that lies in no block of O. -/
def Row (w : World) (O : Nat → Prop) (e : TypeId) (size : Nat) (v : Value) (n : Nat) (xs : List Value) : Prop := w.ownsRow 0 e size v n xs ∧ ∀ k, v.ownBlock = some k → ¬ O k
section
variable {w w' : World} {O : Nat → Prop} {e : TypeId} {size : Nat} {v : Value} {n : Nat} {xs : List Value}
theorem Row.lt (h : Row w O e size v n xs) {k : Nat} (hk : v.ownBlock = some k) : k < w.heap.size := (h.1.lt k hk).2
theorem Row.on (h : Row w O e size v n xs) (hb : ∀ k, v.ownBlock = some k → w'.heap[k]? = w.heap[k]?) : Row w' O e size v n xs := by
  refine ⟨⟨h.1.1, ?_⟩, h.2⟩
  rcases h.1.2 with h1 | ⟨g, cap, cur, rfl, h0, hg, h1⟩
  · exact .inl h1
  · exact .inr ⟨g, cap, cur, rfl, h0, by rw [hb g rfl, hg], h1⟩
theorem Row.fresh (h : Row w O e size v n xs) (hb : Below w.heap.size w w') : Row w' O e size v n xs := h.on fun k hk => hb.block k (h.lt hk)
theorem Row.other (h : Row w O e size v n xs) {O' : Nat → Prop} (hb : ∀ k, v.ownBlock = some k → ¬ O' k) : Row w O' e size v n xs := ⟨h.1, hb⟩
end
theorem Same.app {w w2 w4 : World} {O O' : Nat → Prop} {o : Obj} {e : TypeId} {size n : Nat} {v2 : Value} {xs : List Value} (h : Same O w w2) (hO : ∀ k, O k → k < w.heap.size) (hr : Row w2 O' e size v2 n xs) (hOO : ∀ k, O k → O' k) (hg : (w2.alloc o).grownBy w4 v2.ownBlock) : Same O w w4 := by
  have hb := (Below.refl w2.heap.size w2).alloc (Nat.le_refl _) o
  refine ⟨hg.os.trans h.os, hg.tape.trans h.tape, hg.output.trans h.output, Nat.le_trans h.size (Nat.le_trans hb.size hg.size), fun k hk => ?_⟩
  have hk2 : k < w2.heap.size := Nat.lt_of_lt_of_le (hO k hk) h.size
  rw [hg.block k (Nat.lt_of_lt_of_le hk2 hb.size) (fun e => hr.2 k e.symm (hOO k hk)), hb.block k hk2, h.block k hk]
theorem Same.app0 {w w2 w4 : World} {O O' : Nat → Prop} {e : TypeId} {size n : Nat} {v2 : Value} {xs : List Value} (h : Same O w w2) (hO : ∀ k, O k → k < w.heap.size) (hr : Row w2 O' e size v2 n xs) (hOO : ∀ k, O k → O' k) (hg : w2.grownBy w4 v2.ownBlock) : Same O w w4 := by
  refine ⟨hg.os.trans h.os, hg.tape.trans h.tape, hg.output.trans h.output, Nat.le_trans h.size hg.size, fun k hk => ?_⟩
  rw [hg.block k (Nat.lt_of_lt_of_le (hO k hk) h.size) (fun e => hr.2 k e.symm (hOO k hk)), h.block k hk]
theorem row_of {w w2 w4 : World} {O : Nat → Prop} {e : TypeId} {size n cap g : Nat} {v2 : Value} {xs : List Value} (hO : ∀ k, O k → k < w.heap.size) (hs : w.heap.size ≤ w2.heap.size) (hown : w4.ownsRow 0 e size (.slice (some ⟨g, 0, none⟩) n cap) n xs) (h1 : O g → v2.ownBlock = some g → False) (hat : v2.ownBlock = some g ∨ w2.heap.size ≤ g) :
    Row w4 O e size (.slice (some ⟨g, 0, none⟩) n cap) n xs := by
  refine ⟨hown, fun k hk e => ?_⟩
  simp [Value.ownBlock] at hk
  subst hk
  rcases hat with h | h
  · exact h1 e h
  · have := hO _ e; omega
/-- A row told, and what was held apart from it. -/
def Fills (O : Nat → Prop) (n : Nat) (xs : List Value) (w : World) (e : Ending) (w' : World) : Prop := ∃ v', e = .returned v' ∧ Row w' O 89 2 v' n xs ∧ Same O w w'
theorem infoK : (Try.prog.info? 89).map (fun i => (i.zero, i.size, i.bytes)) = some (some (.agg #[.int .i64 0, .int .i64 0]), 2, 16) := by kernel_rfl

end Go.Proofs.Yteoemafdknmklaa.Queue
