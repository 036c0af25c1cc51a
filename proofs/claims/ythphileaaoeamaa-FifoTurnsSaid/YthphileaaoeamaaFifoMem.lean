/- A line in memory: a ring. Conditions: none. -/
import Derived.Test.YthphileaaoeamaaFifoPlain
import Derived.Test.YthphileaaoeamaaMem
namespace Go.Proofs.Ythphileaaoeamaa.Fifo
open Go.ChangeShapes Go.WideShapes Go.ChangeAt Go.RowKit Mem
set_option linter.unusedVariables false
set_option linter.unusedSimpArgs false

def cL (l : List Int) : List Value := l.map (Value.int .i64)
theorem cL_length (l : List Int) : (cL l).length = l.length := by simp [cL]
theorem cL_set (l : List Int) (k : Nat) (x : Int) : cL (l.set k x) = (cL l).set k (.int .i64 x) := by simp [cL, List.map_set]

/-- A line's block: the ring, where the first one stands, how many there are. -/
def cells (r : List Int) (f n : Nat) : Array Value := (cL r ++ [Value.int .i64 (f : Int), Value.int .i64 (n : Int)]).toArray
structure Parts (w : World) (b : Nat) (O : Nat → Prop) (r : List Int) (f n : Nat) : Prop where
  blk : w.heap[b]? = some (.cells (cells r f n) 53 (0, 0))
  out : ¬ O b
  len : r.length = 64
  fst : f < 64
  cnt : n ≤ 64
/-- What stands in the ring, from place f on. -/
def At (r : List Int) (f m : Nat) (g : Nat → Option Int) : Prop := ∀ i, i < m → r[(f + i) % 64]? = g i
def Line (w : World) (b : Nat) (O : Nat → Prop) (xs : List Int) : Prop := ∃ r f, Parts w b O r f xs.length ∧ At r f xs.length (fun i => xs[i]?)

section
variable {w w' : World} {b : Nat} {O : Nat → Prop} {r : List Int} {f n : Nat} {xs : List Int}
theorem Parts.lt (h : Parts w b O r f n) : b < w.heap.size := lt_of h.blk
theorem Parts.fresh (h : Parts w b O r f n) (hg : Below w.heap.size w w') : Parts w' b O r f n := ⟨box_fresh h.blk hg, h.out, h.len, h.fst, h.cnt⟩
theorem Parts.same {O' : Nat → Prop} (h : Parts w b O r f n) (hs : Same O' w w') (hb : O' b) : Parts w' b O r f n := ⟨(hs.block b hb).trans h.blk, h.out, h.len, h.fst, h.cnt⟩
theorem Parts.other {O' : Nat → Prop} (h : Parts w b O r f n) (hO : ∀ k, O' k → O k ∨ w.heap.size ≤ k) : Parts w b O' r f n := ⟨h.blk, fun h1 => (hO b h1).elim h.out (by have := h.lt; omega), h.len, h.fst, h.cnt⟩
theorem Parts.first (h : Parts w b O r f n) : w.cell? ⟨b, 64, none⟩ = some (.int .i64 f) := by
  rw [cell_of_row w b _ _ _ _ h.blk]
  simp [cells, cL, h.len]
theorem Parts.count (h : Parts w b O r f n) : w.cell? ⟨b, 65, none⟩ = some (.int .i64 n) := by
  rw [cell_of_row w b _ _ _ _ h.blk]
  simp [cells, cL, h.len]
theorem Parts.cell (h : Parts w b O r f n) {k : Nat} {x : Int} (hk : r[k]? = some x) : w.cell? ⟨b, k, none⟩ = some (.int .i64 x) := by
  rw [cell_of_row w b _ _ _ _ h.blk]
  have := (List.getElem?_eq_some_iff.1 hk).1
  rw [List.getElem?_eq_getElem this] at hk
  simp at hk
  simp [cells, cL, List.getElem?_append, this, hk]
theorem Parts.free (h : Parts w b O r f n) (j : Nat) : w.frozen? ⟨b, j, none⟩ = false := frozen_of_row w b j _ _ h.blk
theorem Parts.setR (h : Parts w b O r f n) {k : Nat} (hk : k < 64) (x : Int) : Parts (w.setCell ⟨b, k, none⟩ (.int .i64 x)) b O (r.set k x) f n := by
  refine ⟨?_, h.out, by simp [h.len], h.fst, h.cnt⟩
  rw [set_block h.blk]
  have hl := h.len
  simp [cells, cL_set, cL_length, hl, hk, List.set_append]
theorem Parts.setF (h : Parts w b O r f n) {f' : Nat} (hf : f' < 64) : Parts (w.setCell ⟨b, 64, none⟩ (.int .i64 f')) b O r f' n := by
  refine ⟨?_, h.out, h.len, hf, h.cnt⟩
  rw [set_block h.blk]
  have hl := h.len
  simp [cells, cL_length, hl, List.set_append]
theorem Parts.setN (h : Parts w b O r f n) {n' : Nat} (hn : n' ≤ 64) : Parts (w.setCell ⟨b, 65, none⟩ (.int .i64 n')) b O r f n' := by
  refine ⟨?_, h.out, h.len, h.fst, hn⟩
  rw [set_block h.blk]
  have hl := h.len
  simp [cells, cL_length, hl, List.set_append]
theorem Line.lt (h : Line w b O xs) : b < w.heap.size := by obtain ⟨r, f, h, _⟩ := h; exact h.lt
theorem Line.few (h : Line w b O xs) : xs.length ≤ 64 := by obtain ⟨r, f, h, _⟩ := h; exact h.cnt
theorem Line.fresh (h : Line w b O xs) (hg : Below w.heap.size w w') : Line w' b O xs := by obtain ⟨r, f, h, ha⟩ := h; exact ⟨r, f, h.fresh hg, ha⟩
theorem Line.same {O' : Nat → Prop} (h : Line w b O xs) (hs : Same O' w w') (hb : O' b) : Line w' b O xs := by obtain ⟨r, f, h, ha⟩ := h; exact ⟨r, f, h.same hs hb, ha⟩
theorem Line.other {O' : Nat → Prop} (h : Line w b O xs) (hO : ∀ k, O' k → O k ∨ w.heap.size ≤ k) : Line w b O' xs := by obtain ⟨r, f, h, ha⟩ := h; exact ⟨r, f, h.other hO, ha⟩
end

/-- One more behind all; the first one gone; one taken out, whose followers move up, place by place. -/
theorem At.put {r : List Int} {f : Nat} {xs : List Int} (hr : r.length = 64) (h : At r f xs.length (fun i => xs[i]?)) (hx : xs.length < 64) (p : Int) :
    At (r.set ((f + xs.length) % 64) p) f (xs ++ [p]).length (fun i => (xs ++ [p])[i]?) := by
  intro i hi
  simp at hi
  rw [List.getElem?_set]
  by_cases e : i = xs.length
  · subst e
    rw [if_pos rfl, if_pos (by omega)]
    simp
  · rw [if_neg (by omega), h i (by omega)]
    simp only
    rw [List.getElem?_append_left (by omega)]
theorem At.tail {r : List Int} {f : Nat} {x : Int} {xs : List Int} (h : At r f (x :: xs).length (fun i => (x :: xs)[i]?)) : At r ((f + 1) % 64) xs.length (fun i => xs[i]?) := by
  intro i hi
  have := h (i + 1) (by simp; omega)
  rw [show ((f + 1) % 64 + i) % 64 = (f + (i + 1)) % 64 by omega, this]
  simp
/-- Behind k steps of moving up to place a. -/
def up (xs : List Int) (a k : Nat) : Nat → Option Int := fun i => if a ≤ i ∧ i < k then xs[i + 1]? else xs[i]?
theorem At.start {r : List Int} {f : Nat} {xs : List Int} (a : Nat) (h : At r f xs.length (fun i => xs[i]?)) : At r f xs.length (up xs a a) := by
  intro i hi
  rw [h i hi, up, if_neg (by omega)]
theorem At.step {r : List Int} {f a k : Nat} {xs : List Int} {x : Int} (hr : r.length = 64) (hx : xs.length ≤ 64) (h : At r f xs.length (up xs a k)) (hak : a ≤ k) (hk : xs[k + 1]? = some x) :
    r[(f + (k + 1)) % 64]? = some x ∧ At (r.set ((f + k) % 64) x) f xs.length (up xs a (k + 1)) := by
  have hl := (List.getElem?_eq_some_iff.1 hk).1
  constructor
  · rw [h (k + 1) hl, up, if_neg (by omega), hk]
  · intro i hi
    rw [List.getElem?_set]
    by_cases e : i = k
    · subst e
      rw [if_pos rfl, if_pos (by omega), up, if_pos (by omega), hk]
    · rw [if_neg (by omega), h i hi, up, up]
      by_cases h1 : a ≤ i ∧ i < k
      · rw [if_pos h1, if_pos (by omega)]
      · rw [if_neg h1, if_neg (by omega)]
theorem At.done {r : List Int} {f : Nat} {xs : List Int} {p : Int} (hm : p ∈ xs) (h : At r f xs.length (up xs (xs.idxOf p) (xs.length - 1))) : At r f (xs.erase p).length (fun i => (xs.erase p)[i]?) := by
  have hl := List.idxOf_lt_length_of_mem hm
  rw [List.erase_eq_eraseIdx_of_idxOf (i := xs.idxOf p) rfl]
  have hlen : (xs.eraseIdx (xs.idxOf p)).length = xs.length - 1 := by rw [List.length_eraseIdx, if_pos hl]
  intro i hi
  rw [hlen] at hi
  rw [h i (by omega), up]
  simp only [List.getElem?_eraseIdx]
  by_cases h1 : i < xs.idxOf p
  · rw [if_pos h1, if_neg (by omega)]
  · rw [if_neg h1, if_pos (by omega)]
end Go.Proofs.Ythphileaaoeamaa.Fifo
