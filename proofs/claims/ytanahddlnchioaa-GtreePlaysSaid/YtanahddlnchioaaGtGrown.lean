/- A tree of groups, each within one that was there. Conditions: the argument is a slice of numbers of 8 bits. -/
import Derived.Test.YtanahddlnchioaaGtPure
import Derived.Test.YtanahddlnchioaaGtLaws
import Derived.IntWalk
namespace Go.Proofs.Ytanahddlnchioaa.Gt
open Go.ChangeShapes Go.WideShapes Go.ChangeAt Go.RowKit Hp
set_option linter.unusedVariables false
set_option linter.unusedSimpArgs false

/-- A block of another kind of thing is none of the tree's. -/
theorem Tre.guard {w : World} {tb b k : Nat} {O : Nat → Prop} {st : St} {cur : Array Value} {q : Nat × Nat} (h : Tre w tb b O st) (hk : w.heap[k]? = some (.cells cur 34 q)) : Tre w tb b (With O k) st := by
  obtain ⟨h1, h2, vp, vf, h3, h4, h5, h6⟩ := h
  have e1 : tb ≠ k := by rintro rfl; rw [h1] at hk; simp at hk
  have e2 : b ≠ k := by rintro rfl; rw [h3] at hk; simp at hk
  refine ⟨h1, fun h => h.elim h2 e1, vp, vf, h3, ?_, h5.other fun j hj h => ?_, h6.other fun j hj h => ?_⟩
  · rintro ((h | h) | h)
    · exact h4 (.inl h)
    · exact e2 h
    · exact h4 (.inr h)
  · rcases h with (h | h) | h
    · exact h5.2 j hj (.inl h)
    · exact h5.apart hk (by decide) j hj h
    · exact h5.2 j hj (.inr h)
  · rcases h with (h | h) | h
    · exact h6.2 j hj (.inl h)
    · exact h6.apart hk (by decide) j hj h
    · exact h6.2 j hj (.inr h)

/-- A sound tree and the handles that were told of it. -/
structure Told (w0 : World) (tb b : Nat) (st : St) (T : List (Int × Int)) (v : Value) (w : World) : Prop where
  tree : Tre w tb b (· < w0.heap.size) st
  inv : Inv 0 st
  ok : Ok st
  row : w.ownsRow w0.heap.size 34 2 v T.length (cellsH T)
  named : ∀ p ∈ T, st.names p.1 p.2 = true
  pos : 0 < T.length
  below : Below w0.heap.size w0 w
theorem Told.fresh {w0 w w' : World} {tb b : Nat} {st : St} {T : List (Int × Int)} {v : Value} (h : Told w0 tb b st T v w) (hg : Below w.heap.size w w') : Told w0 tb b st T v w' :=
  ⟨h.tree.fresh hg, h.inv, h.ok, owns_fresh h.row hg, h.named, h.pos, h.below.trans (hg.mono h.below.size)⟩
theorem cellsH_at {T : List (Int × Int)} {j : Nat} {p : Int × Int} (h : T[j]? = some p) : (cellsH T)[j * 2]? = some (.int .i64 p.1) ∧ (cellsH T)[j * 2 + 1]? = some (.int .i64 p.2) := by
  induction T generalizing j with
  | nil => simp at h
  | cons q T ih =>
    cases j with
    | zero => simp at h; subst h; simp [cellsH]
    | succ j =>
      simp at h
      obtain ⟨h1, h2⟩ := ih h
      rw [show (j + 1) * 2 = j * 2 + 2 by omega]
      exact ⟨by simpa [cellsH] using h1, by simpa [cellsH] using h2⟩
theorem Told.at {w0 w : World} {tb b : Nat} {st : St} {T : List (Int × Int)} {v : Value} (h : Told w0 tb b st T v w) {j : Nat} {p : Int × Int} (hp : T[j]? = some p) :
    ∃ g cap, v = .slice (some ⟨g, 0, none⟩) T.length cap ∧ w.cell? ⟨g, j * 2, none⟩ = some (.int .i64 p.1) ∧ w.cell? ⟨g, j * 2 + 1, none⟩ = some (.int .i64 p.2) ∧ st.names p.1 p.2 = true ∧ ∃ cur, w.heap[g]? = some (.cells cur 34 (0, 0)) := by
  have hj : j < T.length := (List.getElem?_eq_some_iff.1 hp).1
  obtain ⟨g, cap, rfl, _⟩ := h.row.form (by omega)
  obtain ⟨a0, a1⟩ := cellsH_at hp
  refine ⟨g, cap, rfl, by rw [h.row.cellAt _ (by omega), a0], by rw [h.row.cellAt _ (by omega), a1], h.named p (List.mem_of_getElem? hp), ?_⟩
  rcases h.row.2 with ⟨e, _⟩ | ⟨g', cap', cur, e, _, hg, _⟩
  · cases e
  · cases e; exact ⟨cur, hg⟩
/-- A Create by who was told. -/
theorem Told.create {w0 w : World} {tb b g : Nat} {st : St} {T : List (Int × Int)} {v : Value} {cur : Array Value} (h : Told w0 tb b st T v w) (hb : v.ownBlock = some g) (hc : w.heap[g]? = some (.cells cur 34 (0, 0))) (i j : Int) :
    Calls Try.prog 8 #[.pointer (some ⟨tb, 0, none⟩), .agg #[.int .i64 i, .int .i64 j]] w (fun e w' => ∃ st' pi pg n, e = .returned (.tuple #[.agg #[.int .i64 pi, .int .i64 pg], .int .i64 n]) ∧ Told w0 tb b st' T v w' ∧ (n = 0 → st'.names pi pg = true) ∧ w'.heap[g]? = some (.cells cur 34 (0, 0))) := by
  refine (Gt.create w tb b (With (· < w0.heap.size) g) 0 (by omega) st i j (h.tree.guard hc) h.inv h.ok ?_).mono ?_
  · rintro k (hk | rfl)
    · have := h.below.size; omega
    · exact lt_of hc
  · rintro e w' ⟨st', pi, pg, n, he, ht, hs, hI, ho, hm⟩
    refine ⟨st', pi, pg, n, he, ⟨ht.other fun k hk => .inl (.inl hk), hI, ho, own_on h.row fun k hk => hs.block k (.inr ?_), ?_, h.pos, h.below.trans (hs.mono fun k hk => .inl hk).below⟩, ?_, (hs.block g (.inr rfl)).trans hc⟩
    · rw [hb] at hk; cases hk; rfl
    · intro p hp
      rcases hm with ⟨rfl, _⟩ | ⟨_, _, hg⟩
      · exact h.named p hp
      · exact (hg.keeps _ _ (h.named p hp)).1
    · intro hn
      rcases hm with ⟨_, h0⟩ | ⟨_, _, hg⟩
      · exact absurd hn h0
      · exact hg.named

theorem But.grown {w w' : World} {g : Nat} (h : w.grownBy w' (some g)) : But g w w' := ⟨h.os, h.tape, h.output, h.size, fun k hk hne => h.block k hk (fun e => hne (by cases e; rfl))⟩
def IsGrown (w : World) (e : Ending) (w' : World) : Prop := ∃ tb b st T v, e = .returned (.tuple #[.pointer (some ⟨tb, 0, none⟩), v]) ∧ Told w tb b st T v w' ∧ T.length ≤ 41
def GrownI (w : World) (tb b : Nat) (len : Nat) (left : Nat) (t5 t6 : Value) (wr : World) : Prop := ∃ st T, ∃ k : Nat, left + k = 41 ∧ t6 = .int .i64 k ∧ k ≤ 40 ∧ Told w tb b st T t5 wr ∧ T.length ≤ k + 1

theorem told0 {w w1 : World} {tb b : Nat} (ht : Tre w1 tb b (· < w.heap.size) st0) (hg : Below w.heap.size w w1) : Told w tb b st0 [(0, 0)] (.slice (some ⟨w1.heap.size, 0, none⟩) 1 1) (w1.alloc (.cells #[.int .i64 0, .int .i64 0] 34)) :=
  ⟨ht.fresh (alloc1 _ _), inv0, Ok.zero, ⟨rfl, .inr ⟨_, 1, _, rfl, hg.size, heap_alloc_new _ _, by decide, by decide, rfl, rfl⟩⟩, by simp; decide, by decide, hg.alloc hg.size _⟩

end Go.Proofs.Ytanahddlnchioaa.Gt
