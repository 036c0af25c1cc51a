/- A pool held beside slices of the caller's own. Conditions: none. -/
import Derived.Test.YtpiennnkgbfbbaaArenaFullW
namespace Go.Proofs.Ytpiennnkgbfbbaa.Arena
open Go.ChangeShapes Go.WideShapes Go.ChangeAt Go.RowKit
set_option linter.unusedVariables false
set_option linter.unusedSimpArgs false

/-- What lies below B, and the rows of the slices vs. -/
def OL (B : Nat) (vs : List Value) : Nat → Prop := fun k => k < B ∨ ∃ v ∈ vs, v.ownBlock = some k

section
variable {w0 w w2 : World} {O O' : Nat → Prop} {N : Int} {b B : Nat} {st : St}
/-- A step that leaves the pool alone. -/
theorem Hold.step (h : Hold w0 O N b st w) (hblk : ∀ k, k < w.heap.size → ¬ O k → w2.heap[k]? = w.heap[k]?) (hO : ∀ k, O' k → O k ∨ w.heap.size ≤ k) (hlt : ∀ k, O' k → k < w2.heap.size) (hsub : ∀ k, k < w0.heap.size → O' k) (hb : Below w0.heap.size w0 w2) : Hold w0 O' N b st w2 := by
  obtain ⟨vp, vf, h1, h2, h3, h4⟩ := h.pool
  have key : ∀ k, k < w.heap.size → ¬ O k → ¬ O' k := fun k a1 a2 a3 => (hO k a3).elim a2 (by omega)
  refine ⟨⟨vp, vf, (hblk b (lt_of h1) h2).trans h1, key b (lt_of h1) h2, ?_, ?_⟩, h.inv, hlt, hsub, hb⟩
  · exact (h3.on fun k hk => hblk k (h3.lt hk) (h3.2 k hk)).other fun k hk => key k (h3.lt hk) (h3.2 k hk)
  · exact (h4.on fun k hk => hblk k (h4.lt hk) (h4.2 k hk)).other fun k hk => key k (h4.lt hk) (h4.2 k hk)
theorem OL.sub (hB : w0.heap.size ≤ B) (vs : List Value) : ∀ k, k < w0.heap.size → OL B vs k := fun k hk => .inl (Nat.lt_of_lt_of_le hk hB)

/-- A slice of the caller's is appended to (the element laid in a block of its own first). -/
theorem Hold.append {vs us : List Value} {v : Value} {e : TypeId} {s n m c g : Nat} {xs : List Value} {o : Obj} (h : Hold w0 (OL B vs) N b st w) (hB : w0.heap.size ≤ B) (hown : w.ownsRow B e s v n xs) (hv : v ∈ vs) (hg : (w.alloc o).grownBy w2 v.ownBlock) (hat : v.ownBlock = some g ∨ g = w.heap.size + 1) (hlt : g < w2.heap.size)
    (hus : ∀ u ∈ us, u ∈ vs ∨ u = .slice (some ⟨g, 0, none⟩) m c) : Hold w0 (OL B us) N b st w2 := by
  have hs : w.heap.size ≤ w2.heap.size := by have := hg.size; simp at this; omega
  refine h.step (fun k h1 h2 => ?_) (fun k hk => ?_) (fun k hk => ?_) (OL.sub hB _) ?_
  · rw [hg.block k (by simp; omega) (fun e => h2 (.inr ⟨v, hv, e.symm⟩)), Below.heap_alloc w o k h1]
  · rcases hk with hk | ⟨u, hu, huk⟩
    · exact .inl (.inl hk)
    · rcases hus u hu with h1 | rfl
      · exact .inl (.inr ⟨u, h1, huk⟩)
      · simp [Value.ownBlock] at huk
        subst huk
        rcases hat with h1 | h1
        · exact .inl (.inr ⟨v, hv, h1⟩)
        · exact .inr (by omega)
  · rcases hk with hk | ⟨u, hu, huk⟩
    · exact Nat.lt_of_lt_of_le (h.lt k (.inl hk)) hs
    · rcases hus u hu with h1 | rfl
      · exact Nat.lt_of_lt_of_le (h.lt k (.inr ⟨u, h1, huk⟩)) hs
      · simp [Value.ownBlock] at huk
        subst huk
        exact hlt
  · exact (h.below.alloc h.below.size o).grown hg (by have := h.below.size; simp; omega) fun k hk => Nat.le_trans hB (hown.lt k hk).1
/-- A row of the caller's is as it was. -/
theorem owns_same {e : TypeId} {s n : Nat} {v : Value} {xs : List Value} (hown : w.ownsRow B e s v n xs) (hs : Same O w w2) (hv : ∀ k, v.ownBlock = some k → O k) : w2.ownsRow B e s v n xs := by
  refine ⟨hown.1, ?_⟩
  rcases hown.2 with h1 | ⟨g, cap, cur, rfl, h0, hg, h1⟩
  · exact .inl h1
  · exact .inr ⟨g, cap, cur, rfl, h0, by rw [hs.block g (hv g rfl), hg], h1⟩
theorem OL.mem {vs : List Value} {v : Value} (hv : v ∈ vs) : ∀ k, v.ownBlock = some k → OL B vs k := fun k hk => .inr ⟨v, hv, hk⟩
/-- A row of the caller's with an element of its own: its cell. -/
theorem owns_shape {e : TypeId} {s n : Nat} {v : Value} {xs : List Value} (hown : w.ownsRow B e s v n xs) : ∃ ao cap, v = .slice ao n cap := by
  rcases hown.2 with ⟨rfl, rfl⟩ | ⟨g, cap, cur, rfl, _⟩
  · exact ⟨none, 0, rfl⟩
  · exact ⟨_, cap, rfl⟩
theorem owns_kept {e e' : TypeId} {s s' n n' : Nat} {v v' : Value} {xs xs' : List Value} {o : Obj} (hown : w.ownsRow B e s v n xs) (hv' : w.ownsRow B e' s' v' n' xs') (hne : e ≠ e') (hg : (w.alloc o).grownBy w2 v'.ownBlock) : w2.ownsRow B e s v n xs := by
  refine ⟨hown.1, ?_⟩
  rcases hown.2 with h1 | ⟨g, cap, cur, rfl, h0, hh, h1⟩
  · exact .inl h1
  · refine .inr ⟨g, cap, cur, rfl, h0, ?_, h1⟩
    rw [hg.block g (by have := lt_of hh; simp; omega) ?_, Below.heap_alloc w o g (lt_of hh), hh]
    intro hk
    rcases hv'.2 with ⟨rfl, _⟩ | ⟨g', cap', cur', rfl, _, hh', _⟩
    · cases hk
    · simp [Value.ownBlock] at hk
      subst hk
      rw [hh] at hh'
      simp at hh'
      exact hne hh'.2
end
end Go.Proofs.Ytpiennnkgbfbbaa.Arena
