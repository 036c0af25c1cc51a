/- What a store, an append and a cut do to a pool in memory. Conditions: none. -/
import Derived.Test.YtanahddlnchioaaHpReads
namespace Go.Proofs.Ytanahddlnchioaa.Hp
open Go.ChangeShapes Go.WideShapes Go.ChangeAt Go.RowKit
set_option linter.unusedVariables false
set_option linter.unusedSimpArgs false

/-- A pool's block and its two rows. -/
structure Parts (w : World) (b : Nat) (O : Nat → Prop) (r : Int) (vp vf : Value) (n : Nat) (xs : List Value) (m : Nat) (ys : List Value) : Prop where
  blk : w.heap[b]? = some (.cells #[.int .i64 r, vp, vf] 87 (0, 0))
  out : ¬ O b
  pl : Row w O 90 4 vp n xs
  fr : Row w O 3 1 vf m ys
theorem Pool.parts {w : World} {b : Nat} {O : Nat → Prop} {st : St} (h : Pool w b O st) : ∃ vp vf, Parts w b O st.room vp vf st.pl.length (cellsP st.pl) st.fr.length (cellsI st.fr) := by
  obtain ⟨vp, vf, h1, h2, h3, h4⟩ := h
  exact ⟨vp, vf, h1, h2, h3, h4⟩
section
variable {w w1 : World} {b : Nat} {O : Nat → Prop} {r : Int} {vp vf : Value} {n : Nat} {xs : List Value} {m : Nat} {ys : List Value}

theorem Parts.pool {st : St} (h : Parts w b O st.room vp vf n xs m ys) (e1 : st.pl.length = n) (e2 : cellsP st.pl = xs) (e3 : st.fr.length = m) (e4 : cellsI st.fr = ys) : Pool w b O st := by
  subst e1 e2 e3 e4
  exact ⟨vp, vf, h.blk, h.out, h.pl, h.fr⟩
theorem Parts.fresh (h : Parts w b O r vp vf n xs m ys) (hB : Below w.heap.size w w1) : Parts w1 b O r vp vf n xs m ys :=
  ⟨by rw [hB.block b (lt_of h.blk), h.blk], h.out, h.pl.fresh hB, h.fr.fresh hB⟩
theorem Parts.drew (h : Parts w b O r vp vf n xs m ys) : Parts w.drew b O r vp vf n xs m ys := h.fresh (Below.refl _ w).drew
theorem Parts.alloc (h : Parts w b O r vp vf n xs m ys) (o : Obj) : Parts (w.alloc o) b O r vp vf n xs m ys := h.fresh ((Below.refl _ w).alloc (Nat.le_refl _) o)

/-- The blocks lie apart. -/
theorem Parts.pb (h : Parts w b O r vp vf n xs m ys) : ∀ k, vp.ownBlock = some k → k ≠ b := h.pl.apart h.blk (by decide)
theorem Parts.fb (h : Parts w b O r vp vf n xs m ys) : ∀ k, vf.ownBlock = some k → k ≠ b := h.fr.apart h.blk (by decide)
theorem Parts.pf (h : Parts w b O r vp vf n xs m ys) : ∀ k j, vp.ownBlock = some k → vf.ownBlock = some j → k ≠ j := by
  intro k j hk hj
  obtain ⟨cur, hc⟩ := h.fr.block hj
  exact h.pl.apart hc (by decide) k hk

/-- A store into a place. -/
theorem Parts.place {g c : Nat} (h : Parts w b O r (.slice (some ⟨g, 0, none⟩) n c) vf n xs m ys) (j : Nat) (u : Value) :
    Parts (w.setCell ⟨g, j, none⟩ u) b O r (.slice (some ⟨g, 0, none⟩) n c) vf n (xs.set j u) m ys := by
  refine ⟨?_, h.out, ⟨(h.pl.1.stored j u).1, h.pl.2⟩, h.fr.on fun k hk => ?_⟩
  · rw [Below.heap_setCell _ _ _ _ (fun e => h.pb g rfl e.symm)]
    exact h.blk
  · exact Below.heap_setCell _ _ _ _ (fun e => h.pf g k rfl hk e.symm)
theorem Parts.placeSame {g c : Nat} (h : Parts w b O r (.slice (some ⟨g, 0, none⟩) n c) vf n xs m ys) {a : World} (hs : Same O a w) (j : Nat) (u : Value) : Same O a (w.setCell ⟨g, j, none⟩ u) :=
  hs.setCell (h.pl.2 g rfl) u

/-- The row of places was appended to: ahead of the store into the field. -/
theorem Parts.grownP (h : Parts w b O r vp vf n xs m ys) (hg : w.grownBy w1 vp.ownBlock) :
    w1.heap[b]? = some (.cells #[.int .i64 r, vp, vf] 87 (0, 0)) ∧ Row w1 O 3 1 vf m ys :=
  ⟨by rw [hg.block b (lt_of h.blk) (fun e => h.pb b e.symm rfl), h.blk], h.fr.on fun k hk => hg.block k (h.fr.lt hk) (fun e => h.pf k k e.symm hk rfl)⟩
theorem Parts.grownF (h : Parts w b O r vp vf n xs m ys) (hg : w.grownBy w1 vf.ownBlock) :
    w1.heap[b]? = some (.cells #[.int .i64 r, vp, vf] 87 (0, 0)) ∧ Row w1 O 90 4 vp n xs :=
  ⟨by rw [hg.block b (lt_of h.blk) (fun e => h.fb b e.symm rfl), h.blk], h.pl.on fun k hk => hg.block k (h.pl.lt hk) (fun e => h.pf k k hk e.symm rfl)⟩

theorem out_of {v v' : Value} {H : Nat} (h2 : ∀ k, v.ownBlock = some k → ¬ O k) (hO : ∀ k, O k → k < H) (hat : ∀ k, v'.ownBlock = some k → v.ownBlock = some k ∨ k = H) : ∀ k, v'.ownBlock = some k → ¬ O k := fun k hk hk2 => by
  rcases hat k hk with h | h
  · exact h2 k h hk2
  · have := hO k hk2; omega

theorem row_setCell {e : TypeId} {size : Nat} {v : Value} {k : Nat} {l : List Value} (h : Row w O e size v k l) {a : Addr} (ha : ∀ i, v.ownBlock = some i → i ≠ a.block) (u : Value) : Row (w.setCell a u) O e size v k l :=
  h.on fun i hi => Below.heap_setCell _ _ _ _ (ha i hi)

theorem set_block {c : Array Value} {t : TypeId} (hb : w.heap[b]? = some (.cells c t (0, 0))) (j : Nat) (u : Value) : (w.setCell ⟨b, j, none⟩ u).heap[b]? = some (.cells (c.setIfInBounds j u) t (0, 0)) :=
  heap_setCell_same w b j c t u hb

/-- And behind it: the new row is the pool's. -/
theorem Parts.endP {vp' : Value} {n' : Nat} {xs' : List Value} {H : Nat} (h : Parts w b O r vp vf n xs m ys) (hg : w.grownBy w1 vp.ownBlock) (hown : w1.ownsRow 0 90 4 vp' n' xs') (hO : ∀ k, O k → k < H)
    (hat : ∀ k, vp'.ownBlock = some k → vp.ownBlock = some k ∨ k = H) : Parts (w1.setCell ⟨b, 1, none⟩ vp') b O r vp' vf n' xs' m ys := by
  obtain ⟨e1, e2⟩ := h.grownP hg
  have hp' : Row w1 O 90 4 vp' n' xs' := ⟨hown, out_of h.pl.2 hO hat⟩
  exact ⟨set_block e1 1 vp', h.out, row_setCell hp' (hp'.apart e1 (by decide)) _, row_setCell e2 (e2.apart e1 (by decide)) _⟩
theorem Parts.endF {vf' : Value} {m' : Nat} {ys' : List Value} {H : Nat} (h : Parts w b O r vp vf n xs m ys) (hg : w.grownBy w1 vf.ownBlock) (hown : w1.ownsRow 0 3 1 vf' m' ys') (hO : ∀ k, O k → k < H)
    (hat : ∀ k, vf'.ownBlock = some k → vf.ownBlock = some k ∨ k = H) : Parts (w1.setCell ⟨b, 2, none⟩ vf') b O r vp vf' n xs m' ys' := by
  obtain ⟨e1, e2⟩ := h.grownF hg
  have hp' : Row w1 O 3 1 vf' m' ys' := ⟨hown, out_of h.fr.2 hO hat⟩
  exact ⟨set_block e1 2 vf', h.out, row_setCell e2 (e2.apart e1 (by decide)) _, row_setCell hp' (hp'.apart e1 (by decide)) _⟩

/-- A row cut at its end. -/
theorem owns_cut {e : TypeId} {g c k k' : Nat} {l : List Value} (h : w.ownsRow 0 e 1 (.slice (some ⟨g, 0, none⟩) k c) k l) (hk : k' ≤ k) : w.ownsRow 0 e 1 (.slice (some ⟨g, 0, none⟩) k' c) k' (l.take k') := by
  have h1 := h.1
  rcases h.2 with ⟨h', _⟩ | ⟨g', cap', cur, h', _, hg, h5, h6, h7, htake⟩
  · simp at h'
  · simp only [Value.slice.injEq, Option.some.injEq, Addr.mk.injEq, and_true, true_and] at h'
    obtain ⟨rfl, rfl⟩ := h'
    refine ⟨by simp; omega, .inr ⟨g, c, cur, rfl, Nat.zero_le _, hg, by omega, h6, h7, ?_⟩⟩
    rw [← htake, List.take_take]
    congr 1
    omega
theorem Parts.cut {g c k : Nat} (h : Parts w b O r vp (.slice (some ⟨g, 0, none⟩) m c) n xs m ys) (hk : k ≤ m) :
    Parts (w.setCell ⟨b, 2, none⟩ (.slice (some ⟨g, 0, none⟩) k c)) b O r vp (.slice (some ⟨g, 0, none⟩) k c) n xs k (ys.take k) :=
  ⟨set_block h.blk 2 _, h.out, row_setCell h.pl h.pb _, row_setCell (v := .slice (some ⟨g, 0, none⟩) k c) (a := ⟨b, 2, none⟩) ⟨owns_cut h.fr.1 hk, h.fr.2⟩ (fun i hi => h.fb i hi) _⟩
end
end Go.Proofs.Ytanahddlnchioaa.Hp
