/- The document's pool in memory; what its copy is. Conditions: none. -/
import Derived.Test.YtanahddlnchioaaArenaDoc
import Derived.Maps.AppendAt
namespace Go.Proofs.Ytanahddlnchioaa.Arena
open Go.ChangeShapes Go.WideShapes Go.ChangeAt Go.RowKit
set_option linter.unusedVariables false
set_option linter.unusedSimpArgs false

/-- A slice of the call's own, not nil, appended to from a row that lies in memory, nil or not. -/
theorem wpList_append_copy {P : Program} (w : World) {ops : Array Oper} {rest : List Oper} {o : Oper} {a : Act} {Q : Exit → Act → World → Prop} (hgd : o.guard = none) (s x : Operand) (t : TypeId)
    (ho : o.op = .call { callee := .builtin .append, args := #[s, x], argTypes := #[t, t] })
    (base : Nat) (e : TypeId) (i : TypeInfo) (z : Value) (size bytes : Nat) (ht : P.underlying t = some (.slice e)) (hi : P.info? e = some i) (hz : i.zero = some z)
    (hsize : i.size = size) (hby : i.bytes = bytes) (hzs : z.cells.size = size) (hsz : 0 < size)
    (g0 n c0 : Nat) (xs : List Value) (hs : a.eval s = .slice (some ⟨g0, 0, none⟩) n c0) (hown : w.ownsRow base e size (.slice (some ⟨g0, 0, none⟩) n c0) n xs)
    (b2 : Nat) (u : Value) (m : Nat) (ys : List Value) (hx : a.eval x = u) (hu : w.ownsRow b2 e size u m ys) (h1 : ∀ y ∈ ys, y.oneCell' = true)
    (h63 : n + m ≤ maxLen) (hbytes : (n + m) * bytes ≤ 140737488355328) (hbase : base ≤ w.heap.size) (H : Nat) (hH : w.heap.size = H)
    (h : ∀ g cap w', w'.ownsRow base e size (.slice (some ⟨g, 0, none⟩) (n + m) cap) (n + m) (xs ++ ys) → w.grownBy w' (some g0) → (g = g0 ∨ g = H) → wpList P ops Q rest (a.put o.dst (.slice (some ⟨g, 0, none⟩) (n + m) cap)) w') :
    wpList P ops Q (o :: rest) a w := by
  rcases hu.2 with ⟨rfl, rfl⟩ | ⟨g, cap, cur, rfl, _, hg, _⟩
  · have hys : ys = [] := List.eq_nil_of_length_eq_zero (by simpa using hu.1)
    subst hys
    refine wpList_plain hgd fun K hK' => ?_
    have hrun := run_append_owned_none (P := P) w base t o.type e i size ht hi _ n xs hown
    unfold Oper.wp
    simp [execOp, ho, resolve, invoke, builtin, hs, hx, hrun, Result.andThen]
    exact hK' _ _ (by simpa using h g0 c0 w (by simpa using hown) (World.grownBy.refl _ _) (.inl rfl))
  · refine wpList_append_own_at w hgd s x t ho base e i z size bytes ht hi hz hsize hby hzs hsz _ n xs hs hown ⟨g, 0, none⟩ m cap ys hx hu.1 (hu.cells rfl) h1 h63 hbytes hbase ?_
    intro v' w' k1 k2 k3 k4
    rcases k1.2 with ⟨rfl, _⟩ | ⟨g', cap', cur', rfl, _⟩
    · have := k3.1 rfl
      simp at this
    · refine h g' cap' w' k1 k2 ?_
      rcases k4 with k4 | k4
      · exact .inl (by simpa [Value.ownBlock] using k4)
      · exact .inr (by rw [← hH]; simpa [Value.ownBlock] using k4)

/-- The rows of the document's pool. -/
def cV (l : List Pl) : List Value := l.map fun q => Value.int .i64 q.thing
def cU (l : List Pl) : List Value := l.map fun q => Value.bool q.full
def cG (l : List Pl) : List Value := l.map fun q => Value.int .i64 q.gen
structure RefAt (B : Nat) (v1 v2 v3 v4 : Value) (st : St) (w : World) : Prop where
  o1 : w.ownsRow B 3 1 v1 st.pl.length (cV st.pl)
  o2 : w.ownsRow B 4 1 v2 st.pl.length (cU st.pl)
  o3 : w.ownsRow B 3 1 v3 st.pl.length (cG st.pl)
  o4 : w.ownsRow B 3 1 v4 st.fr.length (cellsI st.fr)
theorem RefAt.fresh {B : Nat} {v1 v2 v3 v4 : Value} {st : St} {w w' : World} (h : RefAt B v1 v2 v3 v4 st w) (hg : Below w.heap.size w w') : RefAt B v1 v2 v3 v4 st w' :=
  ⟨owns_fresh h.o1 hg, owns_fresh h.o2 hg, owns_fresh h.o3 hg, owns_fresh h.o4 hg⟩
theorem owns_lower {B B' : Nat} {w : World} {e : TypeId} {s n : Nat} {v : Value} {xs : List Value} (h : w.ownsRow B e s v n xs) (hB : B' ≤ B) : w.ownsRow B' e s v n xs := by
  refine ⟨h.1, ?_⟩
  rcases h.2 with h1 | ⟨g, cap, cur, h1, h2, h3⟩
  · exact .inl h1
  · exact .inr ⟨g, cap, cur, h1, Nat.le_trans hB h2, h3⟩
theorem RefAt.lower {B B' : Nat} {v1 v2 v3 v4 : Value} {st : St} {w : World} (h : RefAt B v1 v2 v3 v4 st w) (hB : B' ≤ B) : RefAt B' v1 v2 v3 v4 st w :=
  ⟨owns_lower h.o1 hB, owns_lower h.o2 hB, owns_lower h.o3 hB, owns_lower h.o4 hB⟩
theorem oneV (l : List Pl) : ∀ y ∈ cV l, y.oneCell' = true := by intro y hy; obtain ⟨_, _, rfl⟩ := List.mem_map.1 hy; rfl
theorem oneU (l : List Pl) : ∀ y ∈ cU l, y.oneCell' = true := by intro y hy; obtain ⟨_, _, rfl⟩ := List.mem_map.1 hy; rfl
theorem oneG (l : List Pl) : ∀ y ∈ cG l, y.oneCell' = true := by intro y hy; obtain ⟨_, _, rfl⟩ := List.mem_map.1 hy; rfl
theorem oneI (l : List Nat) : ∀ y ∈ cellsI l, y.oneCell' = true := by intro y hy; obtain ⟨_, _, rfl⟩ := List.mem_map.1 hy; rfl

theorem five {w : World} {b : Nat} {a0 a1 a2 a3 a4 : Value} {t : TypeId} (hb : w.heap[b]? = some (.cells #[a0, a1, a2, a3, a4] t (0, 0))) :
    w.cell? ⟨b, 0, none⟩ = some a0 ∧ w.cell? ⟨b, 1, none⟩ = some a1 ∧ w.cell? ⟨b, 2, none⟩ = some a2 ∧ w.cell? ⟨b, 3, none⟩ = some a3 ∧ w.cell? ⟨b, 4, none⟩ = some a4 ∧ (∀ j, w.frozen? ⟨b, j, none⟩ = false) := by
  refine ⟨?_, ?_, ?_, ?_, ?_, fun j => frozen_of_row w b j _ _ hb⟩
  all_goals rw [cell_of_row w b _ _ _ _ hb]; rfl

/-- In the midst of the copying: the box at b1 holds a's; what lay below the old size lies there still, and so does the answer's box. -/
structure Cop (w : World) (r : Int) (a1 a2 a3 a4 : Value) (W : World) : Prop where
  below : Below w.heap.size w W
  lt : w.heap.size + 1 < W.heap.size
  box : W.heap[w.heap.size]? = some (.cells #[.int .i64 r, a1, a2, a3, a4] 29 (0, 0))
  res : W.heap[w.heap.size + 1]? = some (.cells #[.int .i64 0, .slice none 0 0, .slice none 0 0, .slice none 0 0, .slice none 0 0] 29 (0, 0))
theorem Cop.start (w : World) (r : Int) (a1 a2 a3 a4 : Value) : Cop w r a1 a2 a3 a4 ((w.alloc (.cells #[.int .i64 r, a1, a2, a3, a4] 29)).alloc (.cells #[.int .i64 0, .slice none 0 0, .slice none 0 0, .slice none 0 0, .slice none 0 0] 29)) := by
  refine ⟨((Below.refl _ w).alloc (Nat.le_refl _) _).alloc (by simp) _, by simp, ?_, by simpa using heap_alloc_new (w.alloc (.cells #[.int .i64 r, a1, a2, a3, a4] 29)) _⟩
  rw [Below.heap_alloc _ _ _ (by simp)]
  exact heap_alloc_new w _
/-- One slice is copied, ahead of the store. -/
theorem Cop.mid {w W W1 : World} {r : Int} {a1 a2 a3 a4 : Value} {o : Obj} (h : Cop w r a1 a2 a3 a4 W) (hg : (W.alloc o).grownBy W1 (some W.heap.size)) : Cop w r a1 a2 a3 a4 W1 ∧ W.grownBy W1 (some w.heap.size) := by
  have hb : ∀ k, k < W.heap.size → W1.heap[k]? = W.heap[k]? := fun k hk => by rw [hg.block k (by simp; omega) (fun e => by simp at e; omega), Below.heap_alloc _ _ _ hk]
  have hs : W.heap.size ≤ W1.heap.size := by have := hg.size; simp at this; omega
  have hl := h.lt
  refine ⟨⟨h.below.trans ⟨hg.os, hg.tape, hg.output, hs, fun k hk => hb k (by have := h.below.size; omega)⟩, by omega, by rw [hb _ (by omega)]; exact h.box, by rw [hb _ (by omega)]; exact h.res⟩, ⟨hg.os, hg.tape, hg.output, hs, fun k hk _ => hb k hk⟩⟩
theorem Cop.store {w W : World} {r : Int} {a1 a2 a3 a4 : Value} (h : Cop w r a1 a2 a3 a4 W) (u : Value) :
    (Cop w r u a2 a3 a4 (W.setCell ⟨w.heap.size, 1, none⟩ u) ∧ Cop w r a1 u a3 a4 (W.setCell ⟨w.heap.size, 2, none⟩ u) ∧ Cop w r a1 a2 u a4 (W.setCell ⟨w.heap.size, 3, none⟩ u) ∧ Cop w r a1 a2 a3 u (W.setCell ⟨w.heap.size, 4, none⟩ u)) ∧
    ∀ j, W.grownBy (W.setCell ⟨w.heap.size, j, none⟩ u) (some w.heap.size) := by
  have hb := fun j => set_block h.box j u
  have hr := fun j => (Below.heap_setCell W ⟨w.heap.size, j, none⟩ u (w.heap.size + 1) (by simp)).trans h.res
  have hl : ∀ j, w.heap.size + 1 < (W.setCell ⟨w.heap.size, j, none⟩ u).heap.size := fun j => by simpa [World.setCell] using h.lt
  have hw := fun j => h.below.setCell (p := ⟨w.heap.size, j, none⟩) (Nat.le_refl _) u
  refine ⟨⟨⟨hw 1, hl 1, hb 1, hr 1⟩, ⟨hw 2, hl 2, hb 2, hr 2⟩, ⟨hw 3, hl 3, hb 3, hr 3⟩, ⟨hw 4, hl 4, hb 4, hr 4⟩⟩, fun j => ⟨rfl, rfl, rfl, by simp [World.setCell], fun k _ hk => Below.heap_setCell _ _ _ _ (fun e => hk (by simp [e]))⟩⟩
end Go.Proofs.Ytanahddlnchioaa.Arena
