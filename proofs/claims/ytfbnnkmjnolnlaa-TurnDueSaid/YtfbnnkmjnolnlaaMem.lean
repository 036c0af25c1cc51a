/- Rows in memory, held apart from other blocks; what is in a set of blocks is as it was. Conditions: none. -/
import Derived.Test.YtfbnnkmjnolnlaaRows
import Derived.WalkKit
import Derived.ProofKit
import Derived.OpenShut
import Derived.Below
import Derived.WalkSmall
import Derived.Deep.AppendLies
import Derived.Maps.AppendAt
namespace Go.Proofs.Ytfbnnkmjnolnlaa.Mem
open Go.ChangeShapes Go.WideShapes Go.ChangeAt Go.RowKit
set_option linter.unusedVariables false
set_option linter.unusedSimpArgs false

/-- A row in memory that lies in no block of O. -/
def Row (w : World) (O : Nat → Prop) (e : TypeId) (size : Nat) (v : Value) (n : Nat) (xs : List Value) : Prop := w.ownsRow 0 e size v n xs ∧ ∀ k, v.ownBlock = some k → ¬ O k
/-- What is in the blocks of O is as it was. -/
structure Same (O : Nat → Prop) (w w' : World) : Prop where
  os : w'.os = w.os
  tape : w'.tape = w.tape
  output : w'.output = w.output
  size : w.heap.size ≤ w'.heap.size
  block : ∀ k, O k → w'.heap[k]? = w.heap[k]?

theorem Same.refl (O : Nat → Prop) (w : World) : Same O w w := ⟨rfl, rfl, rfl, Nat.le_refl _, fun _ _ => rfl⟩
theorem Same.trans {O : Nat → Prop} {a b c : World} (h : Same O a b) (k : Same O b c) : Same O a c :=
  ⟨k.os.trans h.os, k.tape.trans h.tape, k.output.trans h.output, Nat.le_trans h.size k.size, fun i hi => (k.block i hi).trans (h.block i hi)⟩
theorem Same.mono {O O' : Nat → Prop} {a b : World} (h : Same O a b) (k : ∀ i, O' i → O i) : Same O' a b := ⟨h.os, h.tape, h.output, h.size, fun i hi => h.block i (k i hi)⟩
theorem Same.of {O : Nat → Prop} {a b : World} (h : Below a.heap.size a b) (k : ∀ i, O i → i < a.heap.size) : Same O a b := ⟨h.os, h.tape, h.output, h.size, fun i hi => h.block i (k i hi)⟩
theorem Same.below {a b : World} {B : Nat} (h : Same (· < B) a b) : Below B a b := ⟨h.os, h.tape, h.output, h.size, h.block⟩
theorem Same.grown {O : Nat → Prop} {a w w' : World} {row : Option Nat} (h : Same O a w) (hg : w.grownBy w' row) (hB : ∀ k, O k → k < w.heap.size) (hr : ∀ k, row = some k → ¬ O k) : Same O a w' :=
  h.trans ⟨hg.os, hg.tape, hg.output, hg.size, fun k hk => hg.block k (hB k hk) (fun e => hr k e.symm hk)⟩
theorem Same.setCell {O : Nat → Prop} {a w : World} (h : Same O a w) {p : Addr} (hp : ¬ O p.block) (u : Value) : Same O a (w.setCell p u) :=
  h.trans ⟨rfl, rfl, rfl, by simp [World.setCell], fun k hk => Below.heap_setCell _ _ _ _ (fun e => hp (e ▸ hk))⟩
theorem Same.drew {O : Nat → Prop} {a w : World} (h : Same O a w) : Same O a w.drew := ⟨h.os, h.tape, h.output, h.size, h.block⟩
theorem Same.drewN {O : Nat → Prop} {a w : World} (h : Same O a w) (n : Nat) : Same O a (w.drewN n) := ⟨h.os, h.tape, h.output, h.size, h.block⟩
theorem Same.alloc {O : Nat → Prop} {a w : World} (h : Same O a w) (hB : ∀ k, O k → k < w.heap.size) (o : Obj) : Same O a (w.alloc o) :=
  h.trans ⟨rfl, rfl, rfl, by simp, fun k hk => Below.heap_alloc _ _ _ (hB k hk)⟩

theorem fresh_trans {a b c : World} (h : Below a.heap.size a b) (k : Below b.heap.size b c) : Below a.heap.size a c := h.trans (k.mono h.size)
theorem drawn (w : World) (n : Nat) : Below w.heap.size w (w.drewN n) := ⟨rfl, rfl, rfl, Nat.le_refl _, fun _ _ => rfl⟩
theorem lt_of {w : World} {k : Nat} {o : Obj} (h : w.heap[k]? = some o) : k < w.heap.size := (Array.getElem?_eq_some_iff.1 h).1
theorem alloc1 (w : World) (o : Obj) : Below w.heap.size w (w.alloc o) := (Below.refl _ w).alloc (Nat.le_refl _) o
theorem cell_alloc {w : World} {a : Addr} {v : Value} (h : w.cell? a = some v) (o : Obj) : (w.alloc o).cell? a = some v :=
  (World.cell?_of_block (Below.heap_alloc w o a.block (World.block_lt_of_cell? w a h))).trans h
theorem cell_fresh {w w' : World} {a : Addr} {v : Value} (h : w.cell? a = some v) (hg : Below w.heap.size w w') : w'.cell? a = some v := (hg.cell (World.block_lt_of_cell? w a h)).trans h
theorem info_parts {o : Option TypeInfo} {z : Option Value} {s b : Nat} (h : o.map (fun i => (i.zero, i.size, i.bytes)) = some (z, s, b)) : ∃ i, o = some i ∧ i.zero = z ∧ i.size = s ∧ i.bytes = b := by
  cases o with
  | none => simp at h
  | some i => simp at h; exact ⟨i, rfl, h.1, h.2.1, h.2.2⟩
theorem add_at (b o j : Nat) : (⟨b, o, none⟩ : Addr).add j = ⟨b, o + j, none⟩ := by unfold Addr.add; split <;> simp_all

section
variable {w w' : World} {O : Nat → Prop} {e : TypeId} {size : Nat} {v : Value} {n : Nat} {xs : List Value}
theorem Row.lt (h : Row w O e size v n xs) {k : Nat} (hk : v.ownBlock = some k) : k < w.heap.size := (h.1.lt k hk).2
theorem Row.on (h : Row w O e size v n xs) (hb : ∀ k, v.ownBlock = some k → w'.heap[k]? = w.heap[k]?) : Row w' O e size v n xs := by
  refine ⟨⟨h.1.1, ?_⟩, h.2⟩
  rcases h.1.2 with h1 | ⟨g, cap, cur, rfl, h0, hg, h1⟩
  · exact .inl h1
  · exact .inr ⟨g, cap, cur, rfl, h0, by rw [hb g rfl, hg], h1⟩
theorem Row.fresh (h : Row w O e size v n xs) (hb : Below w.heap.size w w') : Row w' O e size v n xs := h.on fun k hk => hb.block k (h.lt hk)
theorem Row.other (h : Row w O e size v n xs) {O' : Nat → Prop} (hb : ∀ k, v.ownBlock = some k → ¬ O' k) : Row w O' e size v n xs := ⟨h.1, hb⟩
theorem own_ne {B : Nat} (h : w.ownsRow B e size v n xs) {b : Nat} {cur : Array Value} {t : TypeId} {f : Nat × Nat} (hb : w.heap[b]? = some (.cells cur t f)) (hne : e ≠ t) : v.ownBlock ≠ some b := by
  intro hk
  rcases h.2 with ⟨rfl, _⟩ | ⟨g, cap, cur', rfl, _, hh, _⟩
  · cases hk
  · simp [Value.ownBlock] at hk
    subst hk
    rw [hh] at hb
    simp at hb
    exact hne hb.2.1
theorem owns_fresh {B : Nat} (h : w.ownsRow B e size v n xs) (hB : Below w.heap.size w w') : w'.ownsRow B e size v n xs := by
  refine ⟨h.1, ?_⟩
  rcases h.2 with h1 | ⟨g, cap, cur, rfl, h0, hg, h1⟩
  · exact .inl h1
  · exact .inr ⟨g, cap, cur, rfl, h0, by rw [hB.block g (lt_of hg), hg], h1⟩
theorem owns_lower {B B' : Nat} (h : w.ownsRow B e size v n xs) (hB : B' ≤ B) : w.ownsRow B' e size v n xs := by
  refine ⟨h.1, ?_⟩
  rcases h.2 with h1 | ⟨g, cap, cur, h1, h2, h3⟩
  · exact .inl h1
  · exact .inr ⟨g, cap, cur, h1, Nat.le_trans hB h2, h3⟩
theorem owns_same {B : Nat} (hown : w.ownsRow B e size v n xs) (hs : Same O w w') (hv : ∀ k, v.ownBlock = some k → O k) : w'.ownsRow B e size v n xs := by
  refine ⟨hown.1, ?_⟩
  rcases hown.2 with h1 | ⟨g, cap, cur, rfl, h0, hg, h1⟩
  · exact .inl h1
  · exact .inr ⟨g, cap, cur, rfl, h0, by rw [hs.block g (hv g rfl), hg], h1⟩
theorem owns_shape {B : Nat} (hown : w.ownsRow B e size v n xs) : ∃ ao cap, v = .slice ao n cap := by
  rcases hown.2 with ⟨rfl, rfl⟩ | ⟨g, cap, cur, rfl, _⟩
  · exact ⟨none, 0, rfl⟩
  · exact ⟨_, cap, rfl⟩
theorem row_cell {B : Nat} {x : Value} {k : Nat} (h : w.ownsRow B e 1 v n xs) (hk : xs[k]? = some x) :
    ∃ g c, v = .slice (some ⟨g, 0, none⟩) n c ∧ w.cell? ⟨g, k, none⟩ = some x ∧ w.frozen? ⟨g, k, none⟩ = false ∧ B ≤ g ∧ g < w.heap.size := by
  have hl := h.1
  have hk1 := (List.getElem?_eq_some_iff.1 hk).1
  obtain ⟨g, c, rfl, hb, hg⟩ := h.form (by omega)
  exact ⟨g, c, rfl, by rw [h.cellAt _ (by omega), hk], h.frozenAt _, hb, hg⟩
end

theorem one_grown (w : World) (b j : Nat) (x : Value) : w.grownBy (w.setCell ⟨b, j, none⟩ x) (some b) := ⟨rfl, rfl, rfl, by simp [World.setCell], fun k _ hk => Below.heap_setCell _ _ _ _ (fun e => hk (by simp [e]))⟩
theorem box_new {w2 : World} {b : Nat} {o o' : Obj} (h : w2.heap[b]? = some o) : (w2.alloc o').heap[b]? = some o := by
  rw [Below.heap_alloc _ _ _ (lt_of h)]; exact h
theorem box_fresh {w w' : World} {b : Nat} {o : Obj} (h : w.heap[b]? = some o) (hg : Below w.heap.size w w') : w'.heap[b]? = some o := (hg.block b (lt_of h)).trans h
theorem grown_alloc {a b : World} {o : Obj} {row : Option Nat} (hg : (a.alloc o).grownBy b row) : a.grownBy b row :=
  ⟨hg.os, hg.tape, hg.output, by have := hg.size; simp at this; omega, fun k hk hne => by rw [hg.block k (by simp; omega) hne, Below.heap_alloc _ _ _ hk]⟩
theorem box_kept {w w' : World} {b : Nat} {o : Obj} {row : Option Nat} (h : w.heap[b]? = some o) (hg : w.grownBy w' row) (hne : row ≠ some b) : w'.heap[b]? = some o := by
  rw [hg.block b (lt_of h) (fun e => hne e.symm)]; exact h
theorem kept_own {a b : World} {B : Nat} {e : TypeId} {n : Nat} {g c k : Nat} {xs : List Value} (h : a.ownsRow B e 1 (.slice (some ⟨g, 0, none⟩) n c) n xs) (hg : a.grownBy b (some k)) (hne : g ≠ k) : b.ownsRow B e 1 (.slice (some ⟨g, 0, none⟩) n c) n xs :=
  h.kept hg (.inr (by simpa [Value.ownBlock] using hne))
theorem made {W : World} {base : Nat} {e : TypeId} {g0 : Nat} (h : W.heap.size = g0) (hb : base ≤ g0) : (W.alloc (.cells #[] e)).ownsRow base e 1 (.slice (some ⟨g0, 0, none⟩) 0 0) 0 [] := by
  subst h
  exact World.ownsRow_made W #[] 0 hb (by simp [maxLen]) rfl
theorem set_block {w : World} {b : Nat} {c : Array Value} {t : TypeId} (hb : w.heap[b]? = some (.cells c t (0, 0))) (j : Nat) (u : Value) : (w.setCell ⟨b, j, none⟩ u).heap[b]? = some (.cells (c.setIfInBounds j u) t (0, 0)) :=
  heap_setCell_same w b j c t u hb
theorem blk_ne {w : World} {b b' : Nat} {cur cur' : Array Value} {t t' : TypeId} {f f' : Nat × Nat} (h : w.heap[b]? = some (.cells cur t f)) (h' : w.heap[b']? = some (.cells cur' t' f')) (hne : t ≠ t') : b ≠ b' := by
  intro e
  subst e
  rw [h] at h'
  simp at h'
  exact hne h'.2.1
theorem list_set_eq {l : List Value} {i : Nat} {v : Value} (h : l[i]? = some v) : l.set i v = l := by
  apply List.ext_getElem?
  intro j
  rw [List.getElem?_set]
  split
  · rename_i e; subst e; rw [if_pos (List.getElem?_eq_some_iff.1 h).1, h]
  · rfl
theorem five {w : World} {b : Nat} {a0 a1 a2 a3 a4 : Value} {t : TypeId} (hb : w.heap[b]? = some (.cells #[a0, a1, a2, a3, a4] t (0, 0))) :
    w.cell? ⟨b, 0, none⟩ = some a0 ∧ w.cell? ⟨b, 1, none⟩ = some a1 ∧ w.cell? ⟨b, 2, none⟩ = some a2 ∧ w.cell? ⟨b, 3, none⟩ = some a3 ∧ w.cell? ⟨b, 4, none⟩ = some a4 ∧ (∀ j, w.frozen? ⟨b, j, none⟩ = false) := by
  refine ⟨?_, ?_, ?_, ?_, ?_, fun j => frozen_of_row w b j _ _ hb⟩
  all_goals rw [cell_of_row w b _ _ _ _ hb]; rfl
theorem four {w : World} {b : Nat} {a0 a1 a2 a3 : Value} {t : TypeId} (hb : w.heap[b]? = some (.cells #[a0, a1, a2, a3] t (0, 0))) :
    w.cell? ⟨b, 0, none⟩ = some a0 ∧ w.cell? ⟨b, 1, none⟩ = some a1 ∧ w.cell? ⟨b, 2, none⟩ = some a2 ∧ w.cell? ⟨b, 3, none⟩ = some a3 ∧ (∀ j, w.frozen? ⟨b, j, none⟩ = false) := by
  refine ⟨?_, ?_, ?_, ?_, fun j => frozen_of_row w b j _ _ hb⟩
  all_goals rw [cell_of_row w b _ _ _ _ hb]; rfl
theorem three {w : World} {b : Nat} {a0 a1 a2 : Value} {t : TypeId} (hb : w.heap[b]? = some (.cells #[a0, a1, a2] t (0, 0))) :
    w.cell? ⟨b, 0, none⟩ = some a0 ∧ w.cell? ⟨b, 1, none⟩ = some a1 ∧ w.cell? ⟨b, 2, none⟩ = some a2 ∧ (∀ j, w.frozen? ⟨b, j, none⟩ = false) := by
  refine ⟨?_, ?_, ?_, fun j => frozen_of_row w b j _ _ hb⟩
  all_goals rw [cell_of_row w b _ _ _ _ hb]; rfl
theorem two {w : World} {b : Nat} {x y : Value} {t : TypeId} (hb : w.heap[b]? = some (.cells #[x, y] t (0, 0))) : w.cell? ⟨b, 0, none⟩ = some x ∧ w.cell? ⟨b, 1, none⟩ = some y ∧ (∀ j, w.frozen? ⟨b, j, none⟩ = false) := by
  refine ⟨?_, ?_, fun j => frozen_of_row w b j _ _ hb⟩
  all_goals rw [cell_of_row w b _ _ _ _ hb]; rfl

/-- O, and one block more. -/
def With (O : Nat → Prop) (k : Nat) : Nat → Prop := fun i => O i ∨ i = k
theorem Same.without {w w' : World} {k : Nat} {O : Nat → Prop} (h : Same (With O k) w w') : Same O w w' := h.mono fun _ => .inl
theorem with_alloc {w : World} {O : Nat → Prop} (hO : ∀ k, O k → k < w.heap.size) (o : Obj) : ∀ k, With O w.heap.size k → k < (w.alloc o).heap.size := by
  rintro k (hk | rfl)
  · have := hO k hk; simp; omega
  · simp

/-- A slice of the call's own, not nil, appended to from a row that lies in memory, nil or not. -/
theorem wpList_append_copy {P : Program} (w : World) {ops : Array Oper} {rest : List Oper} {o : Oper} {a : Act} {Q : Exit → Act → World → Prop} (hgd : o.guard = none) (s x : Operand) (t : TypeId)
    (ho : o.op = .call { callee := .builtin .append, args := #[s, x], argTypes := #[t, t] })
    (base : Nat) (e : TypeId) (i : TypeInfo) (z : Value) (size bytes : Nat) (ht : P.underlying t = some (.slice e)) (hi : P.info? e = some i) (hz : i.zero = some z)
    (hsize : i.size = size) (hby : i.bytes = bytes) (hzs : z.cells.size = size) (hsz : 0 < size)
    (g0 n c0 : Nat) (xs : List Value) (hs : a.eval s = .slice (some ⟨g0, 0, none⟩) n c0) (hown : w.ownsRow base e size (.slice (some ⟨g0, 0, none⟩) n c0) n xs)
    (b2 : Nat) (u : Value) (m : Nat) (ys : List Value) (hx : a.eval x = u) (hu : w.ownsRow b2 e size u m ys) (h1 : ∀ y ∈ ys, y.oneCell' = true)
    (h63 : n + m ≤ maxLen) (hbytes : (n + m) * bytes ≤ 140737488355328) (hbase : base ≤ w.heap.size) (H : Nat) (hH : w.heap.size = H)
    (h : ∀ g cap w', w'.ownsRow base e size (.slice (some ⟨g, 0, none⟩) (n + m) cap) (n + m) (xs ++ ys) → w.grownBy w' (some g0) → (g = g0 ∨ g = H) → wpList P ops Q rest (a.put o.dst (.slice (some ⟨g, 0, none⟩) (n + m) cap)) w') :
    wpList P ops Q (o :: rest) a w := by
  rcases hu.2 with ⟨rfl, rfl⟩ | ⟨g, cap, cur, rfl, _, hg, _⟩
  · have hys : ys = [] := List.eq_nil_of_length_eq_zero (by simpa using hu.1)
    subst hys
    refine wpList_plain hgd fun K hK' => ?_
    have hrun := run_append_owned_none (P := P) w base t o.type e i size ht hi _ n xs hown
    unfold Oper.wp
    simp [execOp, ho, resolve, invoke, builtin, hs, hx, hrun, Result.andThen]
    exact hK' _ _ (by simpa using h g0 c0 w (by simpa using hown) (World.grownBy.refl _ _) (.inl rfl))
  · refine wpList_append_own_at w hgd s x t ho base e i z size bytes ht hi hz hsize hby hzs hsz _ n xs hs hown ⟨g, 0, none⟩ m cap ys hx hu.1 (hu.cells rfl) h1 h63 hbytes hbase ?_
    intro v' w' k1 k2 k3 k4
    rcases k1.2 with ⟨rfl, _⟩ | ⟨g', cap', cur', rfl, _⟩
    · have := k3.1 rfl
      simp at this
    · refine h g' cap' w' k1 k2 ?_
      rcases k4 with k4 | k4
      · exact .inl (by simpa [Value.ownBlock] using k4)
      · exact .inr (by rw [← hH]; simpa [Value.ownBlock] using k4)
end Go.Proofs.Ytfbnnkmjnolnlaa.Mem
