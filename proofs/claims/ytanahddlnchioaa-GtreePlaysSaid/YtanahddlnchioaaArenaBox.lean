/- The document's copy in its box, written to. Conditions: none. -/
import Derived.Test.YtanahddlnchioaaArenaRefS
namespace Go.Proofs.Ytanahddlnchioaa.Arena
open Go.ChangeShapes Go.WideShapes Go.ChangeAt Go.RowKit
set_option linter.unusedVariables false
set_option linter.unusedSimpArgs false

def Far (u v : Value) : Prop := ∀ k, u.ownBlock = some k → v.ownBlock ≠ some k
theorem Far.symm {u v : Value} (h : Far u v) : Far v u := fun k h1 h2 => h k h2 h1
theorem one_grown (w : World) (b j : Nat) (x : Value) : w.grownBy (w.setCell ⟨b, j, none⟩ x) (some b) := ⟨rfl, rfl, rfl, by simp [World.setCell], fun k _ hk => Below.heap_setCell _ _ _ _ (fun e => hk (by simp [e]))⟩
theorem kept_v {a b : World} {B : Nat} {e : TypeId} {v u : Value} {n : Nat} {xs : List Value} (h : a.ownsRow B e 1 v n xs) (hg : a.grownBy b u.ownBlock) (hne : Far v u) : b.ownsRow B e 1 v n xs :=
  h.kept hg (by cases hv : v.ownBlock with | none => exact .inl rfl | some k => exact .inr (Ne.symm (hne k hv)))
theorem own_ne {w : World} {B : Nat} {e : TypeId} {v : Value} {n : Nat} {xs : List Value} {b : Nat} {cur : Array Value} {t : TypeId} {f : Nat × Nat} (h : w.ownsRow B e 1 v n xs) (hb : w.heap[b]? = some (.cells cur t f)) (hne : e ≠ t) : v.ownBlock ≠ some b := by
  intro hk
  rcases h.2 with ⟨rfl, _⟩ | ⟨g, cap, cur', rfl, _, hh, _⟩
  · cases hk
  · simp [Value.ownBlock] at hk
    subst hk
    rw [hh] at hb
    simp at hb
    exact hne hb.2.1
theorem far_type {w : World} {B B' : Nat} {e e' : TypeId} {v v' : Value} {n n' : Nat} {xs xs' : List Value} (h : w.ownsRow B e 1 v n xs) (h' : w.ownsRow B' e' 1 v' n' xs') (hne : e ≠ e') : Far v v' := by
  intro k hk hk'
  rcases h'.2 with ⟨rfl, _⟩ | ⟨g, cap, cur', rfl, _, hh, _⟩
  · cases hk'
  · simp [Value.ownBlock] at hk'
    subst hk'
    exact own_ne h hh hne hk
theorem kept_box {a b : World} {B : Nat} {e : TypeId} {v : Value} {n : Nat} {xs : List Value} {k : Nat} (h : a.ownsRow B e 1 v n xs) (hg : a.grownBy b (some k)) (hne : v.ownBlock ≠ some k) : b.ownsRow B e 1 v n xs := h.kept hg (.inr hne)
theorem grown_alloc {a b : World} {o : Obj} {row : Option Nat} (hg : (a.alloc o).grownBy b row) : a.grownBy b row :=
  ⟨hg.os, hg.tape, hg.output, by have := hg.size; simp at this; omega, fun k hk hne => by rw [hg.block k (by simp; omega) hne, Below.heap_alloc _ _ _ hk]⟩
theorem box_kept {w w' : World} {b : Nat} {o : Obj} {row : Option Nat} (h : w.heap[b]? = some o) (hg : w.grownBy w' row) (hne : row ≠ some b) : w'.heap[b]? = some o := by
  rw [hg.block b (lt_of h) (fun e => hne e.symm)]; exact h

structure QX (B bq : Nat) (r : Int) (u1 u2 u3 u4 : Value) (n1 n2 n3 n4 : Nat) (l1 l2 l3 l4 : List Value) (W : World) : Prop where
  box : W.heap[bq]? = some (.cells #[.int .i64 r, u1, u2, u3, u4] 29 (0, 0))
  o1 : W.ownsRow B 3 1 u1 n1 l1
  o2 : W.ownsRow B 4 1 u2 n2 l2
  o3 : W.ownsRow B 3 1 u3 n3 l3
  o4 : W.ownsRow B 3 1 u4 n4 l4
  d12 : Far u1 u2
  d13 : Far u1 u3
  d14 : Far u1 u4
  d23 : Far u2 u3
  d24 : Far u2 u4
  d34 : Far u3 u4
section
variable {B bq : Nat} {r : Int} {u1 u2 u3 u4 : Value} {n1 n2 n3 n4 : Nat} {l1 l2 l3 l4 : List Value} {W W1 : World}
theorem QX.fresh (h : QX B bq r u1 u2 u3 u4 n1 n2 n3 n4 l1 l2 l3 l4 W) (hg : Below W.heap.size W W1) : QX B bq r u1 u2 u3 u4 n1 n2 n3 n4 l1 l2 l3 l4 W1 :=
  ⟨by rw [hg.block bq (lt_of h.box)]; exact h.box, owns_fresh h.o1 hg, owns_fresh h.o2 hg, owns_fresh h.o3 hg, owns_fresh h.o4 hg, h.d12, h.d13, h.d14, h.d23, h.d24, h.d34⟩
theorem QX.drew (h : QX B bq r u1 u2 u3 u4 n1 n2 n3 n4 l1 l2 l3 l4 W) : QX B bq r u1 u2 u3 u4 n1 n2 n3 n4 l1 l2 l3 l4 W.drew := h.fresh (Below.refl _ W).drew
/-- A store into row 1. -/
theorem QX.set1 {g c : Nat} (h : QX B bq r (.slice (some ⟨g, 0, none⟩) n1 c) u2 u3 u4 n1 n2 n3 n4 l1 l2 l3 l4 W) (j : Nat) (x : Value) : QX B bq r (.slice (some ⟨g, 0, none⟩) n1 c) u2 u3 u4 n1 n2 n3 n4 (l1.set j x) l2 l3 l4 (W.setCell ⟨g, j, none⟩ x) :=
  ⟨box_kept h.box (one_grown W g j x) (fun e => own_ne h.o1 h.box (by decide) e), (h.o1.stored j x).1, kept_v (u := .slice (some ⟨g, 0, none⟩) n1 c) h.o2 (one_grown W g j x) h.d12.symm, kept_v (u := .slice (some ⟨g, 0, none⟩) n1 c) h.o3 (one_grown W g j x) h.d13.symm, kept_v (u := .slice (some ⟨g, 0, none⟩) n1 c) h.o4 (one_grown W g j x) h.d14.symm, h.d12, h.d13, h.d14, h.d23, h.d24, h.d34⟩
/-- Row 1 was appended to: ahead of the store of the field. -/
theorem QX.mid1 {o : Obj} (h : QX B bq r u1 u2 u3 u4 n1 n2 n3 n4 l1 l2 l3 l4 W) (hg : (W.alloc o).grownBy W1 u1.ownBlock) : W1.heap[bq]? = some (.cells #[.int .i64 r, u1, u2, u3, u4] 29 (0, 0)) :=
  box_kept h.box (grown_alloc hg) (own_ne h.o1 h.box (by decide))
/-- And behind it. -/
theorem QX.app1 {o : Obj} {u : Value} {n : Nat} {l : List Value} (h : QX B bq r u1 u2 u3 u4 n1 n2 n3 n4 l1 l2 l3 l4 W) (hg : (W.alloc o).grownBy W1 u1.ownBlock) (hown : W1.ownsRow B 3 1 u n l) (hat : ∀ k, u.ownBlock = some k → u1.ownBlock = some k ∨ k = W.heap.size + 1) : QX B bq r u u2 u3 u4 n n2 n3 n4 l l2 l3 l4 (W1.setCell ⟨bq, 1, none⟩ u) := by
  have hb := h.mid1 hg
  have hne : u.ownBlock ≠ some bq := own_ne hown hb (by decide)
  have key : ∀ v : Value, (∀ k, v.ownBlock = some k → k < W.heap.size) → Far v u1 → Far u v := fun v h1 h2 k hk hv => by
    rcases hat k hk with h3 | h3
    · exact h2 k hv h3
    · have := h1 k hv; omega
  exact ⟨set_block hb 1 u, kept_box hown (one_grown W1 bq 1 u) hne, kept_box (kept_v h.o2 (grown_alloc hg) h.d12.symm) (one_grown W1 bq 1 u) (own_ne h.o2 h.box (by decide)), kept_box (kept_v h.o3 (grown_alloc hg) h.d13.symm) (one_grown W1 bq 1 u) (own_ne h.o3 h.box (by decide)), kept_box (kept_v h.o4 (grown_alloc hg) h.d14.symm) (one_grown W1 bq 1 u) (own_ne h.o4 h.box (by decide)), (key u2 (fun k hk => (h.o2.lt k hk).2) h.d12.symm), (key u3 (fun k hk => (h.o3.lt k hk).2) h.d13.symm), (key u4 (fun k hk => (h.o4.lt k hk).2) h.d14.symm), h.d23, h.d24, h.d34⟩
/-- A store into row 2. -/
theorem QX.set2 {g c : Nat} (h : QX B bq r u1 (.slice (some ⟨g, 0, none⟩) n2 c) u3 u4 n1 n2 n3 n4 l1 l2 l3 l4 W) (j : Nat) (x : Value) : QX B bq r u1 (.slice (some ⟨g, 0, none⟩) n2 c) u3 u4 n1 n2 n3 n4 l1 (l2.set j x) l3 l4 (W.setCell ⟨g, j, none⟩ x) :=
  ⟨box_kept h.box (one_grown W g j x) (fun e => own_ne h.o2 h.box (by decide) e), kept_v (u := .slice (some ⟨g, 0, none⟩) n2 c) h.o1 (one_grown W g j x) h.d12, (h.o2.stored j x).1, kept_v (u := .slice (some ⟨g, 0, none⟩) n2 c) h.o3 (one_grown W g j x) h.d23.symm, kept_v (u := .slice (some ⟨g, 0, none⟩) n2 c) h.o4 (one_grown W g j x) h.d24.symm, h.d12, h.d13, h.d14, h.d23, h.d24, h.d34⟩
/-- Row 2 was appended to: ahead of the store of the field. -/
theorem QX.mid2 {o : Obj} (h : QX B bq r u1 u2 u3 u4 n1 n2 n3 n4 l1 l2 l3 l4 W) (hg : (W.alloc o).grownBy W1 u2.ownBlock) : W1.heap[bq]? = some (.cells #[.int .i64 r, u1, u2, u3, u4] 29 (0, 0)) :=
  box_kept h.box (grown_alloc hg) (own_ne h.o2 h.box (by decide))
/-- And behind it. -/
theorem QX.app2 {o : Obj} {u : Value} {n : Nat} {l : List Value} (h : QX B bq r u1 u2 u3 u4 n1 n2 n3 n4 l1 l2 l3 l4 W) (hg : (W.alloc o).grownBy W1 u2.ownBlock) (hown : W1.ownsRow B 4 1 u n l) (hat : ∀ k, u.ownBlock = some k → u2.ownBlock = some k ∨ k = W.heap.size + 1) : QX B bq r u1 u u3 u4 n1 n n3 n4 l1 l l3 l4 (W1.setCell ⟨bq, 2, none⟩ u) := by
  have hb := h.mid2 hg
  have hne : u.ownBlock ≠ some bq := own_ne hown hb (by decide)
  have key : ∀ v : Value, (∀ k, v.ownBlock = some k → k < W.heap.size) → Far v u2 → Far u v := fun v h1 h2 k hk hv => by
    rcases hat k hk with h3 | h3
    · exact h2 k hv h3
    · have := h1 k hv; omega
  exact ⟨set_block hb 2 u, kept_box (kept_v h.o1 (grown_alloc hg) h.d12) (one_grown W1 bq 2 u) (own_ne h.o1 h.box (by decide)), kept_box hown (one_grown W1 bq 2 u) hne, kept_box (kept_v h.o3 (grown_alloc hg) h.d23.symm) (one_grown W1 bq 2 u) (own_ne h.o3 h.box (by decide)), kept_box (kept_v h.o4 (grown_alloc hg) h.d24.symm) (one_grown W1 bq 2 u) (own_ne h.o4 h.box (by decide)), (key u1 (fun k hk => (h.o1.lt k hk).2) h.d12).symm, h.d13, h.d14, (key u3 (fun k hk => (h.o3.lt k hk).2) h.d23.symm), (key u4 (fun k hk => (h.o4.lt k hk).2) h.d24.symm), h.d34⟩
/-- A store into row 3. -/
theorem QX.set3 {g c : Nat} (h : QX B bq r u1 u2 (.slice (some ⟨g, 0, none⟩) n3 c) u4 n1 n2 n3 n4 l1 l2 l3 l4 W) (j : Nat) (x : Value) : QX B bq r u1 u2 (.slice (some ⟨g, 0, none⟩) n3 c) u4 n1 n2 n3 n4 l1 l2 (l3.set j x) l4 (W.setCell ⟨g, j, none⟩ x) :=
  ⟨box_kept h.box (one_grown W g j x) (fun e => own_ne h.o3 h.box (by decide) e), kept_v (u := .slice (some ⟨g, 0, none⟩) n3 c) h.o1 (one_grown W g j x) h.d13, kept_v (u := .slice (some ⟨g, 0, none⟩) n3 c) h.o2 (one_grown W g j x) h.d23, (h.o3.stored j x).1, kept_v (u := .slice (some ⟨g, 0, none⟩) n3 c) h.o4 (one_grown W g j x) h.d34.symm, h.d12, h.d13, h.d14, h.d23, h.d24, h.d34⟩
/-- Row 3 was appended to: ahead of the store of the field. -/
theorem QX.mid3 {o : Obj} (h : QX B bq r u1 u2 u3 u4 n1 n2 n3 n4 l1 l2 l3 l4 W) (hg : (W.alloc o).grownBy W1 u3.ownBlock) : W1.heap[bq]? = some (.cells #[.int .i64 r, u1, u2, u3, u4] 29 (0, 0)) :=
  box_kept h.box (grown_alloc hg) (own_ne h.o3 h.box (by decide))
/-- And behind it. -/
theorem QX.app3 {o : Obj} {u : Value} {n : Nat} {l : List Value} (h : QX B bq r u1 u2 u3 u4 n1 n2 n3 n4 l1 l2 l3 l4 W) (hg : (W.alloc o).grownBy W1 u3.ownBlock) (hown : W1.ownsRow B 3 1 u n l) (hat : ∀ k, u.ownBlock = some k → u3.ownBlock = some k ∨ k = W.heap.size + 1) : QX B bq r u1 u2 u u4 n1 n2 n n4 l1 l2 l l4 (W1.setCell ⟨bq, 3, none⟩ u) := by
  have hb := h.mid3 hg
  have hne : u.ownBlock ≠ some bq := own_ne hown hb (by decide)
  have key : ∀ v : Value, (∀ k, v.ownBlock = some k → k < W.heap.size) → Far v u3 → Far u v := fun v h1 h2 k hk hv => by
    rcases hat k hk with h3 | h3
    · exact h2 k hv h3
    · have := h1 k hv; omega
  exact ⟨set_block hb 3 u, kept_box (kept_v h.o1 (grown_alloc hg) h.d13) (one_grown W1 bq 3 u) (own_ne h.o1 h.box (by decide)), kept_box (kept_v h.o2 (grown_alloc hg) h.d23) (one_grown W1 bq 3 u) (own_ne h.o2 h.box (by decide)), kept_box hown (one_grown W1 bq 3 u) hne, kept_box (kept_v h.o4 (grown_alloc hg) h.d34.symm) (one_grown W1 bq 3 u) (own_ne h.o4 h.box (by decide)), h.d12, (key u1 (fun k hk => (h.o1.lt k hk).2) h.d13).symm, h.d14, (key u2 (fun k hk => (h.o2.lt k hk).2) h.d23).symm, h.d24, (key u4 (fun k hk => (h.o4.lt k hk).2) h.d34.symm)⟩
/-- A store into row 4. -/
theorem QX.set4 {g c : Nat} (h : QX B bq r u1 u2 u3 (.slice (some ⟨g, 0, none⟩) n4 c) n1 n2 n3 n4 l1 l2 l3 l4 W) (j : Nat) (x : Value) : QX B bq r u1 u2 u3 (.slice (some ⟨g, 0, none⟩) n4 c) n1 n2 n3 n4 l1 l2 l3 (l4.set j x) (W.setCell ⟨g, j, none⟩ x) :=
  ⟨box_kept h.box (one_grown W g j x) (fun e => own_ne h.o4 h.box (by decide) e), kept_v (u := .slice (some ⟨g, 0, none⟩) n4 c) h.o1 (one_grown W g j x) h.d14, kept_v (u := .slice (some ⟨g, 0, none⟩) n4 c) h.o2 (one_grown W g j x) h.d24, kept_v (u := .slice (some ⟨g, 0, none⟩) n4 c) h.o3 (one_grown W g j x) h.d34, (h.o4.stored j x).1, h.d12, h.d13, h.d14, h.d23, h.d24, h.d34⟩
/-- Row 4 was appended to: ahead of the store of the field. -/
theorem QX.mid4 {o : Obj} (h : QX B bq r u1 u2 u3 u4 n1 n2 n3 n4 l1 l2 l3 l4 W) (hg : (W.alloc o).grownBy W1 u4.ownBlock) : W1.heap[bq]? = some (.cells #[.int .i64 r, u1, u2, u3, u4] 29 (0, 0)) :=
  box_kept h.box (grown_alloc hg) (own_ne h.o4 h.box (by decide))
/-- And behind it. -/
theorem QX.app4 {o : Obj} {u : Value} {n : Nat} {l : List Value} (h : QX B bq r u1 u2 u3 u4 n1 n2 n3 n4 l1 l2 l3 l4 W) (hg : (W.alloc o).grownBy W1 u4.ownBlock) (hown : W1.ownsRow B 3 1 u n l) (hat : ∀ k, u.ownBlock = some k → u4.ownBlock = some k ∨ k = W.heap.size + 1) : QX B bq r u1 u2 u3 u n1 n2 n3 n l1 l2 l3 l (W1.setCell ⟨bq, 4, none⟩ u) := by
  have hb := h.mid4 hg
  have hne : u.ownBlock ≠ some bq := own_ne hown hb (by decide)
  have key : ∀ v : Value, (∀ k, v.ownBlock = some k → k < W.heap.size) → Far v u4 → Far u v := fun v h1 h2 k hk hv => by
    rcases hat k hk with h3 | h3
    · exact h2 k hv h3
    · have := h1 k hv; omega
  exact ⟨set_block hb 4 u, kept_box (kept_v h.o1 (grown_alloc hg) h.d14) (one_grown W1 bq 4 u) (own_ne h.o1 h.box (by decide)), kept_box (kept_v h.o2 (grown_alloc hg) h.d24) (one_grown W1 bq 4 u) (own_ne h.o2 h.box (by decide)), kept_box (kept_v h.o3 (grown_alloc hg) h.d34) (one_grown W1 bq 4 u) (own_ne h.o3 h.box (by decide)), kept_box hown (one_grown W1 bq 4 u) hne, h.d12, h.d13, (key u1 (fun k hk => (h.o1.lt k hk).2) h.d14).symm, h.d23, (key u2 (fun k hk => (h.o2.lt k hk).2) h.d24).symm, (key u3 (fun k hk => (h.o3.lt k hk).2) h.d34).symm⟩
/-- Row 4 is cut at its end. -/
theorem QX.cut4 {g c k : Nat} (h : QX B bq r u1 u2 u3 (.slice (some ⟨g, 0, none⟩) n4 c) n1 n2 n3 n4 l1 l2 l3 l4 W) (hB : B = B) (hk : k ≤ n4) : QX B bq r u1 u2 u3 (.slice (some ⟨g, 0, none⟩) k c) n1 n2 n3 k l1 l2 l3 (l4.take k) (W.setCell ⟨bq, 4, none⟩ (.slice (some ⟨g, 0, none⟩) k c)) := by
  have hBg : B ≤ g := (h.o4.lt g rfl).1
  have hc : W.ownsRow B 3 1 (.slice (some ⟨g, 0, none⟩) k c) k (l4.take k) := by
    have h5 := owns_cut (owns_lower h.o4 (Nat.zero_le _)) hk
    refine ⟨h5.1, ?_⟩
    rcases h5.2 with ⟨h6, _⟩ | ⟨g', cap', cur', h6, _, h7⟩
    · cases h6
    · cases h6
      exact .inr ⟨g, c, cur', rfl, hBg, h7⟩
  have hb := h.box
  exact ⟨set_block hb 4 _, kept_box h.o1 (one_grown W bq 4 _) (own_ne h.o1 hb (by decide)), kept_box h.o2 (one_grown W bq 4 _) (own_ne h.o2 hb (by decide)), kept_box h.o3 (one_grown W bq 4 _) (own_ne h.o3 hb (by decide)), kept_box hc (one_grown W bq 4 _) (own_ne hc hb (by decide)), h.d12, h.d13, h.d14, h.d23, h.d24, h.d34⟩
end
/-- The copy, laid into its box. -/
theorem QX.of {B : Nat} {r : Int} {st : St} {w2 : World} {g1 c1 g2 c2 g3 c3 g4 c4 : Nat} (h : RefAt B (.slice (some ⟨g1, 0, none⟩) st.pl.length c1) (.slice (some ⟨g2, 0, none⟩) st.pl.length c2) (.slice (some ⟨g3, 0, none⟩) st.pl.length c3) (.slice (some ⟨g4, 0, none⟩) st.fr.length c4) st w2) (d : g1 ≠ g3 ∧ g1 ≠ g4 ∧ g3 ≠ g4) :
    QX B w2.heap.size r (.slice (some ⟨g1, 0, none⟩) st.pl.length c1) (.slice (some ⟨g2, 0, none⟩) st.pl.length c2) (.slice (some ⟨g3, 0, none⟩) st.pl.length c3) (.slice (some ⟨g4, 0, none⟩) st.fr.length c4) st.pl.length st.pl.length st.pl.length st.fr.length (cV st.pl) (cU st.pl) (cG st.pl) (cellsI st.fr)
      (w2.alloc (.cells #[.int .i64 r, .slice (some ⟨g1, 0, none⟩) st.pl.length c1, .slice (some ⟨g2, 0, none⟩) st.pl.length c2, .slice (some ⟨g3, 0, none⟩) st.pl.length c3, .slice (some ⟨g4, 0, none⟩) st.fr.length c4] 29)) := by
  have far : ∀ {a b n m c e : Nat}, a ≠ b → Far (.slice (some ⟨a, 0, none⟩) n c) (.slice (some ⟨b, 0, none⟩) m e) := by
    intro a b n m c e hab k h1 h2
    simp [Value.ownBlock] at h1 h2
    omega
  exact ⟨heap_alloc_new w2 _, h.o1.alloc _, h.o2.alloc _, h.o3.alloc _, h.o4.alloc _, far_type h.o1 h.o2 (by decide), far d.1, far d.2.1, far_type h.o2 h.o3 (by decide), far_type h.o2 h.o4 (by decide), far d.2.2⟩
end Go.Proofs.Ytanahddlnchioaa.Arena
