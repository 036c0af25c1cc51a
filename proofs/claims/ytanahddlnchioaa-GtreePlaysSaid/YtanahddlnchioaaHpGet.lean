/- What handle and Get of package arena answer. Conditions: none. -/
import Derived.Test.YtanahddlnchioaaHpReads
import Derived.BigRegion
import Derived.Laws.ResultCell
namespace Go.Proofs.Ytanahddlnchioaa.Hp
open Go.ChangeShapes Go.WideShapes Go.ChangeAt Go.RowKit
set_option linter.unusedVariables false
set_option linter.unusedSimpArgs false

def IsHandle (i g : Int) (w : World) (e : Ending) (w' : World) : Prop := e = .returned (.agg #[.int .i64 i, .int .i64 g]) ∧ Below w.heap.size w w'
def IsTwo (x y n : Int) (w : World) (e : Ending) (w' : World) : Prop := e = .returned (.tuple #[.agg #[.int .i64 x, .int .i64 y], .int .i64 n]) ∧ Below w.heap.size w w'

theorem handle (w : World) (b : Nat) (O : Nat → Prop) (st : St) (k : Nat) (q : Pl) (h : Pool w b O st) (h1 : st.pl.length ≤ 4096) (hq : st.pl[k]? = some q) :
    Calls Try.prog 49 #[.pointer (some ⟨b, 0, none⟩), .int .i64 (k : Int)] w (IsHandle k q.gen w) := by
  have hk : k < st.pl.length := (List.getElem?_eq_some_iff.1 hq).1
  have hk1 : (k : Int) < st.pl.length := by omega
  obtain ⟨vp, vf, hb, ho, hp, hf⟩ := h
  obtain ⟨c0, c1, c2, fz⟩ := Pool.cells hb
  have d1 := cell_alloc c1
  obtain ⟨gp, cp, rfl, k0, kt, k1, k2⟩ := hp.places hq
  have e2 := cell_alloc k2
  clear hb hp hf
  generalize st.pl.length = n at *
  generalize q.gen = ge at *
  have hg := Below.refl w.heap.size w
  go_enter Try.func49, Try.ntmps49
  go_wp2
  refine bodyPost_ret (v := .agg #[.int .i64 (k : Int), .int .i64 ge]) (by simp [results, Try.results49, go_sem]) rfl ?_
  exact ⟨rfl, by go_grown⟩

def St.thing (st : St) (i g : Int) : Int := if st.names i g then (match st.at i with | some p => p.thing | none => 0) else 0
def St.tgen (st : St) (i g : Int) : Int := if st.names i g then (match st.at i with | some p => p.tgen | none => 0) else 0
def St.err (st : St) (i g : Int) : Int := if st.names i g then 0 else 2

theorem St.named {st : St} {i g : Int} (h : st.names i g = true) : ∃ (k : Nat) (q : Pl), i = k ∧ st.pl[k]? = some q ∧ q.full = true ∧ q.gen = g := by
  by_cases hi : 0 ≤ i
  · obtain ⟨k, rfl⟩ := Int.eq_ofNat_of_zero_le hi
    cases hq : st.pl[k]? with
    | none => simp [St.names, St.at, hq] at h
    | some q =>
      simp [St.names, St.at, hq] at h
      exact ⟨k, q, rfl, hq, h.1, h.2⟩
  · rw [St.names_neg (by omega)] at h; cases h
theorem two {w w0 w1 : World} {x0 x1 : Value} {t : TypeId} (h : Below w0.heap.size w0 w1) (e : w0 = w.alloc (.cells #[x0, x1] t)) :
    w1.cell? ⟨w.heap.size, 0, none⟩ = some x0 ∧ w1.cell? ⟨w.heap.size, 1, none⟩ = some x1 := by
  subst e
  refine ⟨?_, ?_⟩ <;> (rw [h.cell (by simp)]; simp [go_sem])

theorem alloc2 (w : World) (o1 o2 : Obj) : Below w.heap.size w ((w.alloc o1).alloc o2) := ((Below.refl _ w).alloc (Nat.le_refl _) o1).alloc (by simp) o2
theorem four {w W w1 : World} {x0 x1 y0 y1 : Value} {t u : TypeId} (h : Below W.heap.size W w1) (e : W = (w.alloc (.cells #[x0, x1] t)).alloc (.cells #[y0, y1] u)) :
    w1.cell? ⟨w.heap.size, 0, none⟩ = some x0 ∧ w1.cell? ⟨w.heap.size, 1, none⟩ = some x1 ∧ w1.heap[w.heap.size + 1]? = some (.cells #[y0, y1] u (0, 0)) := by
  subst e
  refine ⟨?_, ?_, ?_⟩
  · rw [h.cell (by simp; omega)]; simp [go_sem]
  · rw [h.cell (by simp; omega)]; simp [go_sem]
  · rw [h.block _ (by simp), show w.heap.size + 1 = (w.alloc (.cells #[x0, x1] t)).heap.size by simp, heap_alloc_new]
/-- The two cells of a box. -/
theorem box2 {w : World} {b : Nat} {x y : Value} {t : TypeId} (hb : w.heap[b]? = some (.cells #[x, y] t (0, 0))) :
    w.cell? ⟨b, 0, none⟩ = some x ∧ w.cell? ⟨b, 1, none⟩ = some y ∧ (∀ j, w.frozen? ⟨b, j, none⟩ = false) := by
  refine ⟨?_, ?_, fun j => frozen_of_row w b j _ _ hb⟩
  all_goals rw [cell_of_row w b _ _ _ _ hb]; rfl
theorem box2a {w : World} {b : Nat} {x y : Value} {t : TypeId} (hb : w.heap[b]? = some (.cells #[x, y] t (0, 0))) :
    (∀ o, (w.alloc o).cell? ⟨b, 0, none⟩ = some x) ∧ (∀ o, (w.alloc o).cell? ⟨b, 1, none⟩ = some y) ∧ (∀ o j, (w.alloc o).frozen? ⟨b, j, none⟩ = false) := by
  have key : ∀ o, (w.alloc o).heap[b]? = some (.cells #[x, y] t (0, 0)) := fun o => by rw [Below.heap_alloc w o b (lt_of hb), hb]
  exact ⟨fun o => (box2 (key o)).1, fun o => (box2 (key o)).2.1, fun o => (box2 (key o)).2.2⟩
theorem heap_fresh {w w' : World} {k : Nat} {o : Obj} (h : w.heap[k]? = some o) (hg : Below w.heap.size w w') : w'.heap[k]? = some o := by rw [hg.block k (lt_of h), h]

theorem get_nil (w : World) (i g : Int) : Calls Try.prog 51 #[.pointer none, .agg #[.int .i64 i, .int .i64 g]] w (IsTwo 0 0 2 w) := by
  go_enter Try.func51, Try.ntmps51
  go_wp2_with (go_at_call 54; refine (names_nil _ _ _).mono ?_; rintro e w1 ⟨rfl, hg1⟩; obtain ⟨a0, a1, a2⟩ := four hg1 rfl; have hg := fresh_trans (alloc2 _ _ _) hg1; clear hg1; obtain ⟨b0, b1, bz⟩ := box2 a2; obtain ⟨c0, c1, cz⟩ := box2a a2)
  refine bodyPost_ret (v := .tuple #[.agg #[.int .i64 0, .int .i64 0], .int .i64 2]) (by simp [results, Try.results51, go_sem, b0, b1, c0, c1]) rfl ?_
  exact ⟨rfl, by have := hg.size; go_grown⟩

theorem get (w : World) (b : Nat) (O : Nat → Prop) (st : St) (i g : Int) (h : Pool w b O st) (h1 : st.pl.length ≤ 4096) :
    Calls Try.prog 51 #[.pointer (some ⟨b, 0, none⟩), .agg #[.int .i64 i, .int .i64 g]] w (IsTwo (st.thing i g) (st.tgen i g) (st.err i g) w) := by
  have C : Hid _ := fun w h => names w b O st i g h h1
  cases hn : st.names i g
  · rw [hn] at C
    rw [show st.thing i g = 0 by simp [St.thing, hn], show st.tgen i g = 0 by simp [St.tgen, hn], show st.err i g = 2 by simp [St.err, hn]]
    go_enter Try.func51, Try.ntmps51
    go_wp2_with (go_at_call 54; refine (C.out _ (h.fresh (alloc2 _ _ _))).mono ?_; rintro e w1 ⟨rfl, hg1⟩; obtain ⟨a0, a1, a2⟩ := four hg1 rfl; have hg := fresh_trans (alloc2 _ _ _) hg1; clear hg1; obtain ⟨b0, b1, bz⟩ := box2 a2; obtain ⟨c0, c1, cz⟩ := box2a a2)
    refine bodyPost_ret (v := .tuple #[.agg #[.int .i64 0, .int .i64 0], .int .i64 2]) (by simp [results, Try.results51, go_sem, b0, b1, c0, c1]) rfl ?_
    exact ⟨rfl, by have := hg.size; go_grown⟩
  rw [hn] at C
  obtain ⟨k, q, rfl, hq, hqf, hqg⟩ := St.named hn
  rw [show st.thing k g = q.thing by simp [St.thing, hn, St.at, hq], show st.tgen k g = q.tgen by simp [St.tgen, hn, St.at, hq], show st.err k g = 0 by simp [St.err, hn]]
  have hk : k < st.pl.length := (List.getElem?_eq_some_iff.1 hq).1
  have hk1 : (k : Int) < st.pl.length := by omega
  go_enter Try.func51, Try.ntmps51
  go_wp2_with (go_at_call 54; refine (C.out _ (h.fresh (alloc2 _ _ _))).mono ?_; rintro e w1 ⟨rfl, hg1⟩; obtain ⟨a0, a1, a2⟩ := four hg1 rfl; have hg := fresh_trans (alloc2 _ _ _) hg1; clear hg1; replace h := h.fresh hg; obtain ⟨b0, b1, bz⟩ := box2 a2)
  obtain ⟨vp, vf, hb, ho, hp, hf⟩ := h
  obtain ⟨c0, c1, c2, fz⟩ := Pool.cells hb
  obtain ⟨gp, cp, rfl, k0, kt, k1, k2⟩ := hp.places hq
  clear hb hp hf C
  generalize st.pl.length = n at *
  go_region
  go_wp2
  refine bodyPost_ret (v := .tuple #[.agg #[.int .i64 q.thing, .int .i64 q.tgen], .int .i64 0]) (by simp [results, Try.results51, go_sem, b0, b1]) rfl ?_
  exact ⟨rfl, by have := hg.size; go_grown⟩
end Go.Proofs.Ytanahddlnchioaa.Hp
