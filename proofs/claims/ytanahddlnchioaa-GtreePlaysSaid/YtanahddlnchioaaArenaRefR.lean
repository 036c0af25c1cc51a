/- What the document's calls that only read answer. Conditions: none. -/
import Derived.Test.YtanahddlnchioaaArenaCopy
namespace Go.Proofs.Ytanahddlnchioaa.Arena
open Go.ChangeShapes Go.WideShapes Go.ChangeAt Go.RowKit
set_option linter.unusedVariables false
set_option linter.unusedSimpArgs false

theorem row_cell {w : World} {B : Nat} {e : TypeId} {v x : Value} {n k : Nat} {xs : List Value} (h : w.ownsRow B e 1 v n xs) (hk : xs[k]? = some x) :
    ∃ g c, v = .slice (some ⟨g, 0, none⟩) n c ∧ w.cell? ⟨g, k, none⟩ = some x ∧ w.frozen? ⟨g, k, none⟩ = false ∧ B ≤ g ∧ g < w.heap.size := by
  have hl := h.1
  have hk1 := (List.getElem?_eq_some_iff.1 hk).1
  obtain ⟨g, c, rfl, hb, hg⟩ := h.form (by omega)
  exact ⟨g, c, rfl, by rw [h.cellAt _ (by omega), hk], h.frozenAt _, hb, hg⟩
theorem cell_alloc2 {w : World} {a : Addr} {v : Value} (h : w.cell? a = some v) (o o' : Obj) : ((w.alloc o).alloc o').cell? a = some v := cell_alloc (cell_alloc h o) o'
theorem alloc2d (w : World) (o o' : Obj) (n : Nat) : Below w.heap.size w (((w.alloc o).alloc o').drewN n) := fresh_trans (((Below.refl _ w).alloc (Nat.le_refl _) o).alloc (by simp) o') (drawn _ _)

set_option maxHeartbeats 1000000 in
theorem refNames (w : World) (B : Nat) (r : Int) (v1 v2 v3 v4 : Value) (st : St) (i g : Int) (h : RefAt B v1 v2 v3 v4 st w) (h1 : st.pl.length ≤ 4096) :
    Calls Try.prog 25 #[.agg #[.int .i64 r, v1, v2, v3, v4], .agg #[.int .i64 i, .int .i64 g]] w (IsBool (st.names i g) w) := by
  by_cases hi : i < 0
  · rw [St.names_neg hi]
    have hi2 : decide (0 ≤ i) = false := by simp; omega
    clear h
    go_enter Try.func25, Try.ntmps25
    go_wp2
    go_quiet (fail)
    go_wp2
    go_ret; exact ⟨rfl, alloc2d _ _ _ _⟩
  have hi0 : 0 ≤ i := by omega
  obtain ⟨p1, q1, e1⟩ := owns_shape h.o1
  by_cases hj : (st.pl.length : Int) ≤ i
  · rw [St.names_far hj]
    subst e1
    have hj2 : decide (i < (st.pl.length : Int)) = false := by simp; omega
    clear h
    go_enter Try.func25, Try.ntmps25
    go_wp2
    go_quiet (fail)
    go_wp2
    go_ret; exact ⟨rfl, alloc2d _ _ _ _⟩
  obtain ⟨k, rfl⟩ := Int.eq_ofNat_of_zero_le hi0
  have hk : k < st.pl.length := by omega
  have hk1 : (k : Int) < st.pl.length := by omega
  obtain ⟨q, hq⟩ : ∃ q, st.pl[k]? = some q := ⟨_, List.getElem?_eq_getElem hk⟩
  rw [St.names_in hq]
  obtain ⟨g2, c2, e2, u2, _⟩ := row_cell h.o2 (k := k) (x := .bool q.full) (by simp [cU, hq])
  obtain ⟨g3, c3, e3, u3, _⟩ := row_cell h.o3 (k := k) (x := .int .i64 q.gen) (by simp [cG, hq])
  subst e1 e2 e3
  replace u2 := cell_alloc2 u2
  replace u3 := cell_alloc2 u3
  clear h hj
  obtain ⟨th, fu, ge⟩ := q
  simp only at u2 u3
  generalize st.pl.length = n at *
  cases fu
  · go_enter Try.func25, Try.ntmps25
    go_wp2
    go_quiet (fail)
    go_wp2
    go_ret; exact ⟨by simp, alloc2d _ _ _ _⟩
  · go_enter Try.func25, Try.ntmps25
    go_wp2
    go_quiet (fail)
    go_wp2
    go_ret; exact ⟨by simp, alloc2d _ _ _ _⟩
end Go.Proofs.Ytanahddlnchioaa.Arena
