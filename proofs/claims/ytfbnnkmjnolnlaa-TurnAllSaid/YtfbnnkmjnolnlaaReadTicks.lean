/- A slice of structs of a bool and four integers, opened. Conditions: none. -/
import Derived.Test.YtfbnnkmjnolnlaaReadOn
import Derived.Deep.Slices
namespace Go.Proofs.Ytfbnnkmjnolnlaa.Read
open Go.ChangeShapes Go.WideShapes Go.ChangeAt Go.RowKit
set_option linter.unusedVariables false
set_option linter.unusedSimpArgs false

theorem ticks {H : Type} {enc : TypeId × Value → H} {P : Program} {W : World} {base : Nat} {t e : TypeId} {f0 f1 f2 f3 f4 : Field} {k1 k2 k3 k4 : IntKind} {v : Value} {d : DataW H} {ps : List MemPlace} {r : Reach} (ht : P.underlying t = some (.slice e)) (he : P.underlying e = some (.struct #[f0, f1, f2, f3, f4])) (hC : P.cellsOf e = 5)
    (ho : (f0.offset, f1.offset, f2.offset, f3.offset, f4.offset) = (0, 1, 2, 3, 4)) (hc : (P.cellsOf f0.type, P.cellsOf f1.type, P.cellsOf f2.type, P.cellsOf f3.type, P.cellsOf f4.type) = (1, 1, 1, 1, 1))
    (u0 : P.underlying f0.type = some .bool) (u1 : P.underlying f1.type = some (.int k1)) (u2 : P.underlying f2.type = some (.int k2)) (u3 : P.underlying f3.type = some (.int k3)) (u4 : P.underlying f4.type = some (.int k4))
    (hv : Value.okWide P W r base t v) (h : DataW.Trod enc P W 0 (fun _ => true) true t v d ps) :
    ∃ (a : Option Addr) (len cap : Nat), v = .slice a len cap ∧ len ≤ 9223372036854775807 ∧ ∀ j, j < len → ∃ k off, a = some ⟨k, off, none⟩ ∧ k < W.heap.size ∧ ∃ (d0 : Bool) (d1 d2 d3 d4 : Int), ((Lit.int k1 d1).wf = true ∧ (Lit.int k2 d2).wf = true ∧ (Lit.int k3 d3).wf = true ∧ (Lit.int k4 d4).wf = true) ∧ W.cell? ⟨k, off + j * 5, none⟩ = some (.bool d0) ∧ W.cell? ⟨k, off + j * 5 + 1, none⟩ = some (.int k1 d1) ∧ W.cell? ⟨k, off + j * 5 + 2, none⟩ = some (.int k2 d2) ∧ W.cell? ⟨k, off + j * 5 + 3, none⟩ = some (.int k3 d3) ∧ W.cell? ⟨k, off + j * 5 + 4, none⟩ = some (.int k4 d4) := by
  obtain ⟨a0, len, cap, rfl⟩ := okWide_slice ht hv
  obtain ⟨fuel, hf⟩ := h
  rcases Go.Deep.open_slice ht hf with ⟨hcs, hx⟩ | ⟨a, len', cap', m, n, D, Pl, hcs, _, hl, hm, hmm, hx, hi⟩
  · simp [Value.cells] at hcs
    obtain ⟨rfl, rfl, rfl⟩ := hcs
    exact ⟨none, 0, 0, rfl, by omega, by intro j hj; omega⟩
  · simp [Value.cells] at hcs
    obtain ⟨rfl, rfl, rfl⟩ := hcs
    simp only [if_true] at hmm
    refine ⟨some a, len, cap, rfl, by unfold maxLen at hm; omega, fun j hj => ?_⟩
    obtain ⟨cs, hcl, htr⟩ := hi j (by omega)
    rw [hC] at hcl
    obtain ⟨_, hlen, hat⟩ := World.cells?_some hcl
    obtain ⟨ys, n', _, _, r3, r4, hfl⟩ := DataW.trod_struct he htr
    have hyl : ys.length = 5 := by first | simpa using r4 | simpa using r3
    simp only [Prod.mk.injEq] at ho hc
    obtain ⟨o0, o1, o2, o3, o4⟩ := ho
    obtain ⟨s0, s1, s2, s3, s4⟩ := hc
    match cs, hlen with
    | [c0, c1, c2, c3, c4], _ =>
      have x0 := hfl 0 f0 rfl
      have x1 := hfl 1 f1 rfl
      have x2 := hfl 2 f2 rfl
      have x3 := hfl 3 f3 rfl
      have x4 := hfl 4 f4 rfl
      rw [o0, s0] at x0
      rw [o1, s1] at x1
      rw [o2, s2] at x2
      rw [o3, s3] at x3
      rw [o4, s4] at x4
      simp only [List.drop_zero, List.drop_succ_cons, List.take_succ_cons, List.take_zero] at x0 x1 x2 x3 x4
      rw [List.getElem?_eq_getElem (show 0 < ys.length by omega)] at x0
      rw [List.getElem?_eq_getElem (show 1 < ys.length by omega)] at x1
      rw [List.getElem?_eq_getElem (show 2 < ys.length by omega)] at x2
      rw [List.getElem?_eq_getElem (show 3 < ys.length by omega)] at x3
      rw [List.getElem?_eq_getElem (show 4 < ys.length by omega)] at x4
      obtain ⟨d0, e0, _⟩ := DataW.trod_bool u0 x0
      obtain ⟨d1, e1, _, z1⟩ := DataW.trod_int u1 x1
      obtain ⟨d2, e2, _, z2⟩ := DataW.trod_int u2 x2
      obtain ⟨d3, e3, _, z3⟩ := DataW.trod_int u3 x3
      obtain ⟨d4, e4, _, z4⟩ := DataW.trod_int u4 x4
      simp only [List.cons.injEq, and_true] at e0 e1 e2 e3 e4
      subst e0 e1 e2 e3 e4
      have w0 := hat 0 (by omega)
      have w1 := hat 1 (by omega)
      have w2 := hat 2 (by omega)
      have w3 := hat 3 (by omega)
      have w4 := hat 4 (by omega)
      rw [Go.Deep.add_add] at w0 w1 w2 w3 w4
      simp only [List.getElem?_cons_zero, List.getElem?_cons_succ] at w0 w1 w2 w3 w4
      obtain ⟨b, off, spot⟩ := a
      have hspot : spot = none := by
        obtain ⟨cs0, hcl0, _⟩ := hi 0 (by omega)
        rw [hC] at hcl0
        obtain ⟨_, hlen0, hat0⟩ := World.cells?_some hcl0
        have w := hat0 0 (by omega)
        rw [List.getElem?_eq_getElem (show 0 < cs0.length by omega)] at w
        simpa [Addr.add] using World.cell?_spot w
      subst hspot
      simp only [Addr.add_lit] at w0 w1 w2 w3 w4
      refine ⟨b, off, rfl, World.block_lt_of_cell? _ _ w0, d0, d1, d2, d3, d4, ⟨z1, z2, z3, z4⟩, w0, ?_, ?_, ?_, ?_⟩
      · rw [Nat.add_assoc]; exact w1
      · rw [Nat.add_assoc]; exact w2
      · rw [Nat.add_assoc]; exact w3
      · rw [Nat.add_assoc]; exact w4
end Go.Proofs.Ytfbnnkmjnolnlaa.Read
