/- A slice of structs of six integers, and one alone, opened. Conditions: none. -/
import Derived.Test.YtikdhfedidknpaaDoorReadOn
import Derived.Deep.Slices
namespace Go.Proofs.YtikdhfedidknpaaDoor.Read
open Go.ChangeShapes Go.WideShapes Go.ChangeAt Go.RowKit
set_option linter.unusedVariables false
set_option linter.unusedSimpArgs false

/-- Six cells that read as a struct of six integers are six integers. -/
theorem six {H : Type} {enc : TypeId × Value → H} {P : Program} {W : World} {base m : Nat} {sp : Nat → Bool} {held : Bool} {e : TypeId} {f0 f1 f2 f3 f4 f5 : Field} {k0 k1 k2 k3 k4 k5 : IntKind} {cs : List Value} {x : DataW H × List MemPlace}
    (he : P.underlying e = some (.struct #[f0, f1, f2, f3, f4, f5])) (ho : (f0.offset, f1.offset, f2.offset, f3.offset, f4.offset, f5.offset) = (0, 1, 2, 3, 4, 5)) (hc : (P.cellsOf f0.type, P.cellsOf f1.type, P.cellsOf f2.type, P.cellsOf f3.type, P.cellsOf f4.type, P.cellsOf f5.type) = (1, 1, 1, 1, 1, 1))
    (u0 : P.underlying f0.type = some (.int k0)) (u1 : P.underlying f1.type = some (.int k1)) (u2 : P.underlying f2.type = some (.int k2)) (u3 : P.underlying f3.type = some (.int k3)) (u4 : P.underlying f4.type = some (.int k4)) (u5 : P.underlying f5.type = some (.int k5)) (hl : cs.length = 6) (h : DataW.trod enc P W base sp held m e cs = some x) :
    ∃ d0 d1 d2 d3 d4 d5 : Int, cs = [.int k0 d0, .int k1 d1, .int k2 d2, .int k3 d3, .int k4 d4, .int k5 d5] ∧ (Lit.int k0 d0).wf = true ∧ (Lit.int k1 d1).wf = true ∧ (Lit.int k2 d2).wf = true ∧ (Lit.int k3 d3).wf = true ∧ (Lit.int k4 d4).wf = true ∧ (Lit.int k5 d5).wf = true := by
  obtain ⟨ys, n', _, _, r3, r4, hfl⟩ := DataW.trod_struct he h
  have hyl : ys.length = 6 := by first | simpa using r4 | simpa using r3
  simp only [Prod.mk.injEq] at ho hc
  obtain ⟨o0, o1, o2, o3, o4, o5⟩ := ho
  obtain ⟨s0, s1, s2, s3, s4, s5⟩ := hc
  match cs, hl with
  | [c0, c1, c2, c3, c4, c5], _ =>
    have x0 := hfl 0 f0 rfl
    rw [o0, s0] at x0
    simp only [List.drop_zero, List.drop_succ_cons, List.take_succ_cons, List.take_zero] at x0
    rw [List.getElem?_eq_getElem (show 0 < ys.length by omega)] at x0
    obtain ⟨d0, e0, _, z0⟩ := DataW.trod_int u0 x0
    simp only [List.cons.injEq, and_true] at e0
    subst e0
    have x1 := hfl 1 f1 rfl
    rw [o1, s1] at x1
    simp only [List.drop_zero, List.drop_succ_cons, List.take_succ_cons, List.take_zero] at x1
    rw [List.getElem?_eq_getElem (show 1 < ys.length by omega)] at x1
    obtain ⟨d1, e1, _, z1⟩ := DataW.trod_int u1 x1
    simp only [List.cons.injEq, and_true] at e1
    subst e1
    have x2 := hfl 2 f2 rfl
    rw [o2, s2] at x2
    simp only [List.drop_zero, List.drop_succ_cons, List.take_succ_cons, List.take_zero] at x2
    rw [List.getElem?_eq_getElem (show 2 < ys.length by omega)] at x2
    obtain ⟨d2, e2, _, z2⟩ := DataW.trod_int u2 x2
    simp only [List.cons.injEq, and_true] at e2
    subst e2
    have x3 := hfl 3 f3 rfl
    rw [o3, s3] at x3
    simp only [List.drop_zero, List.drop_succ_cons, List.take_succ_cons, List.take_zero] at x3
    rw [List.getElem?_eq_getElem (show 3 < ys.length by omega)] at x3
    obtain ⟨d3, e3, _, z3⟩ := DataW.trod_int u3 x3
    simp only [List.cons.injEq, and_true] at e3
    subst e3
    have x4 := hfl 4 f4 rfl
    rw [o4, s4] at x4
    simp only [List.drop_zero, List.drop_succ_cons, List.take_succ_cons, List.take_zero] at x4
    rw [List.getElem?_eq_getElem (show 4 < ys.length by omega)] at x4
    obtain ⟨d4, e4, _, z4⟩ := DataW.trod_int u4 x4
    simp only [List.cons.injEq, and_true] at e4
    subst e4
    have x5 := hfl 5 f5 rfl
    rw [o5, s5] at x5
    simp only [List.drop_zero, List.drop_succ_cons, List.take_succ_cons, List.take_zero] at x5
    rw [List.getElem?_eq_getElem (show 5 < ys.length by omega)] at x5
    obtain ⟨d5, e5, _, z5⟩ := DataW.trod_int u5 x5
    simp only [List.cons.injEq, and_true] at e5
    subst e5
    exact ⟨d0, d1, d2, d3, d4, d5, rfl, z0, z1, z2, z3, z4, z5⟩
theorem evs {H : Type} {enc : TypeId × Value → H} {P : Program} {W : World} {base : Nat} {t e : TypeId} {f0 f1 f2 f3 f4 f5 : Field} {k0 k1 k2 k3 k4 k5 : IntKind} {v : Value} {d : DataW H} {ps : List MemPlace} {r : Reach} (ht : P.underlying t = some (.slice e))
    (he : P.underlying e = some (.struct #[f0, f1, f2, f3, f4, f5])) (hC : P.cellsOf e = 6) (ho : (f0.offset, f1.offset, f2.offset, f3.offset, f4.offset, f5.offset) = (0, 1, 2, 3, 4, 5)) (hc : (P.cellsOf f0.type, P.cellsOf f1.type, P.cellsOf f2.type, P.cellsOf f3.type, P.cellsOf f4.type, P.cellsOf f5.type) = (1, 1, 1, 1, 1, 1))
    (u0 : P.underlying f0.type = some (.int k0)) (u1 : P.underlying f1.type = some (.int k1)) (u2 : P.underlying f2.type = some (.int k2)) (u3 : P.underlying f3.type = some (.int k3)) (u4 : P.underlying f4.type = some (.int k4)) (u5 : P.underlying f5.type = some (.int k5)) (hv : Value.okWide P W r base t v) (h : DataW.Trod enc P W 0 (fun _ => true) true t v d ps) :
    ∃ (a : Option Addr) (len cap : Nat), v = .slice a len cap ∧ len ≤ 9223372036854775807 ∧ ∀ j, j < len → ∃ k off, a = some ⟨k, off, none⟩ ∧ k < W.heap.size ∧ ∃ d0 d1 d2 d3 d4 d5 : Int, ((Lit.int k0 d0).wf = true ∧ (Lit.int k1 d1).wf = true ∧ (Lit.int k2 d2).wf = true ∧ (Lit.int k3 d3).wf = true ∧ (Lit.int k4 d4).wf = true ∧ (Lit.int k5 d5).wf = true) ∧ W.cell? ⟨k, off + j * 6, none⟩ = some (.int k0 d0) ∧ W.cell? ⟨k, off + j * 6 + 1, none⟩ = some (.int k1 d1) ∧ W.cell? ⟨k, off + j * 6 + 2, none⟩ = some (.int k2 d2) ∧ W.cell? ⟨k, off + j * 6 + 3, none⟩ = some (.int k3 d3) ∧ W.cell? ⟨k, off + j * 6 + 4, none⟩ = some (.int k4 d4) ∧ W.cell? ⟨k, off + j * 6 + 5, none⟩ = some (.int k5 d5) := by
  obtain ⟨a0, len, cap, rfl⟩ := okWide_slice ht hv
  obtain ⟨fuel, hf⟩ := h
  rcases Go.Deep.open_slice ht hf with ⟨hcs, hx⟩ | ⟨a, len', cap', m, n, D, Pl, hcs, _, hl, hm, hmm, hx, hi⟩
  · simp [Value.cells] at hcs
    obtain ⟨rfl, rfl, rfl⟩ := hcs
    exact ⟨none, 0, 0, rfl, by omega, by intro j hj; omega⟩
  · simp [Value.cells] at hcs
    obtain ⟨rfl, rfl, rfl⟩ := hcs
    simp only [if_true] at hmm
    refine ⟨some a, len, cap, rfl, by unfold maxLen at hm; omega, fun j hj => ?_⟩
    obtain ⟨cs, hcl, htr⟩ := hi j (by omega)
    rw [hC] at hcl
    obtain ⟨_, hlen, hat⟩ := World.cells?_some hcl
    obtain ⟨d0, d1, d2, d3, d4, d5, rfl, z0, z1, z2, z3, z4, z5⟩ := six he ho hc u0 u1 u2 u3 u4 u5 hlen htr
    have w0 := hat 0 (by omega)
    have w1 := hat 1 (by omega)
    have w2 := hat 2 (by omega)
    have w3 := hat 3 (by omega)
    have w4 := hat 4 (by omega)
    have w5 := hat 5 (by omega)
    rw [Go.Deep.add_add] at w0 w1 w2 w3 w4 w5
    simp only [List.getElem?_cons_zero, List.getElem?_cons_succ] at w0 w1 w2 w3 w4 w5
    obtain ⟨b, off, spot⟩ := a
    have hspot : spot = none := by
      obtain ⟨cs0, hcl0, _⟩ := hi 0 (by omega)
      rw [hC] at hcl0
      obtain ⟨_, hlen0, hat0⟩ := World.cells?_some hcl0
      have w := hat0 0 (by omega)
      rw [List.getElem?_eq_getElem (show 0 < cs0.length by omega)] at w
      simpa [Addr.add] using World.cell?_spot w
    subst hspot
    simp only [Addr.add_lit] at w0 w1 w2 w3 w4 w5
    refine ⟨b, off, rfl, World.block_lt_of_cell? _ _ w0, d0, d1, d2, d3, d4, d5, ⟨z0, z1, z2, z3, z4, z5⟩, w0, ?_, ?_, ?_, ?_, ?_⟩
    · rw [Nat.add_assoc]; exact w1
    · rw [Nat.add_assoc]; exact w2
    · rw [Nat.add_assoc]; exact w3
    · rw [Nat.add_assoc]; exact w4
    · rw [Nat.add_assoc]; exact w5
theorem ev {H : Type} {enc : TypeId × Value → H} {P : Program} {W : World} {base : Nat} {t : TypeId} {f0 f1 f2 f3 f4 f5 : Field} {k0 k1 k2 k3 k4 k5 : IntKind} {v : Value} {d : DataW H} {ps : List MemPlace} {r : Reach}
    (he : P.underlying t = some (.struct #[f0, f1, f2, f3, f4, f5])) (hC : P.cellsOf t = 6) (ho : (f0.offset, f1.offset, f2.offset, f3.offset, f4.offset, f5.offset) = (0, 1, 2, 3, 4, 5)) (hc : (P.cellsOf f0.type, P.cellsOf f1.type, P.cellsOf f2.type, P.cellsOf f3.type, P.cellsOf f4.type, P.cellsOf f5.type) = (1, 1, 1, 1, 1, 1))
    (u0 : P.underlying f0.type = some (.int k0)) (u1 : P.underlying f1.type = some (.int k1)) (u2 : P.underlying f2.type = some (.int k2)) (u3 : P.underlying f3.type = some (.int k3)) (u4 : P.underlying f4.type = some (.int k4)) (u5 : P.underlying f5.type = some (.int k5)) (hv : Value.okWide P W r base t v) (h : DataW.Trod enc P W 0 (fun _ => true) true t v d ps) :
    ∃ d0 d1 d2 d3 d4 d5 : Int, v = .agg #[.int k0 d0, .int k1 d1, .int k2 d2, .int k3 d3, .int k4 d4, .int k5 d5] ∧ (Lit.int k0 d0).wf = true ∧ (Lit.int k1 d1).wf = true ∧ (Lit.int k2 d2).wf = true ∧ (Lit.int k3 d3).wf = true ∧ (Lit.int k4 d4).wf = true ∧ (Lit.int k5 d5).wf = true := by
  obtain ⟨cs, rfl, hsz⟩ := okWide_struct he hv
  obtain ⟨fuel, hf⟩ := h
  obtain ⟨d0, d1, d2, d3, d4, d5, e, z0, z1, z2, z3, z4, z5⟩ := six he ho hc u0 u1 u2 u3 u4 u5 (by simpa [Value.cells] using hsz.trans hC) hf
  refine ⟨d0, d1, d2, d3, d4, d5, ?_, z0, z1, z2, z3, z4, z5⟩
  congr 1
  obtain ⟨l⟩ := cs
  simpa [Value.cells] using e
end Go.Proofs.YtikdhfedidknpaaDoor.Read
