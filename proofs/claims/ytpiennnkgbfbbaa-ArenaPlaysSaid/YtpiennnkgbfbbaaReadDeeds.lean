/- A slice of structs of three integers and a struct of two, opened. Conditions: none. -/
import Derived.Test.YtpiennnkgbfbbaaReadOn
import Derived.Deep.Slices
namespace Go.Proofs.Ytpiennnkgbfbbaa.Read
open Go.ChangeShapes Go.WideShapes Go.ChangeAt Go.RowKit
set_option linter.unusedVariables false
set_option linter.unusedSimpArgs false

theorem deeds {H : Type} {enc : TypeId × Value → H} {P : Program} {W : World} {base : Nat} {t e : TypeId} {f0 f1 f2 f3 g0 g1 : Field} {v : Value} {d : DataW H} {ps : List MemPlace} {r : Reach} (ht : P.underlying t = some (.slice e)) (he : P.underlying e = some (.struct #[f0, f1, f2, f3])) (hh : P.underlying f3.type = some (.struct #[g0, g1])) (hC : P.cellsOf e = 5)
    (ho : (f0.offset, f1.offset, f2.offset, f3.offset, g0.offset, g1.offset) = (0, 1, 2, 3, 0, 1)) (hc : (P.cellsOf f0.type, P.cellsOf f1.type, P.cellsOf f2.type, P.cellsOf f3.type, P.cellsOf g0.type, P.cellsOf g1.type) = (1, 1, 1, 2, 1, 1))
    (k0 : P.underlying f0.type = some (.int .i64)) (k1 : P.underlying f1.type = some (.int .i64)) (k2 : P.underlying f2.type = some (.int .i64)) (k3 : P.underlying g0.type = some (.int .i64)) (k4 : P.underlying g1.type = some (.int .i64))
    (hv : Value.okWide P W r base t v) (h : DataW.Trod enc P W 0 (fun _ => true) true t v d ps) :
    ∃ (a : Option Addr) (len cap : Nat), v = .slice a len cap ∧ len ≤ 9223372036854775807 ∧ ∀ j, j < len → ∃ k off, a = some ⟨k, off, none⟩ ∧ k < W.heap.size ∧ ∃ d0 d1 d2 d3 d4 : Int, W.cell? ⟨k, off + j * 5, none⟩ = some (.int .i64 d0) ∧ W.cell? ⟨k, off + j * 5 + 1, none⟩ = some (.int .i64 d1) ∧ W.cell? ⟨k, off + j * 5 + 2, none⟩ = some (.int .i64 d2) ∧ W.cell? ⟨k, off + j * 5 + 3, none⟩ = some (.int .i64 d3) ∧ W.cell? ⟨k, off + j * 5 + 4, none⟩ = some (.int .i64 d4) := by
  obtain ⟨a0, len, cap, rfl⟩ := okWide_slice ht hv
  obtain ⟨fuel, hf⟩ := h
  rcases Go.Deep.open_slice ht hf with ⟨hcs, hx⟩ | ⟨a, len', cap', m, n, D, Pl, hcs, _, hl, hm, hmm, hx, hi⟩
  · simp [Value.cells] at hcs
    obtain ⟨rfl, rfl, rfl⟩ := hcs
    exact ⟨none, 0, 0, rfl, by omega, by intro j hj; omega⟩
  · simp [Value.cells] at hcs
    obtain ⟨rfl, rfl, rfl⟩ := hcs
    simp only [if_true] at hmm
    refine ⟨some a, len, cap, rfl, by unfold maxLen at hm; omega, fun j hj => ?_⟩
    obtain ⟨cs, hcl, htr⟩ := hi j (by omega)
    rw [hC] at hcl
    obtain ⟨_, hlen, hat⟩ := World.cells?_some hcl
    obtain ⟨ys, n', _, _, r3, r4, hfl⟩ := DataW.trod_struct he htr
    have hyl : ys.length = 4 := by first | simpa using r4 | simpa using r3
    simp only [Prod.mk.injEq] at ho hc
    obtain ⟨o0, o1, o2, o3, o4, o5⟩ := ho
    obtain ⟨s0, s1, s2, s3, s4, s5⟩ := hc
    match cs, hlen with
    | [c0, c1, c2, c3, c4], _ =>
      have x0 := hfl 0 f0 rfl
      have x1 := hfl 1 f1 rfl
      have x2 := hfl 2 f2 rfl
      have x3 := hfl 3 f3 rfl
      rw [o0, s0] at x0
      rw [o1, s1] at x1
      rw [o2, s2] at x2
      rw [o3, s3] at x3
      simp only [List.drop_zero, List.drop_succ_cons, List.take_succ_cons, List.take_zero] at x0 x1 x2 x3
      rw [List.getElem?_eq_getElem (show 0 < ys.length by omega)] at x0
      rw [List.getElem?_eq_getElem (show 1 < ys.length by omega)] at x1
      rw [List.getElem?_eq_getElem (show 2 < ys.length by omega)] at x2
      rw [List.getElem?_eq_getElem (show 3 < ys.length by omega)] at x3
      obtain ⟨zs, n2, _, _, r5, r6, hgl⟩ := DataW.trod_struct hh x3
      have hzl : zs.length = 2 := by first | simpa using r6 | simpa using r5
      have x4 := hgl 0 g0 rfl
      have x5 := hgl 1 g1 rfl
      rw [o4, s4] at x4
      rw [o5, s5] at x5
      simp only [List.drop_zero, List.drop_succ_cons, List.take_succ_cons, List.take_zero] at x4 x5
      rw [List.getElem?_eq_getElem (show 0 < zs.length by omega)] at x4
      rw [List.getElem?_eq_getElem (show 1 < zs.length by omega)] at x5
      obtain ⟨d0, e0, _⟩ := DataW.trod_int k0 x0
      obtain ⟨d1, e1, _⟩ := DataW.trod_int k1 x1
      obtain ⟨d2, e2, _⟩ := DataW.trod_int k2 x2
      obtain ⟨d3, e3, _⟩ := DataW.trod_int k3 x4
      obtain ⟨d4, e4, _⟩ := DataW.trod_int k4 x5
      simp only [List.cons.injEq, and_true] at e0 e1 e2 e3 e4
      subst e0 e1 e2 e3 e4
      have w0 := hat 0 (by omega)
      have w1 := hat 1 (by omega)
      have w2 := hat 2 (by omega)
      have w3 := hat 3 (by omega)
      have w4 := hat 4 (by omega)
      rw [Go.Deep.add_add] at w0 w1 w2 w3 w4
      simp only [List.getElem?_cons_zero, List.getElem?_cons_succ] at w0 w1 w2 w3 w4
      obtain ⟨b, off, spot⟩ := a
      have hspot : spot = none := by
        obtain ⟨cs0, hcl0, _⟩ := hi 0 (by omega)
        rw [hC] at hcl0
        obtain ⟨_, hlen0, hat0⟩ := World.cells?_some hcl0
        have w := hat0 0 (by omega)
        rw [List.getElem?_eq_getElem (show 0 < cs0.length by omega)] at w
        simpa [Addr.add] using World.cell?_spot w
      subst hspot
      simp only [Addr.add_lit] at w0 w1 w2 w3 w4
      refine ⟨b, off, rfl, World.block_lt_of_cell? _ _ w0, d0, d1, d2, d3, d4, w0, ?_, ?_, ?_, ?_⟩
      · rw [Nat.add_assoc]; exact w1
      · rw [Nat.add_assoc]; exact w2
      · rw [Nat.add_assoc]; exact w3
      · rw [Nat.add_assoc]; exact w4
end Go.Proofs.Ytpiennnkgbfbbaa.Read
