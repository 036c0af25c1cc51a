/- A struct of three integers and a slice of integers, opened. Conditions: none. -/
import Derived.Test.YtfbnnkmjnolnlaaReadAccts
namespace Go.Proofs.Ytfbnnkmjnolnlaa.Read
open Go.ChangeShapes Go.WideShapes Go.ChangeAt Go.RowKit
set_option linter.unusedVariables false
set_option linter.unusedSimpArgs false

theorem due {H : Type} {enc : TypeId × Value → H} {P : Program} {W : World} {base : Nat} {t es : TypeId} {f0 f1 f2 f3 : Field} {k0 k1 k2 k3 : IntKind} {v : Value} {d : DataW H} {ps : List MemPlace} {r : Reach} (ht : P.underlying t = some (.struct #[f0, f1, f2, f3])) (hone : Go.Deep.oneCellFields P #[f0, f1, f2, f3] = true) (hC : P.cellsOf t = 4)
    (u0 : P.underlying f0.type = some (.int k0)) (u1 : P.underlying f1.type = some (.int k1)) (u2 : P.underlying f2.type = some (.int k2)) (hs : P.underlying f3.type = some (.slice es)) (hes : P.underlying es = some (.int k3)) (hec : P.cellsOf es = 1)
    (hv : Value.okWide P W r base t v) (h : DataW.Trod enc P W 0 (fun _ => true) true t v d ps) :
    ∃ (d0 d1 d2 : Int) (a : Option Addr) (n c : Nat) (zs : List Int), v = .agg #[.int k0 d0, .int k1 d1, .int k2 d2, .slice a n c] ∧ (Lit.int k0 d0).wf = true ∧ (Lit.int k1 d1).wf = true ∧ (Lit.int k2 d2).wf = true ∧
      n ≤ 9223372036854775807 ∧ n ≤ c ∧ n ≤ zs.length ∧ (∀ x ∈ zs, (Lit.int k3 x).wf = true) ∧ (a = none → n = 0 ∧ c = 0) ∧ ∀ j, j < n → ∃ b off, a = some ⟨b, off, none⟩ ∧ b < W.heap.size ∧ W.cell? ⟨b, off + j, none⟩ = some (.int k3 (zs[j]?.getD 0)) := by
  obtain ⟨v0, v1, v2, v3, y0, y1, y2, y3, n, rfl, _, _, t0, t1, t2, t3⟩ := Go.Joins.open_agg4 ht hone hC hv h
  obtain ⟨a, n, c, zs, e3, g1, g6, g2, g3, g4, g5⟩ := intsAt hs hes hec t3
  obtain ⟨d0, e0, _, z0⟩ := DataW.trod_int u0 t0
  obtain ⟨d1, e1, _, z1⟩ := DataW.trod_int u1 t1
  obtain ⟨d2, e2, _, z2⟩ := DataW.trod_int u2 t2
  simp only [List.cons.injEq, and_true] at e0 e1 e2 e3
  subst e0 e1 e2 e3
  exact ⟨d0, d1, d2, a, n, c, zs, rfl, z0, z1, z2, g1, g6, g2, g3, g4, g5⟩
end Go.Proofs.Ytfbnnkmjnolnlaa.Read
