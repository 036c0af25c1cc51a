/- Structs of a slice of integers, two integers and a bool: one alone, and a slice of such. Conditions: none. -/
import Derived.Test.YtfbnnkmjnolnlaaReadOn
import Derived.Deep.Slices
namespace Go.Proofs.Ytfbnnkmjnolnlaa.Read
open Go.ChangeShapes Go.WideShapes Go.ChangeAt Go.RowKit
set_option linter.unusedVariables false
set_option linter.unusedSimpArgs false

/-- What is known of the four cells of such a struct. -/
def AcctAt (W : World) (k0 k1 k2 : IntKind) (c0 c1 c2 c3 : Value) : Prop := ∃ (a : Option Addr) (n c : Nat) (zs : List Int) (d1 d2 : Int) (d3 : Bool), c0 = .slice a n c ∧ c1 = .int k1 d1 ∧ c2 = .int k2 d2 ∧ c3 = .bool d3 ∧ (Lit.int k1 d1).wf = true ∧ (Lit.int k2 d2).wf = true ∧
  n ≤ 9223372036854775807 ∧ n ≤ c ∧ n ≤ zs.length ∧ (∀ x ∈ zs, (Lit.int k0 x).wf = true) ∧ (a = none → n = 0 ∧ c = 0) ∧ ∀ j, j < n → ∃ b off, a = some ⟨b, off, none⟩ ∧ b < W.heap.size ∧ W.cell? ⟨b, off + j, none⟩ = some (.int k0 (zs[j]?.getD 0))
theorem intsAt {H : Type} {enc : TypeId × Value → H} {P : Program} {W : World} {t e : TypeId} {k : IntKind} {cs : List Value} {fuel : Nat} {z : DataW H × List MemPlace} (ht : P.underlying t = some (.slice e)) (he : P.underlying e = some (.int k)) (hc : P.cellsOf e = 1)
    (hf : DataW.trod enc P W 0 (fun _ => true) true fuel t cs = some z) :
    ∃ (a : Option Addr) (n c : Nat) (zs : List Int), cs = [.slice a n c] ∧ n ≤ 9223372036854775807 ∧ n ≤ c ∧ n ≤ zs.length ∧ (∀ x ∈ zs, (Lit.int k x).wf = true) ∧ (a = none → n = 0 ∧ c = 0) ∧ ∀ j, j < n → ∃ b off, a = some ⟨b, off, none⟩ ∧ b < W.heap.size ∧ W.cell? ⟨b, off + j, none⟩ = some (.int k (zs[j]?.getD 0)) := by
  rcases open_ints ht he hc hf with ⟨hcs, hx⟩ | ⟨a, len', cap', zs, hcs, _, hl, hm, hz, hx, hcell, hwz⟩
  · exact ⟨none, 0, 0, [], hcs, by omega, Nat.le_refl _, Nat.le_refl _, by simp, fun _ => ⟨rfl, rfl⟩, by intro j hj; omega⟩
  · simp only [if_true] at hz
    refine ⟨some a, len', cap', zs, hcs, by unfold maxLen at hm; omega, hl, by omega, hwz, (fun e => by cases e), fun j hj => ?_⟩
    obtain ⟨b, off, rfl, hc'⟩ := ints_at hcell (by omega)
    have := hc' j (by omega)
    refine ⟨b, off, rfl, ?_, by rw [this]; simp [List.getD]⟩
    simpa using World.block_lt_of_cell? _ _ this
theorem acctAt {H : Type} {enc : TypeId × Value → H} {P : Program} {W : World} {ts es : TypeId} {t1 t2 t3 : TypeId} {k0 k1 k2 : IntKind} {c0 c1 c2 c3 : Value} {m : Nat} {y0 y1 y2 y3 : DataW H × List MemPlace} (hs : P.underlying ts = some (.slice es)) (hes : P.underlying es = some (.int k0)) (hec : P.cellsOf es = 1)
    (u1 : P.underlying t1 = some (.int k1)) (u2 : P.underlying t2 = some (.int k2)) (u3 : P.underlying t3 = some .bool)
    (x0 : DataW.trod enc P W 0 (fun _ => true) true m ts [c0] = some y0) (x1 : DataW.trod enc P W 0 (fun _ => true) true m t1 [c1] = some y1) (x2 : DataW.trod enc P W 0 (fun _ => true) true m t2 [c2] = some y2) (x3 : DataW.trod enc P W 0 (fun _ => true) true m t3 [c3] = some y3) : AcctAt W k0 k1 k2 c0 c1 c2 c3 := by
  obtain ⟨a, n, c, zs, e0, g1, g6, g2, g3, g4, g5⟩ := intsAt hs hes hec x0
  obtain ⟨d1, e1, _, z1⟩ := DataW.trod_int u1 x1
  obtain ⟨d2, e2, _, z2⟩ := DataW.trod_int u2 x2
  obtain ⟨d3, e3, _⟩ := DataW.trod_bool u3 x3
  simp only [List.cons.injEq, and_true] at e0 e1 e2 e3
  exact ⟨a, n, c, zs, d1, d2, d3, e0, e1, e2, e3, z1, z2, g1, g6, g2, g3, g4, g5⟩

/-- One alone. -/
theorem acct {H : Type} {enc : TypeId × Value → H} {P : Program} {W : World} {base : Nat} {t es : TypeId} {f0 f1 f2 f3 : Field} {k0 k1 k2 : IntKind} {v : Value} {d : DataW H} {ps : List MemPlace} {r : Reach} (ht : P.underlying t = some (.struct #[f0, f1, f2, f3])) (hone : Go.Deep.oneCellFields P #[f0, f1, f2, f3] = true) (hC : P.cellsOf t = 4)
    (hs : P.underlying f0.type = some (.slice es)) (hes : P.underlying es = some (.int k0)) (hec : P.cellsOf es = 1) (u1 : P.underlying f1.type = some (.int k1)) (u2 : P.underlying f2.type = some (.int k2)) (u3 : P.underlying f3.type = some .bool)
    (hv : Value.okWide P W r base t v) (h : DataW.Trod enc P W 0 (fun _ => true) true t v d ps) :
    ∃ c0 c1 c2 c3 : Value, v = .agg #[c0, c1, c2, c3] ∧ AcctAt W k0 k1 k2 c0 c1 c2 c3 := by
  obtain ⟨v0, v1, v2, v3, y0, y1, y2, y3, n, rfl, _, _, t0, t1, t2, t3⟩ := Go.Joins.open_agg4 ht hone hC hv h
  exact ⟨v0, v1, v2, v3, rfl, acctAt hs hes hec u1 u2 u3 t0 t1 t2 t3⟩

/-- A slice of such. -/
theorem accts {H : Type} {enc : TypeId × Value → H} {P : Program} {W : World} {base : Nat} {t e es : TypeId} {f0 f1 f2 f3 : Field} {k0 k1 k2 : IntKind} {v : Value} {d : DataW H} {ps : List MemPlace} {r : Reach} (ht : P.underlying t = some (.slice e)) (he : P.underlying e = some (.struct #[f0, f1, f2, f3])) (hC : P.cellsOf e = 4)
    (ho : (f0.offset, f1.offset, f2.offset, f3.offset) = (0, 1, 2, 3)) (hc : (P.cellsOf f0.type, P.cellsOf f1.type, P.cellsOf f2.type, P.cellsOf f3.type) = (1, 1, 1, 1))
    (hs : P.underlying f0.type = some (.slice es)) (hes : P.underlying es = some (.int k0)) (hec : P.cellsOf es = 1) (u1 : P.underlying f1.type = some (.int k1)) (u2 : P.underlying f2.type = some (.int k2)) (u3 : P.underlying f3.type = some .bool)
    (hv : Value.okWide P W r base t v) (h : DataW.Trod enc P W 0 (fun _ => true) true t v d ps) :
    ∃ (a : Option Addr) (len cap : Nat), v = .slice a len cap ∧ len ≤ 9223372036854775807 ∧ len ≤ cap ∧ ∀ j, j < len → ∃ k off, a = some ⟨k, off, none⟩ ∧ k < W.heap.size ∧ ∃ c0 c1 c2 c3 : Value, AcctAt W k0 k1 k2 c0 c1 c2 c3 ∧ W.cell? ⟨k, off + j * 4, none⟩ = some c0 ∧ W.cell? ⟨k, off + j * 4 + 1, none⟩ = some c1 ∧ W.cell? ⟨k, off + j * 4 + 2, none⟩ = some c2 ∧ W.cell? ⟨k, off + j * 4 + 3, none⟩ = some c3 := by
  obtain ⟨a0, len, cap, rfl⟩ := okWide_slice ht hv
  obtain ⟨fuel, hf⟩ := h
  rcases Go.Deep.open_slice ht hf with ⟨hcs, hx⟩ | ⟨a, len', cap', m, n, D, Pl, hcs, _, hl, hm, hmm, hx, hi⟩
  · simp [Value.cells] at hcs
    obtain ⟨rfl, rfl, rfl⟩ := hcs
    exact ⟨none, 0, 0, rfl, by omega, by omega, by intro j hj; omega⟩
  · simp [Value.cells] at hcs
    obtain ⟨rfl, rfl, rfl⟩ := hcs
    simp only [if_true] at hmm
    refine ⟨some a, len, cap, rfl, by unfold maxLen at hm; omega, by omega, fun j hj => ?_⟩
    obtain ⟨cs, hcl, htr⟩ := hi j (by omega)
    rw [hC] at hcl
    obtain ⟨_, hlen, hat⟩ := World.cells?_some hcl
    obtain ⟨ys, n', _, _, r3, r4, hfl⟩ := DataW.trod_struct he htr
    have hyl : ys.length = 4 := by first | simpa using r4 | simpa using r3
    simp only [Prod.mk.injEq] at ho hc
    obtain ⟨o0, o1, o2, o3⟩ := ho
    obtain ⟨s0, s1, s2, s3⟩ := hc
    match cs, hlen with
    | [c0, c1, c2, c3], _ =>
      have x0 := hfl 0 f0 rfl
      have x1 := hfl 1 f1 rfl
      have x2 := hfl 2 f2 rfl
      have x3 := hfl 3 f3 rfl
      rw [o0, s0] at x0
      rw [o1, s1] at x1
      rw [o2, s2] at x2
      rw [o3, s3] at x3
      simp only [List.drop_zero, List.drop_succ_cons, List.take_succ_cons, List.take_zero] at x0 x1 x2 x3
      rw [List.getElem?_eq_getElem (show 0 < ys.length by omega)] at x0
      rw [List.getElem?_eq_getElem (show 1 < ys.length by omega)] at x1
      rw [List.getElem?_eq_getElem (show 2 < ys.length by omega)] at x2
      rw [List.getElem?_eq_getElem (show 3 < ys.length by omega)] at x3
      have A := acctAt hs hes hec u1 u2 u3 x0 x1 x2 x3
      have w0 := hat 0 (by omega)
      have w1 := hat 1 (by omega)
      have w2 := hat 2 (by omega)
      have w3 := hat 3 (by omega)
      rw [Go.Deep.add_add] at w0 w1 w2 w3
      simp only [List.getElem?_cons_zero, List.getElem?_cons_succ] at w0 w1 w2 w3
      obtain ⟨b, off, spot⟩ := a
      have hspot : spot = none := by
        obtain ⟨cs0, hcl0, _⟩ := hi 0 (by omega)
        rw [hC] at hcl0
        obtain ⟨_, hlen0, hat0⟩ := World.cells?_some hcl0
        have w := hat0 0 (by omega)
        rw [List.getElem?_eq_getElem (show 0 < cs0.length by omega)] at w
        simpa [Addr.add] using World.cell?_spot w
      subst hspot
      simp only [Addr.add_lit] at w0 w1 w2 w3
      refine ⟨b, off, rfl, World.block_lt_of_cell? _ _ w0, c0, c1, c2, c3, A, w0, ?_, ?_, ?_⟩
      · rw [Nat.add_assoc]; exact w1
      · rw [Nat.add_assoc]; exact w2
      · rw [Nat.add_assoc]; exact w3
end Go.Proofs.Ytfbnnkmjnolnlaa.Read
