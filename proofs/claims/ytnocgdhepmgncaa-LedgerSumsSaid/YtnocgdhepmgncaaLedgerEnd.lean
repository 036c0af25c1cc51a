/- Deeds that came in, as the walks want them. Conditions: none. -/
import Derived.Test.YtnocgdhepmgncaaLedgerFew
import Derived.Test.YtnocgdhepmgncaaReadAccts
namespace Go.Proofs.Ytnocgdhepmgncaa.Ledger
open Go.ChangeShapes Go.WideShapes Go.ChangeAt Go.RowKit Go.Sort Mem
set_option linter.unusedVariables false
set_option linter.unusedSimpArgs false

theorem de_of {w : World} {c0 c1 c2 c3 : Value} (h : Read.AcctAt w .i64 .i64 .i64 c0 c1 c2 c3) : ∃ d : De, (d.n ≤ 9223372036854775807 ∧ (d.n ≤ 20 → d.Is w.heap.size w)) ∧ c0 = .slice d.a d.n d.c ∧ c1 = .int .i64 d.t ∧ c2 = .int .i64 d.ns ∧ c3 = .bool d.gone ∧ I64 d.t ∧ I64 d.ns := by
  obtain ⟨a, n, c, zs, d1, d2, d3, rfl, rfl, rfl, rfl, w1, w2, hn, hcap, hl, hz, hnil, hc⟩ := h
  refine ⟨⟨a, n, c, zs.take n, d1, d2, d3⟩, ⟨hn, fun h20 => ⟨⟨by simp; omega, ?_, hnil, fun j x hj => ?_⟩, i64_of w1, i64_of w2, h20, hcap⟩⟩, rfl, rfl, rfl, rfl, i64_of w1, i64_of w2⟩
  · simp only at h20 ⊢; omega
  · simp only at hj
    have hjl := (List.getElem?_eq_some_iff.1 hj).1
    simp at hjl
    rw [List.getElem?_take_of_lt (by omega)] at hj
    obtain ⟨b, off, e, hb, hcell⟩ := hc j (by omega)
    rw [hj] at hcell
    exact ⟨i64_of (hz x (List.mem_of_getElem? hj)), b, off, e, hb, hb, hcell⟩
theorem comes_of {v : Option Addr} {len : Nat} {w : World} (h : ∀ j, j < len → ∃ k off, v = some ⟨k, off, none⟩ ∧ k < w.heap.size ∧ ∃ c0 c1 c2 c3 : Value, Read.AcctAt w .i64 .i64 .i64 c0 c1 c2 c3 ∧ w.cell? ⟨k, off + j * 4, none⟩ = some c0 ∧ w.cell? ⟨k, off + j * 4 + 1, none⟩ = some c1 ∧ w.cell? ⟨k, off + j * 4 + 2, none⟩ = some c2 ∧ w.cell? ⟨k, off + j * 4 + 3, none⟩ = some c3) : Comes v len w := by
  intro j hj
  obtain ⟨k, off, e, hk, c0, c1, c2, c3, ha, x0, x1, x2, x3⟩ := h j hj
  obtain ⟨d, ⟨h1, h2⟩, rfl, rfl, rfl, rfl, _, _⟩ := de_of ha
  exact ⟨k, off, e, hk, d, h1, h2, x0, x1, x2, x3⟩
end Go.Proofs.Ytnocgdhepmgncaa.Ledger
