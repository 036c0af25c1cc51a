/- A band under what comes, one after another. Conditions: none. -/
import Derived.Test.YtjjcaplkmbigdaaQuotaCalls
namespace Go.Proofs.Ytjjcaplkmbigdaa.Quota
open Go.ChangeShapes Go.WideShapes Go.ChangeAt Go.RowKit Mem
open Fix (I64)
set_option linter.unusedVariables false
set_option linter.unusedSimpArgs false

/-- What comes lies in a slice. -/
def Comes (v : Option Addr) (len : Nat) (w : World) : Prop := ∀ j, j < len → ∃ kb off, v = some ⟨kb, off, none⟩ ∧ kb < w.heap.size ∧ ∃ k p n : Int, (0 ≤ p ∧ p < 256 ∧ 0 ≤ n ∧ n < 4294967296) ∧ w.cell? ⟨kb, off + j * 3, none⟩ = some (.int .i64 k) ∧ w.cell? ⟨kb, off + j * 3 + 1, none⟩ = some (.int .u8 p) ∧ w.cell? ⟨kb, off + j * 3 + 2, none⟩ = some (.int .u32 n)
theorem Comes.fresh {v : Option Addr} {len : Nat} {w w' : World} (h : Comes v len w) (hg : Below w.heap.size w w') : Comes v len w' := by
  intro j hj
  obtain ⟨kb, off, e, hl, k, p, n, hb, c0, c1, c2⟩ := h j hj
  exact ⟨kb, off, e, Nat.lt_of_lt_of_le hl hg.size, k, p, n, hb, (hg.cell hl).trans c0, (hg.cell hl).trans c1, (hg.cell hl).trans c2⟩

/-- The band behind k of them. -/
structure Run (w1 : World) (b n : Nat) (D q : Int) (k : Nat) (d : Bd) (w : World) : Prop where
  held : Held w1 (· < w1.heap.size) b d w
  inv : Inv D (k * D) d
  lim : lim d = true
  q : d.q = q
  len : d.loc.length = n

section
variable {w1 w w' : World} {b n k : Nat} {D q : Int} {d : Bd}
theorem Run.small (h : Run w1 b n D q k d w) (hD : D ≤ 1000000000) (hk : k ≤ 200) : (k : Int) * D ≤ 200000000000 := by
  have := h.inv.m0
  have : (k : Int) * D ≤ 200 * D := Int.mul_le_mul_of_nonneg_right (by omega) this
  omega
theorem Run.did {v : Value} {d' : Bd} (h : Run w1 b n D q k d w) {e : Ending} (r : Did v d' b (· < w1.heap.size) w e w') : e = .returned v ∧ Held w1 (· < w1.heap.size) b d' w' :=
  ⟨r.1, (h.held.did r).2.1⟩
theorem Run.next {kind p ns : Int} (h : Run w1 b n D q k d w) (h0 : 0 ≤ ns) (h1 : ns ≤ D) (hH : Held w1 (· < w1.heap.size) b (serveS d kind p ns) w') : Run w1 b n D q (k + 1) (serveS d kind p ns) w' := by
  refine ⟨hH, ?_, by rw [lim_q (q_serve d kind p ns)]; exact h.lim, by rw [q_serve]; exact h.q, by rw [len_serve]; exact h.len⟩
  have := h.inv.serve h.lim (kind := kind) (p := p) h0 h1
  rwa [show ((k + 1 : Nat) : Int) * D = k * D + D by rw [Int.natCast_add, Int.add_mul]; simp]
theorem Run.more (h : Run w1 b n D q k d w) : Run w1 b n D q (k + 1) d w := by
  refine ⟨h.held, h.inv.up (Int.le_refl _) ?_, h.lim, h.q, h.len⟩
  have := h.inv.m0
  rw [show ((k + 1 : Nat) : Int) * D = k * D + D by rw [Int.natCast_add, Int.add_mul]; simp]
  omega
theorem Run.fill (h : Run w1 b n D q k d w) (hH : Held w1 (· < w1.heap.size) b (refS d) w') : Run w1 b n D q k (refS d) w' :=
  ⟨hH, h.inv.ref (Int.mul_nonneg (by omega) h.inv.m0), h.lim, h.q, by rw [len_ref]; exact h.len⟩
theorem Run.ens {p : Int} (h : Run w1 b n D q k d w) (hH : Held w1 (· < w1.heap.size) b (ensS d p) w') : Run w1 b n D q k (ensS d p) w' :=
  ⟨hH, h.inv.ens p, by rw [lim_q (q_ens d p)]; exact h.lim, by rw [q_ens]; exact h.q, by rw [len_ens]; exact h.len⟩
theorem Run.fresh (h : Run w1 b n D q k d w) (hg : Below w.heap.size w w') : Run w1 b n D q k d w' := ⟨h.held.fresh hg, h.inv, h.lim, h.q, h.len⟩
end
theorem Run.start {w1 w : World} {b n : Nat} {D t0 t1 : Int} (h0 : 0 ≤ t0) (h1 : t0 < 4294967296) (h2 : 0 ≤ t1) (h3 : t1 < 4294967296) (hn : n ≤ 8) (hD : 0 ≤ D) (hH : Held w1 (· < w1.heap.size) b (setS (newS n) (1 + t0) (1 + t1)) w) : Run w1 b n D (1 + t0) 0 (setS (newS n) (1 + t0) (1 + t1)) w := by
  have hb := badSet_no h0 h1 h2 h3
  refine ⟨hH, ?_, ?_, set_q hb, by rw [len_set, len_new]⟩
  · have := ((Inv.new (M := D) n (by omega) hD).set (1 + t0) (1 + t1) (by omega))
    simpa using this
  · simp only [Quota.lim, set_q hb]; simp; omega
theorem start_bal {n : Nat} {t0 t1 : Int} (h0 : 0 ≤ t0) (h1 : t0 < 4294967296) (h2 : 0 ≤ t1) (h3 : t1 < 4294967296) : bal (setS (newS n) (1 + t0) (1 + t1)) = (setS (newS n) (1 + t0) (1 + t1)).q + 0 := bal_set (badSet_no h0 h1 h2 h3)
theorem start_sp {n : Nat} {t0 t1 : Int} (h0 : 0 ≤ t0) (h1 : t0 < 4294967296) (h2 : 0 ≤ t1) (h3 : t1 < 4294967296) : (setS (newS n) (1 + t0) (1 + t1)).sp = 0 := by simp [setS, badSet_no h0 h1 h2 h3]
end Go.Proofs.Ytjjcaplkmbigdaa.Quota
