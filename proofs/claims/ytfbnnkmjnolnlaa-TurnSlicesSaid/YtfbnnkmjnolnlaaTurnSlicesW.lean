/- The walks of TurnSlices and TurnBetter. Conditions: each argument is a number of its kind. -/
import Derived.Test.YtfbnnkmjnolnlaaTurnLaws
import Derived.Test.YtfbnnkmjnolnlaaTurnWhich
import Derived.Test.YtfbnnkmjnolnlaaTurnDoc
namespace Go.Proofs.Ytfbnnkmjnolnlaa.Turn
open Go.ChangeShapes Go.WideShapes Go.ChangeAt Go.RowKit Mem
open Fix (I64)
set_option linter.unusedVariables false
set_option linter.unusedSimpArgs false
set_option maxRecDepth 100000

def Cells (w w' : World) (x0 x1 x2 i x a r j y b s : Int) : Prop := w'.cell? ⟨w.heap.size, 0, none⟩ = some (.int .u64 x0) ∧ w'.cell? ⟨w.heap.size, 1, none⟩ = some (.int .u64 x1) ∧ w'.cell? ⟨w.heap.size, 2, none⟩ = some (.int .u64 x2) ∧ w'.cell? ⟨w.heap.size + 1, 0, none⟩ = some (.int .i64 i) ∧ w'.cell? ⟨w.heap.size + 1, 1, none⟩ = some (.int .u64 x) ∧ w'.cell? ⟨w.heap.size + 1, 2, none⟩ = some (.int .i64 a) ∧ w'.cell? ⟨w.heap.size + 1, 3, none⟩ = some (.int .u64 r) ∧ w'.cell? ⟨w.heap.size + 1 + 1, 0, none⟩ = some (.int .i64 j) ∧ w'.cell? ⟨w.heap.size + 1 + 1, 1, none⟩ = some (.int .u64 y) ∧ w'.cell? ⟨w.heap.size + 1 + 1, 2, none⟩ = some (.int .i64 b) ∧ w'.cell? ⟨w.heap.size + 1 + 1, 3, none⟩ = some (.int .u64 s)
set_option maxHeartbeats 4000000 in
theorem slicesLaw (x0 x1 x2 i x a r j y b s : Int) (w : World) (h0 : U64 x0) (h1 : U64 x1) (h2 : U64 x2) (hb : I64 b) :
    Calls Try.prog 4 #[.agg #[.int .u64 x0, .int .u64 x1, .int .u64 x2], .agg #[.int .i64 i, .int .u64 x, .int .i64 a, .int .u64 r], .agg #[.int .i64 j, .int .u64 y, .int .i64 b, .int .u64 s]] w (Yes w) := by
  have A := Lib.hid (awake ((((w.alloc (.cells #[.int .u64 x0, .int .u64 x1, .int .u64 x2] 44)).alloc (.cells #[.int .i64 i, .int .u64 x, .int .i64 a, .int .u64 r] 46)).alloc (.cells #[.int .i64 j, .int .u64 y, .int .i64 b, .int .u64 s] 46))))
  have hw : Below w.heap.size w ((((w.alloc (.cells #[.int .u64 x0, .int .u64 x1, .int .u64 x2] 44)).alloc (.cells #[.int .i64 i, .int .u64 x, .int .i64 a, .int .u64 r] 46)).alloc (.cells #[.int .i64 j, .int .u64 y, .int .i64 b, .int .u64 s] 46))) := ((alloc1 w _).alloc (by simp) _).alloc (by simp; omega) _
  have n0 := box_new (o' := (.cells #[.int .i64 j, .int .u64 y, .int .i64 b, .int .u64 s] 46 (0, 0))) (box_new (o' := (.cells #[.int .i64 i, .int .u64 x, .int .i64 a, .int .u64 r] 46 (0, 0))) (heap_alloc_new w (.cells #[.int .u64 x0, .int .u64 x1, .int .u64 x2] 44 (0, 0))))
  have n1 := box_new (o' := (.cells #[.int .i64 j, .int .u64 y, .int .i64 b, .int .u64 s] 46 (0, 0))) (heap_alloc_new (w.alloc (.cells #[.int .u64 x0, .int .u64 x1, .int .u64 x2] 44 (0, 0))) (.cells #[.int .i64 i, .int .u64 x, .int .i64 a, .int .u64 r] 46 (0, 0)))
  have n2 := heap_alloc_new ((w.alloc (.cells #[.int .u64 x0, .int .u64 x1, .int .u64 x2] 44 (0, 0))).alloc (.cells #[.int .i64 i, .int .u64 x, .int .i64 a, .int .u64 r] 46 (0, 0))) (.cells #[.int .i64 j, .int .u64 y, .int .i64 b, .int .u64 s] 46 (0, 0))
  rw [show (w.alloc (.cells #[.int .u64 x0, .int .u64 x1, .int .u64 x2] 44 (0, 0))).heap.size = w.heap.size + 1 by simp] at n1
  rw [show ((w.alloc (.cells #[.int .u64 x0, .int .u64 x1, .int .u64 x2] 44 (0, 0))).alloc (.cells #[.int .i64 i, .int .u64 x, .int .i64 a, .int .u64 r] 46 (0, 0))).heap.size = w.heap.size + 1 + 1 by simp] at n2
  go_enter Try.func4, Try.ntmps4
  go_wp2_with fail
  generalize (((w.alloc (.cells #[.int .u64 x0, .int .u64 x1, .int .u64 x2] 44)).alloc (.cells #[.int .i64 i, .int .u64 x, .int .i64 a, .int .u64 r] 46)).alloc (.cells #[.int .i64 j, .int .u64 y, .int .i64 b, .int .u64 s] 46)) = W at *
  go_at_call 10; refine A.out.mono ?_; rintro e w1 ⟨rfl, hg⟩
  have K := Lib.hid (fun W1 (h : Below w1.heap.size w1 W1) => by
    have hg1 := fresh_trans hg h
    obtain ⟨c0, c1, c2, -⟩ := three (box_fresh n0 hg1)
    obtain ⟨d0, d1, d2, d3, -⟩ := four (box_fresh n1 hg1)
    obtain ⟨e0, e1, e2, e3, -⟩ := four (box_fresh n2 hg1)
    exact (⟨c0, c1, c2, d0, d1, d2, d3, e0, e1, e2, e3⟩ : Cells w W1 x0 x1 x2 i x a r j y b s))
  obtain ⟨c0, c1, c2, d0, d1, d2, d3, e0, e1, e2, e3⟩ := K.out _ (Below.refl _ _)
  clear n0 n1 n2
  go_wp2_with fail
  have hgr : I64 (wrap64 x2) := by unfold wrap64 I64; omega
  generalize wrap64 x2 = g at *
  have S1 := Lib.hid (fun W => slices W x0 x1 x2 h0 h1 h2)
  have S2 := Lib.hid (fun W => refSlice W x0 x1 x2 h0 h1 h2)
  have B1 := Lib.hid (fun W => betters W i x a r j y b s g hb hgr)
  have B2 := Lib.hid (fun W => refBetter W i x a r j y b s g hb hgr)
  unfold entV at B1 B2
  generalize slice x0 x1 x2 = q at *
  generalize better a b g = p at *
  have hq : (q == q) = true := by simp
  have hp : (p == p) = true := by simp
  go_region_held3 (fun w' => w'.cell? ⟨w.heap.size, 0, none⟩ = some (.int .u64 x0) ∧ w'.cell? ⟨w.heap.size, 1, none⟩ = some (.int .u64 x1) ∧ w'.cell? ⟨w.heap.size, 2, none⟩ = some (.int .u64 x2) ∧ w'.cell? ⟨w.heap.size + 1, 0, none⟩ = some (.int .i64 i) ∧ w'.cell? ⟨w.heap.size + 1, 1, none⟩ = some (.int .u64 x) ∧ w'.cell? ⟨w.heap.size + 1, 2, none⟩ = some (.int .i64 a) ∧ w'.cell? ⟨w.heap.size + 1, 3, none⟩ = some (.int .u64 r) ∧ w'.cell? ⟨w.heap.size + 1 + 1, 0, none⟩ = some (.int .i64 j) ∧ w'.cell? ⟨w.heap.size + 1 + 1, 1, none⟩ = some (.int .u64 y) ∧ w'.cell? ⟨w.heap.size + 1 + 1, 2, none⟩ = some (.int .i64 b) ∧ w'.cell? ⟨w.heap.size + 1 + 1, 3, none⟩ = some (.int .u64 s)) (first | exact ⟨c0, c1, c2, d0, d1, d2, d3, e0, e1, e2, e3⟩ | exact ce)
    (first
      | (go_at_call 21; (with_reducible refine (S1.out _).mono ?_); rintro e w2 ⟨rfl, hg2⟩; replace hg2 : Below w1.heap.size w1 w2 := (by first | exact hg2 | exact ⟨hg2.os, hg2.tape, hg2.output, hg2.size, hg2.block⟩ | exact fresh_trans hgp hg2 | exact fresh_trans hgp.drew hg2); have hgp := hg2; have ce := K.out _ hg2)
      | (go_at_call 22; (with_reducible refine (S2.out _).mono ?_); rintro e w3 ⟨rfl, hg3⟩; replace hg3 : Below w1.heap.size w1 w3 := (by first | exact hg3 | exact ⟨hg3.os, hg3.tape, hg3.output, hg3.size, hg3.block⟩ | exact fresh_trans hgp hg3 | exact fresh_trans hgp.drew hg3); have hgp := hg3; have ce := K.out _ hg3)
      | (go_at_call 23; (with_reducible refine (B1.out _).mono ?_); rintro e w4 ⟨rfl, hg4⟩; replace hg4 : Below w1.heap.size w1 w4 := (by first | exact hg4 | exact ⟨hg4.os, hg4.tape, hg4.output, hg4.size, hg4.block⟩ | exact fresh_trans hgp hg4 | exact fresh_trans hgp.drew hg4); have hgp := hg4; have ce := K.out _ hg4)
      | (go_at_call 24; (with_reducible refine (B2.out _).mono ?_); rintro e w5 ⟨rfl, hg5⟩; replace hg5 : Below w1.heap.size w1 w5 := (by first | exact hg5 | exact ⟨hg5.os, hg5.tape, hg5.output, hg5.size, hg5.block⟩ | exact fresh_trans hgp hg5 | exact fresh_trans hgp.drew hg5); have hgp := hg5; have ce := K.out _ hg5))
  all_goals
    go_wp2_with fail
    go_ret
    exact ⟨rfl, hw.trans ((fresh_trans hg hgp).mono hw.size)⟩
end Go.Proofs.Ytfbnnkmjnolnlaa.Turn
