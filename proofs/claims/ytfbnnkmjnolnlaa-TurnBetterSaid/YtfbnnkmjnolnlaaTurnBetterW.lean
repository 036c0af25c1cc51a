/- The walk of TurnBetter. Conditions: each argument is a number of its kind. -/
import Derived.Test.YtfbnnkmjnolnlaaTurnLaws
import Derived.Test.YtfbnnkmjnolnlaaTurnWhich
namespace Go.Proofs.Ytfbnnkmjnolnlaa.Turn
open Go.ChangeShapes Go.WideShapes Go.ChangeAt Go.RowKit Mem
open Fix (I64)
set_option linter.unusedVariables false
set_option linter.unusedSimpArgs false
set_option maxRecDepth 100000

theorem better_near {a b g : Int} (ha : -2147483648 ≤ a ∧ a ≤ 2147483647) (hb : -2147483648 ≤ b ∧ b ≤ 2147483647) (hg : 0 ≤ g ∧ g ≤ 65535) : better a b g = decide (g < a - b) := by
  unfold better
  rw [show Fix.hold g 0 1099511627776 = g by unfold Fix.hold; rw [if_neg (by omega), if_neg (by omega)], show Fix.ends (b + g) = b + g by unfold Fix.ends; rw [if_neg (by omega), if_neg (by omega)]]
  exact decide_eq_decide.2 (by omega)
theorem better_far {a b g : Int} (hb : -2147483648 ≤ b ∧ b ≤ 2147483647) (hg : 0 ≤ g ∧ g ≤ 65535) : better a b (-g) = decide (b < a) := by
  unfold better
  rw [show Fix.hold (-g) 0 1099511627776 = 0 by unfold Fix.hold; split <;> (try split) <;> omega, show Fix.ends (b + 0) = b by unfold Fix.ends; rw [if_neg (by omega), if_neg (by omega)]; omega]
set_option maxHeartbeats 8000000 in
theorem betterLaw (a b g : Int) (w : World) (ha : -2147483648 ≤ a ∧ a ≤ 2147483647) (hb : -2147483648 ≤ b ∧ b ≤ 2147483647) (hg : 0 ≤ g ∧ g ≤ 65535) :
    Calls Try.prog 8 #[.int .i32 a, .int .i32 b, .int .u16 g] w (Yes w) := by
  have A := Lib.hid (awake w)
  have B1 := Lib.hid (fun W => betters W 0 0 a 0 0 0 b 0 g (by unfold I64; omega) (by unfold I64; omega))
  have B2 := Lib.hid (fun W => betters W 0 0 b 0 0 0 a 0 g (by unfold I64; omega) (by unfold I64; omega))
  have B3 := Lib.hid (fun W => betters W 0 0 a 0 0 0 a 0 g (by unfold I64; omega) (by unfold I64; omega))
  have B4 := Lib.hid (fun W => betters W 0 0 a 0 0 0 b 0 (-g) (by unfold I64; omega) (by unfold I64; omega))
  rw [better_near ha hb hg] at B1
  rw [better_near hb ha hg] at B2
  rw [better_near ha ha hg, show decide (g < a - a) = false by simp; omega] at B3
  rw [better_far hb hg] at B4
  unfold entV at B1 B2 B3 B4
  have K0 : Hid (∀ w1 W, W = (w1.alloc (.cells #[.int .i64 0, .int .u64 0, .int .i64 a, .int .u64 0] 46)).alloc (.cells #[.int .i64 0, .int .u64 0, .int .i64 b, .int .u64 0] 46) → Below w1.heap.size w1 W ∧ ∀ W1, Below W.heap.size W W1 → (W1.cell? ⟨w1.heap.size, 0, none⟩ = some (.int .i64 0) ∧ W1.cell? ⟨w1.heap.size, 1, none⟩ = some (.int .u64 0) ∧ W1.cell? ⟨w1.heap.size, 2, none⟩ = some (.int .i64 a) ∧ W1.cell? ⟨w1.heap.size, 3, none⟩ = some (.int .u64 0)) ∧ W1.cell? ⟨w1.heap.size + 1, 0, none⟩ = some (.int .i64 0) ∧ W1.cell? ⟨w1.heap.size + 1, 1, none⟩ = some (.int .u64 0) ∧ W1.cell? ⟨w1.heap.size + 1, 2, none⟩ = some (.int .i64 b) ∧ W1.cell? ⟨w1.heap.size + 1, 3, none⟩ = some (.int .u64 0)) := by
    refine Lib.hid ?_
    rintro w1 W rfl
    have n0 := box_new (o' := (.cells #[.int .i64 0, .int .u64 0, .int .i64 b, .int .u64 0] 46 (0, 0))) (heap_alloc_new w1 (.cells #[.int .i64 0, .int .u64 0, .int .i64 a, .int .u64 0] 46 (0, 0)))
    have n1 := heap_alloc_new (w1.alloc (.cells #[.int .i64 0, .int .u64 0, .int .i64 a, .int .u64 0] 46 (0, 0))) (.cells #[.int .i64 0, .int .u64 0, .int .i64 b, .int .u64 0] 46 (0, 0))
    rw [show (w1.alloc (.cells #[.int .i64 0, .int .u64 0, .int .i64 a, .int .u64 0] 46 (0, 0))).heap.size = w1.heap.size + 1 by simp] at n1
    refine ⟨(alloc1 w1 _).alloc (by simp) _, fun W1 h => ?_⟩
    obtain ⟨d0, d1, d2, d3, -⟩ := four (box_fresh n0 h)
    obtain ⟨e0, e1, e2, e3, -⟩ := four (box_fresh n1 h)
    exact ⟨⟨d0, d1, d2, d3⟩, e0, e1, e2, e3⟩
  have hc : (g < a - b ∧ ¬ g < b - a) ∨ (¬ g < a - b ∧ g < b - a) ∨ (¬ g < a - b ∧ ¬ g < b - a) := by omega
  rcases hc with ⟨c1, c2⟩ | ⟨c1, c2⟩ | ⟨c1, c2⟩ <;> by_cases c4 : b < a
  all_goals first | (exfalso; omega) | skip
  all_goals
    simp only [c1, c2, c4, decide_true, decide_false] at B1 B2 B4
    go_enter Try.func8, Try.ntmps8
    go_wp2_with fail
    go_at_call 10; refine A.out.mono ?_; rintro e w1 ⟨rfl, hg1⟩
    go_wp2_with fail
    generalize hW : (w1.alloc (.cells #[.int .i64 0, .int .u64 0, .int .i64 a, .int .u64 0] 46)).alloc (.cells #[.int .i64 0, .int .u64 0, .int .i64 b, .int .u64 0] 46) = W at *
    obtain ⟨hw2, K⟩ := K0.out _ _ hW.symm
    replace hw2 := fresh_trans hg1 hw2
    replace K := Lib.hid K
    clear hW
    go_at_call 23; (with_reducible refine (B1.out _).mono ?_); rintro e w2 ⟨rfl, hg2⟩
    obtain ⟨⟨d0, d1, d2, d3⟩, e0, e1, e2, e3⟩ := K.out _ hg2
    go_wp2_with fail
    go_at_call 23; (with_reducible refine (B2.out _).mono ?_); rintro e w3 ⟨rfl, hg3⟩
    replace hg3 := fresh_trans hg2 hg3
    clear d0 d1 d2 d3 e0 e1 e2 e3
    obtain ⟨⟨d0, d1, d2, d3⟩, e0, e1, e2, e3⟩ := K.out _ hg3
    go_wp2_with fail
    go_at_call 23; (with_reducible refine (B3.out _).mono ?_); rintro e w4 ⟨rfl, hg4⟩
    replace hg4 := fresh_trans hg3 hg4
    clear d0 d1 d2 d3 e0 e1 e2 e3
    obtain ⟨⟨d0, d1, d2, d3⟩, e0, e1, e2, e3⟩ := K.out _ hg4
    go_wp2_with fail
    go_at_call 23; (with_reducible refine (B4.out _).mono ?_); rintro e w5 ⟨rfl, hg5⟩
    replace hg5 := fresh_trans hg4 hg5
    go_wp2_with fail
    go_ret
    refine ⟨?_, fresh_trans hw2 hg5⟩
    first
      | rfl
      | (refine congrArg (fun x => Ending.returned (Value.bool x)) (?_ : _ = true); simp; omega)
end Go.Proofs.Ytfbnnkmjnolnlaa.Turn
