/- The walk of GtreeNobody. Conditions: none. -/
import Derived.Test.YtamjklapgnahkaaGtLaws
namespace Go.Proofs.Ytamjklapgnahkaa.Gt
open Go.ChangeShapes Go.WideShapes Go.ChangeAt Go.RowKit Hp
set_option linter.unusedVariables false
set_option linter.unusedSimpArgs false

theorem four' {w w1 : World} {W : World} {x0 x1 y0 y1 : Value} {t u : TypeId} (h : Below W.heap.size W w1) (e : W = (w.alloc (.cells #[x0, x1] t)).alloc (.cells #[y0, y1] u)) :
    w1.cell? ⟨w.heap.size, 0, none⟩ = some x0 ∧ w1.cell? ⟨w.heap.size, 1, none⟩ = some x1 ∧ w1.cell? ⟨w.heap.size + 1, 0, none⟩ = some y0 ∧ w1.cell? ⟨w.heap.size + 1, 1, none⟩ = some y1 := by
  obtain ⟨a0, a1, a2⟩ := four h e
  obtain ⟨b0, b1, _⟩ := box2 a2
  exact ⟨a0, a1, b0, b1⟩
theorem path_nil' (w : World) (i g : Int) : Calls Try.prog 24 #[.pointer none, .agg #[.int .i64 i, .int .i64 g]] w (fun e w' => e = .returned (.tuple #[.slice none 0 0, .int .i64 2]) ∧ Below w.heap.size w w') := by
  go_enter Try.func24, Try.ntmps24
  go_wp2_with (go_at_call 37; refine (names_nil _ _ _).mono ?_; rintro e w1 ⟨rfl, hg1⟩; have hg := fresh_trans (alloc1 _ _) hg1; clear hg1)
  go_ret2
  exact ⟨rfl, hg⟩
set_option maxRecDepth 100000 in
set_option maxHeartbeats 4000000 in
theorem nobodyLaw (i g j k : Int) (w : World) : Calls Try.prog 8 #[.agg #[.int .i64 i, .int .i64 g], .agg #[.int .i64 j, .int .i64 k]] w (Yes w) := by
  go_enter Try.func8, Try.ntmps8
  go_wp2_with (first
    | (go_at_call 9; refine (awake _).mono ?_; rintro e w1 ⟨rfl, hg1⟩; obtain ⟨a0, a1, b0, b1⟩ := four' hg1 rfl; have hg := fresh_trans (alloc2 _ _ _) hg1; clear hg1)
    | (go_at_call 13; refine (create_nil _ i g).mono ?_; rintro e w2 ⟨rfl, hg1⟩; replace a0 := cell_alloc (cell_fresh a0 hg1); replace a1 := cell_alloc (cell_fresh a1 hg1); replace b0 := cell_alloc (cell_fresh b0 hg1); replace b1 := cell_alloc (cell_fresh b1 hg1); replace hg := fresh_trans hg hg1; clear hg1; replace hg := fun o => hg.alloc hg.size o)
    | (go_at_call 26; refine (parent_nil _ i g).mono ?_; rintro e w3 ⟨rfl, hg1⟩; replace a0 := cell_alloc (cell_fresh (a0 _) hg1); replace a1 := cell_alloc (cell_fresh (a1 _) hg1); replace b0 := cell_alloc (cell_fresh (b0 _) hg1); replace b1 := cell_alloc (cell_fresh (b1 _) hg1); replace hg := fresh_trans (hg _) hg1; clear hg1; replace hg := fun o => hg.alloc hg.size o)
    | (go_at_call 25; refine (depth_nil _ i g).mono ?_; rintro e w4 ⟨rfl, hg1⟩; replace a0 := cell_fresh (a0 _) hg1; replace a1 := cell_fresh (a1 _) hg1; replace b0 := cell_fresh (b0 _) hg1; replace b1 := cell_fresh (b1 _) hg1; replace hg := fresh_trans (hg _) hg1; clear hg1)
    | (go_at_call 24; refine (path_nil' _ i g).mono ?_; rintro e w5 ⟨rfl, hg1⟩; replace a0 := cell_fresh a0 hg1; replace a1 := cell_fresh a1 hg1; replace b0 := cell_fresh b0 hg1; replace b1 := cell_fresh b1 hg1; replace hg := fresh_trans hg hg1; clear hg1)
    | (go_at_call 15; refine (destroy_nil _ i g).mono ?_; rintro e w6 ⟨rfl, hg1⟩; replace a0 := cell_fresh a0 hg1; replace a1 := cell_fresh a1 hg1; replace b0 := cell_fresh b0 hg1; replace b1 := cell_fresh b1 hg1; replace hg := fresh_trans hg hg1; clear hg1)
    | (go_at_call 17; refine (move_nil _ i g j k).mono ?_; rintro e w7 ⟨rfl, hg1⟩; replace a0 := cell_fresh a0 hg1; replace a1 := cell_fresh a1 hg1; replace hg := fresh_trans hg hg1; clear hg1)
    | (go_at_call 30; refine (kids_nil _ i g).mono ?_; rintro e w8 ⟨rfl, hg1⟩; replace a0 := cell_fresh a0 hg1; replace a1 := cell_fresh a1 hg1; replace hg := fresh_trans hg hg1; clear hg1)
    | (go_at_call 27; refine (below_nil _ i g).mono ?_; rintro e w9 ⟨rfl, hg1⟩; replace a0 := cell_fresh a0 hg1; replace a1 := cell_fresh a1 hg1; replace hg := fresh_trans hg hg1; clear hg1)
    | (go_at_call 21; refine (all_nil _).mono ?_; rintro e w10 ⟨rfl, hg1⟩; replace a0 := cell_fresh a0 hg1; replace a1 := cell_fresh a1 hg1; replace hg := fresh_trans hg hg1; clear hg1)
    | (go_at_call 29; refine (under_nil _ i g i g).mono ?_; rintro e w11 ⟨rfl, hg1⟩; replace hg := fresh_trans hg hg1; clear hg1))
  go_ret
  exact ⟨by simp, hg⟩
end Go.Proofs.Ytamjklapgnahkaa.Gt
