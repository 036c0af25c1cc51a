/- What isRoot and Parent of package gtree answer. Conditions: none. -/
import Derived.Test.YtanahddlnchioaaGtMem
namespace Go.Proofs.Ytanahddlnchioaa.Gt
open Go.ChangeShapes Go.WideShapes Go.ChangeAt Go.RowKit Hp
set_option linter.unusedVariables false
set_option linter.unusedSimpArgs false

def isRoot (i g : Int) : Bool := (i == 0) && (g == 0)
theorem root (w : World) (i g : Int) : Calls Try.prog 28 #[.agg #[.int .i64 i, .int .i64 g]] w (IsBool (isRoot i g) w) := by
  cases h1 : (i == 0) <;> cases h2 : (g == 0)
  all_goals
    rw [show isRoot i g = _ by simp only [isRoot, h1, h2]; rfl]
    go_enter Try.func28, Try.ntmps28
    go_wp2
    go_ret; exact ⟨by simp_all, alloc1 _ _⟩

theorem parent_nil (w : World) (i g : Int) : Calls Try.prog 40 #[.pointer none, .agg #[.int .i64 i, .int .i64 g]] w (IsTwo 0 0 2 w) := by
  go_enter Try.func40, Try.ntmps40
  go_wp2_with (go_at_call 27; refine (names_nil _ _ _).mono ?_; rintro e w1 ⟨rfl, hg1⟩; obtain ⟨a0, a1, a2⟩ := four hg1 rfl; have hg := fresh_trans (alloc2 _ _ _) hg1; clear hg1; obtain ⟨b0, b1, bz⟩ := box2 a2)
  refine bodyPost_ret (v := .tuple #[.agg #[.int .i64 0, .int .i64 0], .int .i64 2]) (by simp [results, Try.results40, go_sem, b0, b1]) rfl ?_
  exact ⟨rfl, by have := hg.size; go_grown⟩

theorem parent_none (w : World) (tb b : Nat) (O : Nat → Prop) (st : St) (i g : Int) (h : Tre w tb b O st) (h1 : st.pl.length ≤ 4096) (hn : st.names i g = false) :
    Calls Try.prog 40 #[.pointer (some ⟨tb, 0, none⟩), .agg #[.int .i64 i, .int .i64 g]] w (IsTwo 0 0 2 w) := by
  have N : Hid _ := fun w h => names w tb b O st i g h h1
  rw [hn] at N
  clear hn
  go_enter Try.func40, Try.ntmps40
  go_wp2_with (go_at_call 27; refine (N.out _ (h.fresh (alloc2 _ _ _))).mono ?_; rintro e w1 ⟨rfl, hg1⟩; obtain ⟨a0, a1, a2⟩ := four hg1 rfl; have hg := fresh_trans (alloc2 _ _ _) hg1; clear hg1; obtain ⟨b0, b1, bz⟩ := box2 a2)
  refine bodyPost_ret (v := .tuple #[.agg #[.int .i64 0, .int .i64 0], .int .i64 2]) (by simp [results, Try.results40, go_sem, b0, b1]) rfl ?_
  exact ⟨rfl, by have := hg.size; go_grown⟩
theorem parent_root (w : World) (tb b : Nat) (O : Nat → Prop) (st : St) (h : Tre w tb b O st) (h1 : st.pl.length ≤ 4096) (hn : st.names 0 0 = true) :
    Calls Try.prog 40 #[.pointer (some ⟨tb, 0, none⟩), .agg #[.int .i64 0, .int .i64 0]] w (IsTwo 0 0 12 w) := by
  have N : Hid _ := fun w h => names w tb b O st 0 0 h h1
  rw [hn] at N
  clear hn
  have R : Hid _ := fun w => root w 0 0
  rw [show isRoot 0 0 = true by decide] at R
  go_enter Try.func40, Try.ntmps40
  go_wp2_with (first
    | (go_at_call 27; refine (N.out _ (h.fresh (alloc2 _ _ _))).mono ?_; rintro e w1 ⟨rfl, hg1⟩; obtain ⟨a0, a1, a2⟩ := four hg1 rfl; have hg := fresh_trans (alloc2 _ _ _) hg1; clear hg1; obtain ⟨b0, b1, bz⟩ := box2 a2)
    | (go_at_call 28; refine (R.out _).mono ?_; rintro e w2 ⟨rfl, hg2⟩; replace a2 := heap_fresh a2 hg2; obtain ⟨d0, d1, dz⟩ := box2 a2; have hg3 := fresh_trans hg hg2; clear hg2))
  refine bodyPost_ret (v := .tuple #[.agg #[.int .i64 0, .int .i64 0], .int .i64 12]) (by simp [results, Try.results40, go_sem, d0, d1]) rfl ?_
  exact ⟨rfl, by have := hg3.size; go_grown⟩
set_option maxHeartbeats 4000000 in
theorem parent_some (w : World) (tb b : Nat) (O : Nat → Prop) (st : St) (i g : Int) (h : Tre w tb b O st) (h1 : st.pl.length ≤ 4096) (hn : st.names i g = true) (hr : isRoot i g = false) :
    Calls Try.prog 40 #[.pointer (some ⟨tb, 0, none⟩), .agg #[.int .i64 i, .int .i64 g]] w (IsTwo (st.thing i g) (st.tgen i g) 0 w) := by
  have N : Hid _ := fun w h => names w tb b O st i g h h1
  have G : Hid _ := fun w h => get w b (With O tb) st i g h h1
  rw [show st.err i g = 0 by simp [St.err, hn]] at G
  rw [hn] at N
  clear hn
  have R : Hid _ := fun w => root w i g
  rw [hr] at R
  clear hr
  generalize st.thing i g = x at *
  generalize st.tgen i g = y at *
  go_enter Try.func40, Try.ntmps40
  go_wp2_with (first
    | (go_at_call 27; refine (N.out _ (h.fresh (alloc2 _ _ _))).mono ?_; rintro e w1 ⟨rfl, hg1⟩; obtain ⟨a0, a1, a2⟩ := four hg1 rfl; have hg := fresh_trans (alloc2 _ _ _) hg1; clear hg1)
    | (go_at_call 28; refine (R.out _).mono ?_; rintro e w2 ⟨rfl, hg2⟩; replace a0 := cell_fresh a0 hg2; replace a1 := cell_fresh a1 hg2; replace a2 := heap_fresh a2 hg2; replace hg := fresh_trans hg hg2; clear hg2))
  have h2 := h.fresh hg
  have c0 := h2.cell
  go_region_with (go_at_call 51; refine (G.out _ (h2.pool.fresh ((Below.refl _ _).drew))).mono ?_; rintro e w3 ⟨rfl, hg3⟩; obtain ⟨b0, b1, bz⟩ := box2 (heap_fresh (w := w2.drew) a2 hg3); have hg4 := fresh_trans hg.drew hg3; clear hg3)
  all_goals
    go_wp2
    refine bodyPost_ret (v := .tuple #[.agg #[.int .i64 x, .int .i64 y], .int .i64 0]) (by simp [results, Try.results40, go_sem, b0, b1]) rfl ?_
    exact ⟨rfl, by have := hg4.size; go_grown⟩
end Go.Proofs.Ytanahddlnchioaa.Gt
