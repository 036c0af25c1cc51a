/- That a tree works at all (awake); a tree that is nil. Conditions: none. -/
import Derived.Test.YtanahddlnchioaaGtPath
import Derived.Test.YtanahddlnchioaaGtNew
namespace Go.Proofs.Ytanahddlnchioaa.Gt
open Go.ChangeShapes Go.WideShapes Go.ChangeAt Go.RowKit Hp
set_option linter.unusedVariables false
set_option linter.unusedSimpArgs false

theorem destroy_nil (w : World) (i g : Int) : Calls Try.prog 10 #[.pointer none, .agg #[.int .i64 i, .int .i64 g]] w (IsInt 2 w) := by
  go_enter Try.func10, Try.ntmps10
  go_wp2_with (go_at_call 27; refine (names_nil _ _ _).mono ?_; rintro e w1 ⟨rfl, hg1⟩; have hg := fresh_trans (alloc1 _ _) hg1; clear hg1)
  go_ret
  exact ⟨rfl, hg⟩
theorem move_nil (w : World) (i g j k : Int) : Calls Try.prog 12 #[.pointer none, .agg #[.int .i64 i, .int .i64 g], .agg #[.int .i64 j, .int .i64 k]] w (IsInt 2 w) := by
  go_enter Try.func12, Try.ntmps12
  go_wp2_with (go_at_call 27; refine (names_nil _ _ _).mono ?_; rintro e w1 ⟨rfl, hg1⟩; have hg := fresh_trans (alloc2 _ _ _) hg1; clear hg1)
  go_ret
  exact ⟨rfl, hg⟩
def IsNil (w : World) (e : Ending) (w' : World) : Prop := e = .returned (.slice none 0 0) ∧ Below w.heap.size w w'
theorem all_nil (w : World) : Calls Try.prog 16 #[.pointer none] w (IsNil w) := by
  go_enter Try.func16, Try.ntmps16
  go_wp2
  go_ret
  exact ⟨rfl, Below.refl _ w⟩
theorem those_nil (w : World) (f : Value) : Calls Try.prog 52 #[.pointer none, f] w (IsNil w) := by
  go_enter Try.func52, Try.ntmps52
  go_wp2_with (go_at_call 16; refine (all_nil _).mono ?_; rintro e w1 ⟨rfl, hg⟩)
  refine wp_loop_rounds 1 ?_
  rw [rounds_succ]
  go_wp2
  go_ret
  exact ⟨rfl, hg⟩
theorem kids_nil (w : World) (i g : Int) : Calls Try.prog 29 #[.pointer none, .agg #[.int .i64 i, .int .i64 g]] w (IsNil w) := by
  have hmf : ∀ (fn : Fn) (first cap : Array Value) (w : World), (Instr.makeFunc fn first cap).run Try.prog w = .ok (.func fn first cap) w := fun _ _ _ _ => rfl
  go_enter Try.func29, Try.ntmps29
  go_wp2_with (go_at_call 52; refine (those_nil _ _).mono ?_; rintro e w1 ⟨rfl, hg1⟩; have hg := fresh_trans (alloc2 _ _ _) hg1; clear hg1)
  go_ret
  exact ⟨rfl, hg⟩
theorem below_nil (w : World) (i g : Int) : Calls Try.prog 43 #[.pointer none, .agg #[.int .i64 i, .int .i64 g]] w (IsNil w) := by
  have hmf : ∀ (fn : Fn) (first cap : Array Value) (w : World), (Instr.makeFunc fn first cap).run Try.prog w = .ok (.func fn first cap) w := fun _ _ _ _ => rfl
  go_enter Try.func43, Try.ntmps43
  go_wp2_with (go_at_call 52; refine (those_nil _ _).mono ?_; rintro e w1 ⟨rfl, hg1⟩; have hg := fresh_trans (alloc2 _ _ _) hg1; clear hg1)
  go_ret
  exact ⟨rfl, hg⟩

/-- Move where the new place is below what is moved. -/
theorem move_loop (w : World) (tb b : Nat) (O : Nat → Prop) (st : St) (i g j k : Int) (l : List (Int × Int)) (h : Tre w tb b O st) (h1 : st.pl.length ≤ 4096) (hn : st.names i g = true) (hr : isRoot i g = false) (hu : Ups st j k l) (hin : isIn j k i g l = true) :
    Calls Try.prog 12 #[.pointer (some ⟨tb, 0, none⟩), .agg #[.int .i64 i, .int .i64 g], .agg #[.int .i64 j, .int .i64 k]] w (IsInt 10 w) := by
  have N : Hid _ := fun w h => names w tb b O st i g h h1
  have M : Hid _ := fun w h => names w tb b O st j k h h1
  have U : Hid _ := fun w h => under w tb b O st j k i g l h h1 hu
  have R : Hid _ := fun w => root w i g
  rw [hn, hin] at U
  rw [hr] at R
  rw [hn] at N
  rw [hu.named] at M
  clear hn hin hu hr
  go_enter Try.func12, Try.ntmps12
  go_wp2_with fail
  go_at_call 27; refine (N.out _ (h.fresh (alloc2 _ _ _))).mono ?_; rintro e w1 ⟨rfl, hg1⟩; obtain ⟨a0, a1, a2⟩ := four hg1 rfl; obtain ⟨b0, b1, bz⟩ := box2 a2; have hg := fresh_trans (alloc2 _ _ _) hg1; clear hg1
  go_wp2_with fail
  go_at_call 27; refine (M.out _ (h.fresh hg)).mono ?_; rintro e w2 ⟨rfl, hg2⟩; replace a0 := cell_fresh a0 hg2; replace a1 := cell_fresh a1 hg2; replace b0 := cell_fresh b0 hg2; replace b1 := cell_fresh b1 hg2; replace hg := fresh_trans hg hg2; clear hg2
  go_wp2_with (first
    | (go_at_call 28; refine (R.out _).mono ?_; rintro e w3 ⟨rfl, hg2⟩; replace a0 := cell_fresh a0 hg2; replace a1 := cell_fresh a1 hg2; replace b0 := cell_fresh b0 hg2; replace b1 := cell_fresh b1 hg2; replace hg := fresh_trans hg hg2; clear hg2)
    | (go_at_call 19; refine (U.out _ (h.fresh hg)).mono ?_; rintro e w4 ⟨rfl, hg2⟩; have hg4 := fresh_trans hg hg2; clear hg2))
  go_ret
  exact ⟨rfl, hg4⟩

def Yes (w : World) (e : Ending) (w' : World) : Prop := e = .returned (.bool true) ∧ Below w.heap.size w w'
def st1 : St := ⟨32, [⟨0, 0, true, 0⟩, ⟨0, 0, true, 0⟩], []⟩
def st2 : St := ⟨32, [⟨0, 0, true, 0⟩, ⟨0, 0, true, 0⟩, ⟨1, 0, true, 0⟩], []⟩
theorem inv0 : Inv 0 st0 := ⟨by decide, by decide, by decide, by simp [st0], by simp [st0], by decide, by simp [st0]⟩
theorem inv1 : Inv 0 st1 := ⟨by decide, by decide, by decide, by simp [st1], by simp [st1], by decide, by simp [st1]⟩
theorem inv2 : Inv 0 st2 := ⟨by decide, by decide, by decide, by simp [st2], by simp [st2], by decide, by simp [st2]⟩
theorem ups0 : Ups st0 0 0 [] := .root (by decide)
theorem ups1 : Ups st1 1 0 [(0, 0)] := .step (by decide) (by decide) (.root (by decide))
theorem ups2 : Ups st2 2 0 [(1, 0), (0, 0)] := .step (by decide) (by decide) (.step (by decide) (by decide) (.root (by decide)))
theorem Same.heap {O : Nat → Prop} {w w' : World} (h : Same O w w') {k : Nat} {o : Obj} (hk : w.heap[k]? = some o) (hO : O k) : w'.heap[k]? = some o := (h.block k hO).trans hk
theorem create1 {w : World} {tb b : Nat} {O : Nat → Prop} (h : Tre w tb b O st0) (hO : ∀ k, O k → k < w.heap.size) :
    Calls Try.prog 8 #[.pointer (some ⟨tb, 0, none⟩), .agg #[.int .i64 0, .int .i64 0]] w (Did (.tuple #[.agg #[.int .i64 1, .int .i64 0], .int .i64 0]) st1 tb b O w) :=
  create_some w tb b O 0 st0 0 0 [] h inv0 hO ups0 (by decide)
theorem create2 {w : World} {tb b : Nat} {O : Nat → Prop} (h : Tre w tb b O st1) (hO : ∀ k, O k → k < w.heap.size) :
    Calls Try.prog 8 #[.pointer (some ⟨tb, 0, none⟩), .agg #[.int .i64 1, .int .i64 0]] w (Did (.tuple #[.agg #[.int .i64 2, .int .i64 0], .int .i64 0]) st2 tb b O w) :=
  create_some w tb b O 0 st1 1 0 [(0, 0)] h inv1 hO ups1 (by decide)
theorem path2 {w : World} {tb b : Nat} {O : Nat → Prop} (h : Tre w tb b O st2) :
    Calls Try.prog 18 #[.pointer (some ⟨tb, 0, none⟩), .agg #[.int .i64 2, .int .i64 0]] w (IsPath [1, 2] 0 w) :=
  path_some w tb b O st2 2 0 [(1, 0), (0, 0)] h (by decide) ups2 (by decide)
theorem path_two {w : World} {B : Nat} {v : Value} (h : w.ownsRow B 3 1 v 2 (ints [1, 2])) : ∃ g cap, v = .slice (some ⟨g, 0, none⟩) 2 cap ∧ w.cell? ⟨g, 0, none⟩ = some (.int .i64 1) ∧ w.cell? ⟨g, 1, none⟩ = some (.int .i64 2) := by
  obtain ⟨g, cap, rfl, _⟩ := h.form (by decide)
  exact ⟨g, cap, rfl, h.cellAt 0 (by decide), h.cellAt 1 (by decide)⟩

set_option maxRecDepth 100000 in
theorem awake (w : World) : Calls Try.prog 4 #[] w (Yes w) := by
  go_enter Try.func4, Try.ntmps4
  go_wp2_with fail
  go_at_call 5; refine (new_tree w).mono ?_; rintro e w1 ⟨tb, b, rfl, ht, hg⟩; have hz := hg.size
  go_wp2_with fail
  go_at_call 8; refine (create1 ht (fun k hk => by omega)).mono ?_; rintro e w2 ⟨rfl, ht2, hs2⟩
  replace hg := hg.trans hs2.below
  have ht3 := ht2.with (Nat.le_refl _) (alloc1 w2 (.cells #[.int .i64 1, .int .i64 0] 34))
  have hz2 := hg.size
  have hA := heap_alloc_new w2 (.cells #[.int .i64 1, .int .i64 0] 34)
  clear ht ht2 hs2
  go_wp2_with fail
  go_at_call 8; refine (create2 ht3 (by rintro k (hk | rfl) <;> simp <;> omega)).mono ?_; rintro e w3 ⟨rfl, ht4, hs3⟩
  replace hg := (hg.alloc hg.size _).trans (hs3.mono (fun k hk => Or.inl hk)).below
  replace hA := Same.heap hs3 hA (.inr rfl)
  clear hs3 ht3
  have hB := heap_alloc_new w3 (.cells #[.int .i64 2, .int .i64 0] 34)
  have hA2 := heap_fresh hA (alloc1 w3 (.cells #[.int .i64 2, .int .i64 0] 34))
  have ht5 := ht4.fresh (alloc1 w3 (.cells #[.int .i64 2, .int .i64 0] 34))
  replace hg := hg.alloc hg.size (.cells #[.int .i64 2, .int .i64 0] 34)
  clear ht4 hA hz hz2
  obtain ⟨p0, p1, pz⟩ := box2 hA2
  obtain ⟨q0, q1, qz⟩ := box2 hB
  go_wp2_with fail
  go_at_call 18; refine (path2 ht5).mono ?_; rintro e w4 ⟨v, rfl, ho, hg4⟩
  obtain ⟨gp, cp, rfl, v0, v1⟩ := path_two ho
  replace p0 := cell_fresh p0 hg4; replace p1 := cell_fresh p1 hg4; replace q0 := cell_fresh q0 hg4; replace q1 := cell_fresh q1 hg4
  replace ht5 := ht5.fresh hg4
  have hg5 := hg.trans (hg4.mono hg.size)
  clear hg4 hA2 hB ho hg
  generalize w2.heap.size = A at *
  generalize w3.heap.size = C at *
  go_wp2_with fail
  go_at_call 12; refine (move_loop w4 tb b _ st2 1 0 2 0 [(1, 0), (0, 0)] ht5 (by decide) (by decide) (by decide) ups2 (by decide)).mono ?_; rintro e w6 ⟨rfl, hg6⟩
  replace p0 := cell_fresh p0 hg6; replace p1 := cell_fresh p1 hg6; replace q0 := cell_fresh q0 hg6; replace q1 := cell_fresh q1 hg6
  replace ht5 := ht5.fresh hg6
  have hg7 := hg5.trans (hg6.mono hg5.size)
  clear hg6 hg5
  go_wp2_with fail
  go_at_call 19; refine (under w6 tb b _ st2 2 0 1 0 [(1, 0), (0, 0)] ht5 (by decide) ups2).mono ?_; rintro e w8 ⟨rfl, hg8⟩
  have hg9 := hg7.trans (hg8.mono hg7.size)
  rw [show (st2.names 1 0 && isIn 2 0 1 0 [(1, 0), (0, 0)]) = true by decide]
  go_wp2_with fail
  go_ret
  exact ⟨rfl, hg9⟩

end Go.Proofs.Ytanahddlnchioaa.Gt
