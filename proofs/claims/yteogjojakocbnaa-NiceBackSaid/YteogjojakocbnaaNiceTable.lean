/- What nice.Table and the document's table tell: the 40 weights, in memory of their own; and that both are the same. Conditions: none. -/
import Derived.Test.YteogjojakocbnaaNiceNear
import Derived.OwnWalk
namespace Go.Proofs.Yteogjojakocbnaa.Nice
open Go.RowKit Go.Shelf
attribute [local go_sem] Oper.semAt_some
set_option linter.unusedVariables false

/-- A slice of 40 words: each nice number's weight, in its turn. -/
def Cells (g : Nat) (W : World) : Prop := g < W.heap.size ∧ ∀ j : Nat, j < 40 → W.cell? ⟨g, j, none⟩ = some (.int .u64 (wgt ((j : Int) - 20)))
theorem Cells.on {g : Nat} {W W' : World} (h : Cells g W) (hB : Below W.heap.size W W') : Cells g W' :=
  ⟨Nat.lt_of_lt_of_le h.1 hB.size, fun j hj => (hB.cell (p := ⟨g, j, none⟩) h.1).trans (h.2 j hj)⟩
def Tab (w : World) (e : Ending) (w' : World) : Prop := ∃ g cap : Nat, e = .returned (.slice (some ⟨g, 0, none⟩) 40 cap) ∧ Cells g w' ∧ Below w.heap.size w w'

def words (k : Nat) : List Value := (List.range k).map fun (i : Nat) => Value.int .u64 (wgt ((i : Int) - 20))
theorem words_succ (k : Nat) : words (k + 1) = words k ++ [.int .u64 (wgt ((k : Int) - 20))] := by simp [words, List.range_succ]
theorem words_pairs (k : Nat) : (pairs k).map (fun p => Value.int .u64 p.2) = words k := by simp [pairs, words]
theorem tab_of {w W : World} {n₀ : Nat} {v : Value} (h : W.ownsRow n₀ 23 1 v 40 (words 40)) (hB : Below w.heap.size w W) : Tab w (.returned v) W := by
  obtain ⟨g, cap, rfl⟩ := ownsRow_succ h
  refine ⟨g, cap, rfl, ⟨?_, fun j hj => ?_⟩, hB⟩
  · rcases h.2 with ⟨h1, _⟩ | ⟨g', cap', cur, e, _, hh, _⟩
    · cases h1
    · cases e; exact (Array.getElem?_eq_some_iff.1 hh).1
  · rw [h.cellAt j (by omega)]
    simp [words, hj]

theorem info : (Try.prog.info? 23).map (fun i => (i.zero, i.size, i.bytes)) = some (some (.int .u64 0), 1, 8) := by kernel_rfl

set_option maxRecDepth 100000 in
set_option maxHeartbeats 2000000 in
theorem table_in (w : World) : CallsIn Fence.wide 2 Try.prog 14 #[] w (Tab w) := by
  obtain ⟨i0, hi, hz0, hz1, hz2⟩ := info_parts info
  refine callsIn_of_wp_marks Try.func14 rfl trivial ?_ rfl
  simp only [Try.ntmps14, List.size_toArray, List.length_nil, Nat.reduceSub, Array.replicate_succ, Array.replicate_zero, List.push_toArray, List.append_toArray, List.nil_append, List.cons_append]
  gi_wp2_with (gi_at_make; refine wpListIn_make_own _ rfl _ _ 28 rfl w.heap.size 23 i0 (.int .u64 0) 1 Try.underlying28 hi hz0 hz1 .i64 .i64 40 40 rfl rfl rfl (by omega) (by decide) (Nat.le_refl _) ?_; intro w1 hrow hgrow)
  have hB1 : Below w.heap.size w w1 := (Below.refl _ w).grown hgrow (Nat.le_refl _) (fun k e => by cases e)
  have bT := Boxed.new w1 28 (.slice (some ⟨w.heap.size, 0, none⟩) 0 40)
  have hz := hB1.size
  refine wpIn_rangeFunc_ownG (n := 2) rfl (by omega) (gf := 19) (lb := #[]) rfl trivial (enters_of Try.func19 (by kernel_rfl) rfl)
    (weights_stops (2 - 1) (by omega) _) (fun _ _ => trivial) (fun _ _ _ _ _ _ _ _ => trivial) (Below.refl _ _) (fun _ => rfl)
    (fun pre W => (∃ v, Boxed W w1.heap.size 28 v ∧ W.ownsRow w.heap.size 23 1 v pre.length (pre.map fun p => Value.int .u64 p.2) ∧ True) ∧ Below w.heap.size w W)
    (fun _ _ _ => False)
    (OwnFrom.and (Own.from (holdsRow_own w.heap.size w1.heap.size 28 23 1 (fun pre : List (Int × Int) => pre.length) (fun pre => pre.map fun p => Value.int .u64 p.2) (fun _ _ => True)) _) (ownFrom_below (Nat.le_refl _) (by simp; omega)))
    (fun _ _ _ _ _ hs _ _ => hs)
    ⟨⟨_, bT, hrow.alloc _, trivial⟩, hB1.alloc hz _⟩
    (fun p => { tmps := #[.slice none 0 0, .pointer (some ⟨w1.heap.size, 0, none⟩), undef, .int .u64 p.2, .slice (some ⟨w.heap.size, 0, none⟩) 0 40, .int .i64 p.1, .int .u64 p.2, undef, undef, undef, undef, undef], defers := [] }) ?assign ?body ?done ?stop
  case assign =>
    intro l p W K hK
    gi_wp2
    exact hK
  case body =>
    rintro l pre p W ⟨⟨v, hv, hrow, _⟩, hB⟩ hlt
    have hc := hv.cell
    gi_wp2_with (gi_at_builtin; refine wpListIn_append_own _ rfl _ _ 28 rfl w.heap.size 23 i0 (.int .u64 0) 1 8 Try.underlying28 hi hz0 hz1 hz2 rfl (by decide) _ _ _ rfl (hrow.alloc _) ⟨W.heap.size, 0, none⟩ 1 1 [.int .u64 p.2] rfl rfl (cell_one_new _ _ _) (by simp [Value.oneCell']) (by simp only [maxLen]; omega) (by omega) (by have := hB.size; simp; omega) ?_; intro v' w2 hown' hgrow _; obtain ⟨g', cap', rfl⟩ := ownsRow_succ hown'; obtain ⟨hv1, hv2, hr2, hk2, hb2⟩ := hv.appended (by decide) hrow hB.size hz hown' hgrow; have hc1 := hv1.cell; have hf1 := hv1.frozen)
    exact ⟨hk2.from _, trivial, ⟨_, hv2, by simpa using hr2, trivial⟩, hB.trans hb2⟩
  case done =>
    rintro D ys W hD rfl ⟨⟨v, hv, hrow, _⟩, hB⟩ hK
    have hc := hv.cell
    gi_wp2
    refine ⟨by simp, .inl ⟨_, _, rfl, run_takeDeferred hK, ?_⟩⟩
    refine ⟨_, results_tmp rfl _ _ _, ?_⟩
    rw [pairs_length, words_pairs] at hrow
    exact tab_of (ownsRow_putObj hrow _ hK rfl) (hB.trans (belowK_b (w := w) (Nat.le_refl _) W D _ _ (by simp at hD; omega) hK rfl rfl))
  case stop =>
    rintro D c pre W _ _ h _
    exact h.elim
theorem table (w : World) : Calls Try.prog 14 #[] w (Tab w) := callsIn_wide.1 (table_in w)
end Go.Proofs.Yteogjojakocbnaa.Nice
