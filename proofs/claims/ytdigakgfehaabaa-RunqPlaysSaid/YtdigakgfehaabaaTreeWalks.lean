/- What Walk of package rbtree answers. Conditions: there are no more than a thousand keys. -/
import Derived.Test.YtdigakgfehaabaaTreeWalk
namespace Go.Proofs.Ytdigakgfehaabaa.Queue
open Go.ChangeShapes Go.WideShapes Go.ChangeAt Go.RowKit Tree
set_option linter.unusedVariables false
set_option linter.unusedSimpArgs false
set_option maxRecDepth 100000

set_option maxHeartbeats 4000000 in
theorem Walks (w : World) (t : Nat) (T : Tr) (O : Nat → Prop) (h : Top w t T) (hO : ∀ k, O k → k < w.heap.size) (hb : ∀ b ∈ T.bl, O b) (hl : T.keys.length ≤ 1000) :
    Calls Try.prog 72 #[.pointer (some ⟨t, 0, none⟩)] w (Fills O T.keys.length (cellsK T.keys) w) := by
  obtain ⟨c0, c1, fz⟩ := h.cells
  have ht := h.lt
  obtain ⟨i0, hi, hz0, hz1, hz2⟩ := info_parts infoK
  obtain ⟨w1, hmk, hown, hgr⟩ := run_make_own (P := Try.prog) w.drew 0 103 76 i0 _ 2 Try.underlying103 hi hz0 hz1 .i64 .i64 T.keys.length (by rw [hz2]; omega) (by unfold maxLen; omega) (Nat.zero_le _)
  have hg : Below w.heap.size w w1 := ⟨hgr.os, hgr.tape, hgr.output, hgr.size, fun b hb => hgr.block b hb (by simp)⟩
  have hrow : Row w1 O 76 2 (.slice (some ⟨w.heap.size, 0, none⟩) 0 T.keys.length) 0 [] := ⟨hown, fun k hk e => by
    simp [Value.ownBlock] at hk
    have := hO k e
    omega⟩
  have WK := Lib.hid (walks T w1 O _ 0 [] (h.2.fresh hg) hb (fun k hk => Nat.lt_of_lt_of_le (hO k hk) hg.size) hrow (by omega))
  have x0 := (hg.cell (p := ⟨t, 0, none⟩) ht).trans c0
  have x1 := (hg.cell (p := ⟨t, 1, none⟩) ht).trans c1
  have SO := Lib.hid (Same.of hg hO)
  rw [Nat.zero_add, List.nil_append] at WK
  clear h hb hown hgr hrow hz0 hz1 hz2 hi
  have hdz : w.drew.heap.size = w.heap.size := rfl
  rw [hdz] at hmk
  generalize T.keys.length = len at *
  generalize T.at = ta at *
  go_enter Try.func72, Try.ntmps72
  go_wp2_with fail
  go_region_with (go_at_call 85; refine (WK.out).mono ?_; rintro e w2 ⟨v2, rfl, hr2, hs2⟩)
  all_goals
    go_wp2_with fail
    go_ret
    exact ⟨v2, rfl, hr2, SO.out.trans hs2⟩
end Go.Proofs.Ytdigakgfehaabaa.Queue
