/- Whether another one is to be served: package percpu's answer, and the document's. Conditions: each argument is a number of its kind. -/
import Derived.Test.YtfbnnkmjnolnlaaFixDocH
import Derived.Test.YtfbnnkmjnolnlaaTurnMem
import Derived.Deep.QuietTactic
import Derived.BigQuiet
import Derived.BigRegion
import Derived.Deep.RegionWith
import Derived.Deep.RegionHeld3
namespace Go.Proofs.Ytfbnnkmjnolnlaa.Turn
open Go.ChangeShapes Go.WideShapes Go.ChangeAt Go.RowKit Mem
open Fix (I64)
set_option linter.unusedVariables false
set_option linter.unusedSimpArgs false

def better (a b g : Int) : Bool := decide (Fix.ends (b + Fix.hold g 0 1099511627776) < a)
def entV (i x v r : Int) : Value := .agg #[.int .i64 i, .int .u64 x, .int .i64 v, .int .u64 r]
theorem betters (w : World) (i x a r j y b s g : Int) (hb : I64 b) (hg : I64 g) :
    Calls Try.prog 23 #[entV i x a r, entV j y b s, .int .i64 g] w (Fresh (.bool (better a b g)) w) := by
  have H := Lib.hid (fun W => Fix.holds g 0 1099511627776 W)
  have S := Lib.hid (fun W => Fix.sat b (Fix.hold g 0 1099511627776) W hb (Fix.i64_hold hg (by simp [I64]) (by simp [I64])))
  unfold better entV
  generalize Fix.ends (b + Fix.hold g 0 1099511627776) = q at *
  generalize Fix.hold g 0 1099511627776 = p at *
  have hw : Below w.heap.size w ((w.alloc (.cells #[.int .i64 i, .int .u64 x, .int .i64 a, .int .u64 r] 46)).alloc (.cells #[.int .i64 j, .int .u64 y, .int .i64 b, .int .u64 s] 46)) := (alloc1 w _).alloc (by simp) _
  have n1 := heap_alloc_new w (.cells #[.int .i64 i, .int .u64 x, .int .i64 a, .int .u64 r] 46 (0, 0))
  have n2 := heap_alloc_new (w.alloc (.cells #[.int .i64 i, .int .u64 x, .int .i64 a, .int .u64 r] 46)) (.cells #[.int .i64 j, .int .u64 y, .int .i64 b, .int .u64 s] 46 (0, 0))
  obtain ⟨-, -, a2, -, -⟩ := four (box_new (o' := .cells #[.int .i64 j, .int .u64 y, .int .i64 b, .int .u64 s] 46 (0, 0)) n1)
  obtain ⟨-, -, b2, -, -⟩ := four n2
  rw [show (w.alloc (.cells #[.int .i64 i, .int .u64 x, .int .i64 a, .int .u64 r] 46)).heap.size = w.heap.size + 1 by simp] at b2
  clear n1 n2
  go_enter Try.func23, Try.ntmps23
  go_wp2
  generalize ((w.alloc (.cells #[.int .i64 i, .int .u64 x, .int .i64 a, .int .u64 r] 46)).alloc (.cells #[.int .i64 j, .int .u64 y, .int .i64 b, .int .u64 s] 46)) = W at *
  have HA := Lib.hid (fun W1 (hg : Below W.heap.size W W1) => (cell_fresh a2 hg))
  have HB := Lib.hid (fun W1 (hg : Below W.heap.size W W1) => (cell_fresh b2 hg))
  go_region_held3 (fun w' => w'.cell? ⟨w.heap.size, 2, none⟩ = some (.int .i64 a) ∧ w'.cell? ⟨w.heap.size + 1, 2, none⟩ = some (.int .i64 b)) (first | exact ⟨a2, b2⟩ | exact ⟨a3, b3⟩)
    (first
      | (go_at_call 31; refine (H.out _).mono ?_; rintro e w1 ⟨rfl, rfl⟩)
      | (go_at_call 30; refine (S.out _).mono ?_; rintro e w2 ⟨rfl, hg2⟩; replace hg2 : Below W.heap.size W w2 := (by first | exact hg2 | exact ⟨hg2.os, hg2.tape, hg2.output, hg2.size, hg2.block⟩); have a3 := HA.out _ hg2; have b3 := HB.out _ hg2))
  all_goals
    go_wp2
    go_ret
    exact ⟨rfl, fresh_trans hw (by first | exact hg2 | exact hg2.drew)⟩
theorem refBetter (w : World) (i x a r j y b s g : Int) (hb : I64 b) (hg : I64 g) :
    Calls Try.prog 24 #[entV i x a r, entV j y b s, .int .i64 g] w (Fresh (.bool (better a b g)) w) := by
  have H := Lib.hid (fun W => Fix.refHold g 0 1099511627776 W)
  have S := Lib.hid (fun W => (Fix.refSat b (Fix.hold g 0 1099511627776) W hb (Fix.i64_hold hg (by simp [I64]) (by simp [I64]))).mono (R' := Fix.OneB (Fix.ends (b + Fix.hold g 0 1099511627776)) W) (fun e w' h => ⟨h.1, h.2 ▸ Below.refl _ _⟩))
  unfold better entV
  generalize Fix.ends (b + Fix.hold g 0 1099511627776) = q at *
  generalize Fix.hold g 0 1099511627776 = p at *
  have hw : Below w.heap.size w ((w.alloc (.cells #[.int .i64 i, .int .u64 x, .int .i64 a, .int .u64 r] 46)).alloc (.cells #[.int .i64 j, .int .u64 y, .int .i64 b, .int .u64 s] 46)) := (alloc1 w _).alloc (by simp) _
  have n1 := heap_alloc_new w (.cells #[.int .i64 i, .int .u64 x, .int .i64 a, .int .u64 r] 46 (0, 0))
  have n2 := heap_alloc_new (w.alloc (.cells #[.int .i64 i, .int .u64 x, .int .i64 a, .int .u64 r] 46)) (.cells #[.int .i64 j, .int .u64 y, .int .i64 b, .int .u64 s] 46 (0, 0))
  obtain ⟨-, -, a2, -, -⟩ := four (box_new (o' := .cells #[.int .i64 j, .int .u64 y, .int .i64 b, .int .u64 s] 46 (0, 0)) n1)
  obtain ⟨-, -, b2, -, -⟩ := four n2
  rw [show (w.alloc (.cells #[.int .i64 i, .int .u64 x, .int .i64 a, .int .u64 r] 46)).heap.size = w.heap.size + 1 by simp] at b2
  clear n1 n2
  go_enter Try.func24, Try.ntmps24
  go_wp2
  generalize ((w.alloc (.cells #[.int .i64 i, .int .u64 x, .int .i64 a, .int .u64 r] 46)).alloc (.cells #[.int .i64 j, .int .u64 y, .int .i64 b, .int .u64 s] 46)) = W at *
  have HA := Lib.hid (fun W1 (hg : Below W.heap.size W W1) => (cell_fresh a2 hg))
  have HB := Lib.hid (fun W1 (hg : Below W.heap.size W W1) => (cell_fresh b2 hg))
  go_region_held3 (fun w' => w'.cell? ⟨w.heap.size, 2, none⟩ = some (.int .i64 a) ∧ w'.cell? ⟨w.heap.size + 1, 2, none⟩ = some (.int .i64 b)) (first | exact ⟨a2, b2⟩ | exact ⟨a3, b3⟩)
    (first
      | (go_at_call 33; refine (H.out _).mono ?_; rintro e w1 ⟨rfl, rfl⟩)
      | (go_at_call 32; refine (S.out _).mono ?_; rintro e w2 ⟨rfl, hg2⟩; replace hg2 : Below W.heap.size W w2 := (by first | exact hg2 | exact ⟨hg2.os, hg2.tape, hg2.output, hg2.size, hg2.block⟩); have a3 := HA.out _ hg2; have b3 := HB.out _ hg2))
  all_goals
    go_wp2
    go_ret
    exact ⟨rfl, fresh_trans hw (by first | exact hg2 | exact hg2.drew)⟩
end Go.Proofs.Ytfbnnkmjnolnlaa.Turn
