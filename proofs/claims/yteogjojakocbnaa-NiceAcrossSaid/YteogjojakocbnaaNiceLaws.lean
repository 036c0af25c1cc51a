/- The walks of the statements of package nice. Conditions: each argument is a number of its kind. -/
import Derived.Test.YteogjojakocbnaaNiceSame
namespace Go.Proofs.Yteogjojakocbnaa.Nice
open Go.ChangeShapes Go.WideShapes Go.ChangeAt Go.RowKit
set_option linter.unusedVariables false

theorem awake (w : World) : Calls Try.prog 10 #[] w (BoolFresh true w) := by
  have e1 : wt 0 = 1024 := by decide +kernel
  have e2 : er 0 = 0 := by decide +kernel
  have e3 : wt (-1) = 1280 := by decide +kernel
  have e4 : er (-1) = 0 := by decide +kernel
  have e5 : nst 1025 = -1 := by decide +kernel
  have m1 := Lib.hid (fun w => weight 0 w)
  have m2 := Lib.hid (fun w => weight (-1) w)
  have m3 := Lib.hid (fun w => nearest 1025 w)
  rw [e1, e2] at m1
  rw [e3, e4] at m2
  rw [e5] at m3
  clear e1 e2 e3 e4 e5
  have hg := Below.refl w.heap.size w
  go_enter Try.func10, Try.ntmps10
  go_wp2_with (first
    | (go_at_call 11; first | ((with_reducible refine (m1.out _).mono ?_); rintro e w1 ⟨rfl, hg1⟩; replace hg := Wide.fresh_trans hg hg1; clear hg1) | ((with_reducible refine (m2.out _).mono ?_); rintro e w1 ⟨rfl, hg1⟩; replace hg := Wide.fresh_trans hg hg1; clear hg1))
    | (go_at_call 16; refine (m3.out _).mono ?_; rintro e w1 ⟨rfl, hg1⟩; replace hg := Wide.fresh_trans hg hg1; clear hg1))
  go_ret
  exact boolfresh_of rfl hg

theorem weightsLaw (n : Int) (w : World) : Calls Try.prog 3 #[.int .i64 n] w (BoolFresh true w) := by
  have m1 := Lib.hid (fun w => weight n w)
  have m2 := Lib.hid (fun w => refWeight n w)
  generalize wt n = a at m1 m2
  generalize er n = b at m1 m2
  have hg := Below.refl w.heap.size w
  go_enter Try.func3, Try.ntmps3
  go_wp2_with (first
    | (go_at_call 10; refine (awake _).mono ?_; rintro e w1 ⟨rfl, hg1⟩; replace hg := Wide.fresh_trans hg hg1; clear hg1)
    | (go_at_call 11; refine (m1.out _).mono ?_; rintro e w1 ⟨rfl, hg1⟩; replace hg := Wide.fresh_trans hg hg1; clear hg1)
    | (go_at_call 12; refine (m2.out _).mono ?_; rintro e w1 ⟨rfl, rfl⟩)
    | (go_at_call 14; refine (table _).mono ?_; rintro e w1 ⟨g1, c1, rfl, hc1, hg1⟩; replace hg := Wide.fresh_trans hg hg1; clear hg1)
    | (go_at_call 15; refine (refTable _).mono ?_; rintro e w1 ⟨g2, c2, rfl, hc2, hg1⟩; replace hg := Wide.fresh_trans hg hg1; replace hc1 := hc1.on hg1; clear hg1)
    | (go_at_call 13; refine (same _ _ _ _ _ hc1 hc2).mono ?_; rintro e w1 ⟨rfl, hg1⟩; replace hg := Wide.fresh_trans hg hg1; clear hg1))
  go_ret
  exact boolfresh_of rfl hg

theorem nearestLaw (x : Int) (w : World) : Calls Try.prog 4 #[.int .u64 x] w (BoolFresh true w) := by
  have m1 := Lib.hid (fun w => nearest x w)
  have m2 := Lib.hid (fun w => refNearest x w)
  generalize nst x = a at m1 m2
  have hg := Below.refl w.heap.size w
  go_enter Try.func4, Try.ntmps4
  go_wp2_with (first
    | (go_at_call 10; refine (awake _).mono ?_; rintro e w1 ⟨rfl, hg1⟩; replace hg := Wide.fresh_trans hg hg1; clear hg1)
    | (go_at_call 16; refine (m1.out _).mono ?_; rintro e w1 ⟨rfl, hg1⟩; replace hg := Wide.fresh_trans hg hg1; clear hg1)
    | (go_at_call 17; refine (m2.out _).mono ?_; rintro e w1 ⟨rfl, rfl⟩))
  go_ret
  exact boolfresh_of rfl hg
end Go.Proofs.Yteogjojakocbnaa.Nice
