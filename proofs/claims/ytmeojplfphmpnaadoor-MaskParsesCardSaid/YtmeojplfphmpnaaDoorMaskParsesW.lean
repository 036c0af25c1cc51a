/- The law MaskParses, walked. Conditions: the text is of at most 2^47 - 4096 bytes; the listed table holds what it is listed with. -/
import Derived.Test.YtmeojplfphmpnaaDoorMaskRefP
namespace Go.Proofs.YtmeojplfphmpnaaDoor.Mask
open Go.ChangeShapes Go.WideShapes Go.ChangeAt Go.RowKit
set_option linter.unusedVariables false
set_option linter.unusedSimpArgs false
set_option maxRecDepth 100000

theorem parses_as (s : ByteArray) (m e : Int) (w : World) (hT : Tab w) (PA : Hid (∀ w, Calls Tryd.prog 11 #[.string s] w (fun en w' => en = .returned (.tuple #[.int .u64 m, .int .i64 e]) ∧ Below w.heap.size w w')))
    (PB : Hid (∀ w, Calls Tryd.prog 12 #[.string s] w (fun en w' => en = .returned (.tuple #[.int .u64 m, .int .i64 e]) ∧ Below w.heap.size w w'))) : Calls Tryd.prog 3 #[.string s] w (IsYes w) := by
  have A0 := Lib.hid (fun (w : World) (h : Tab w) => awake w h)
  have hg := Below.refl w.heap.size w
  go_enter Tryd.func3, Tryd.ntmps3
  go_wp2_with (first
    | (go_at_call 10; refine (A0.out _ (hT.fresh hg)).mono ?_; rintro e w1 ⟨rfl, hg1⟩; replace hg := fresh_trans hg hg1; clear hg1)
    | (go_at_call 11; refine (PA.out _).mono ?_; rintro e w1 ⟨rfl, hg1⟩; replace hg := fresh_trans hg hg1; clear hg1)
    | (go_at_call 12; refine (PB.out _).mono ?_; rintro e w1 ⟨rfl, hg1⟩; replace hg := fresh_trans hg hg1; clear hg1))
  go_ret
  exact ⟨by simp, hg⟩

theorem size_of_room {s : ByteArray} (h : s.data.toList.length ≤ reachBytes) : s.size ≤ 140737488351232 := by
  have hR : reachBytes = 140737488351232 := rfl
  rw [hR] at h
  simpa using h

theorem parses (s : ByteArray) (h : s.data.toList.length ≤ reachBytes) (w : World) (hT : Tab w) : Calls Tryd.prog 3 #[.string s] w (IsYes w) :=
  parses_as s ((parse s.data.toList).1 : Int) (parse s.data.toList).2 w hT (Lib.hid (fun w => Parse s s.data.toList rfl w)) (Lib.hid (fun w => docParse s s.data.toList rfl (size_of_room h) w))
end Go.Proofs.YtmeojplfphmpnaaDoor.Mask
