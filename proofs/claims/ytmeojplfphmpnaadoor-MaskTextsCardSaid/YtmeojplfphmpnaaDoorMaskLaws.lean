/- The walks of layer 9's laws over package mask alone: the example that stands at each one's head, and MaskBack. Conditions: the arguments are of their kinds; the listed table holds what it is listed with. -/
import Derived.Test.YtmeojplfphmpnaaDoorMaskText
import Derived.Test.YtmeojplfphmpnaaDoorMaskParse
import Derived.Test.YtmeojplfphmpnaaDoorMaskOnes
import Derived.Test.YtmeojplfphmpnaaDoorMaskBackP
namespace Go.Proofs.YtmeojplfphmpnaaDoor.Mask
open Go.ChangeShapes Go.WideShapes Go.ChangeAt Go.RowKit
set_option linter.unusedVariables false
set_option linter.unusedSimpArgs false
set_option maxRecDepth 100000

theorem fresh_trans {a b c : World} (h : Below a.heap.size a b) (k : Below b.heap.size b c) : Below a.heap.size a c := h.trans (k.mono h.size)

def IsYes (w : World) (e : Ending) (w' : World) : Prop := e = .returned (.bool true) ∧ Below w.heap.size w w'

theorem text143 : text 143 = [48, 45, 51, 44, 55] := by decide +kernel
theorem parse143 : parse [48, 45, 51, 44, 55] = (143, 0) := by decide +kernel
theorem ones143 : ones 143 = 5 := by decide +kernel

/-- The document's example. -/
theorem awake (w : World) (hT : Tab w) : Calls Tryd.prog 10 #[] w (IsYes w) := by
  have P0 := Lib.hid (fun w => Parse ⟨#[48, 45, 51, 44, 55]⟩ [48, 45, 51, 44, 55] rfl w)
  have T0 := Lib.hid (fun (w : World) (h : Tab w) => Text 143 (by decide) w h)
  have C0 := Lib.hid (fun w => count 143 (by decide) w)
  unfold IsParse at P0
  unfold IsStr at T0
  rw [parse143] at P0
  rw [text143] at T0
  rw [ones143] at C0
  have hg := Below.refl w.heap.size w
  go_enter Tryd.func10, Tryd.ntmps10
  go_wp2_with (first
    | (go_at_call 11; refine (P0.out _).mono ?_; rintro e w1 ⟨rfl, hg1⟩; replace hg := fresh_trans hg hg1; clear hg1)
    | (go_at_call 14; refine (T0.out _ (hT.fresh hg)).mono ?_; rintro e w1 ⟨rfl, hg1⟩; replace hg := fresh_trans hg hg1; clear hg1)
    | (go_at_call 22; refine (C0.out _).mono ?_; rintro e w1 ⟨rfl, rfl⟩))
  go_ret
  exact ⟨rfl, hg⟩

theorem back (m : Nat) (hm : m < 18446744073709551616) (w : World) (hT : Tab w) : Calls Tryd.prog 5 #[.int .u64 m] w (IsYes w) := by
  have A0 := Lib.hid (fun (w : World) (h : Tab w) => awake w h)
  have P0 := Lib.hid (fun w => Parse ⟨(text m).toArray⟩ (text m) rfl w)
  have T0 := Lib.hid (fun (w : World) (h : Tab w) => Text m hm w h)
  unfold IsParse at P0
  rw [parse_text m hm] at P0
  have hg := Below.refl w.heap.size w
  go_enter Tryd.func5, Tryd.ntmps5
  go_wp2_with (first
    | (go_at_call 10; refine (A0.out _ (hT.fresh hg)).mono ?_; rintro e w1 ⟨rfl, hg1⟩; replace hg := fresh_trans hg hg1; clear hg1)
    | (go_at_call 11; refine (P0.out _).mono ?_; rintro e w1 ⟨rfl, hg1⟩; replace hg := fresh_trans hg hg1; clear hg1)
    | (go_at_call 14; refine (T0.out _ (hT.fresh hg)).mono ?_; rintro e w1 ⟨rfl, hg1⟩; replace hg := fresh_trans hg hg1; clear hg1))
  go_ret
  exact ⟨by simp, hg⟩

theorem u64_nat {a : Int} (h : (Lit.int .u64 a).wf = true) : ∃ m : Nat, a = m ∧ m < 18446744073709551616 := by
  have : 0 ≤ a ∧ a ≤ 18446744073709551615 := by simpa [Lit.wf, IntKind.min, IntKind.max, IntKind.signed, IntKind.bits] using h
  exact ⟨a.toNat, by omega, by omega⟩
theorem back' (a : Int) (h : (Lit.int .u64 a).wf = true) (w : World) (hT : Tab w) : Calls Tryd.prog 5 #[.int .u64 a] w (IsYes w) := by
  obtain ⟨m, rfl, hm⟩ := u64_nat h
  exact back m hm w hT
end Go.Proofs.YtmeojplfphmpnaaDoor.Mask
