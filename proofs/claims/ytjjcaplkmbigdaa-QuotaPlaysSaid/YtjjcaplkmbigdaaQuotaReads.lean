/- What the calls of package quota that only read answer. Conditions: none. -/
import Derived.Test.YtjjcaplkmbigdaaQuotaMem
import Derived.Test.YtjjcaplkmbigdaaFixFew
import Derived.Handy
import Derived.IntWalk
import Derived.Deep.QuietTactic
import Derived.BigQuiet
import Derived.BigRegion
import Derived.Deep.RegionWith
import Derived.Deep.RegionHeld3
import Derived.LoopTactic
import Derived.Lib.Hide
import Derived.Deep.Cut
import Derived.Deep.DeepCutAuto
import Derived.Deep.CutBlock
import Derived.Deep.RegionLaw
namespace Go.Proofs.Ytjjcaplkmbigdaa.Quota
open Go.ChangeShapes Go.WideShapes Go.ChangeAt Go.RowKit Mem
set_option linter.unusedVariables false
set_option linter.unusedSimpArgs false

/-- An answer, and nothing else. -/
def Still (v : Value) (w : World) (e : Ending) (w' : World) : Prop := e = .returned v ∧ w = w'

theorem here_in {d : Bd} {p : Int} (h : here d p = true) : ∃ k : Nat, p = k ∧ k < d.loc.length := by
  simp only [here, Bool.and_eq_true, decide_eq_true_eq] at h
  exact ⟨p.toNat, by omega, by omega⟩
theorem here_nat {d : Bd} {k : Nat} (h : k < d.loc.length) : here d k = true := by simp [here]; omega

section
variable (w : World) (b : Nat) (O : Nat → Prop) (d : Bd) (p : Int)
theorem has_nil : Calls Try.prog 31 #[.pointer none, .int .i64 p] w (Still (.bool false) w) := by
  go_enter Try.func31, Try.ntmps31
  go_wp2
  go_ret; exact ⟨rfl, rfl⟩
theorem has (h : Band w b O d) : Calls Try.prog 31 #[.pointer (some ⟨b, 0, none⟩), .int .i64 p] w (Still (.bool (here d p)) w) := by
  obtain ⟨g, h⟩ := h
  obtain ⟨c0, c1, c2, c3, c4, fz⟩ := h.cells
  clear h
  by_cases h1 : p < 0
  · rw [show here d p = false by simp [here]; omega]
    have h2 : decide (0 ≤ p) = false := by simpa using h1
    go_enter Try.func31, Try.ntmps31
    go_wp2
    go_ret; exact ⟨rfl, rfl⟩
  · rw [show here d p = decide (p < d.loc.length) by simp [here]; omega]
    generalize d.loc.length = n at *
    have h2 : decide (0 ≤ p) = true := by simpa using h1
    go_enter Try.func31, Try.ntmps31
    go_wp2
    go_ret; exact ⟨rfl, rfl⟩

theorem limited_nil : Calls Try.prog 30 #[.pointer none] w (Still (.bool false) w) := by
  go_enter Try.func30, Try.ntmps30
  go_wp2
  go_ret; exact ⟨rfl, rfl⟩
theorem limited (h : Band w b O d) : Calls Try.prog 30 #[.pointer (some ⟨b, 0, none⟩)] w (Still (.bool (lim d)) w) := by
  obtain ⟨g, h⟩ := h
  obtain ⟨c0, c1, c2, c3, c4, fz⟩ := h.cells
  clear h
  unfold lim
  generalize d.q = q at *
  go_enter Try.func30, Try.ntmps30
  go_wp2
  go_ret; exact ⟨rfl, rfl⟩

theorem pool_nil : Calls Try.prog 28 #[.pointer none] w (Still (.int .i64 0) w) := by
  go_enter Try.func28, Try.ntmps28
  go_wp2
  go_ret; exact ⟨rfl, rfl⟩
theorem pool (h : Band w b O d) : Calls Try.prog 28 #[.pointer (some ⟨b, 0, none⟩)] w (Still (.int .i64 d.p) w) := by
  obtain ⟨g, h⟩ := h
  obtain ⟨c0, c1, c2, c3, c4, fz⟩ := h.cells
  clear h
  go_enter Try.func28, Try.ntmps28
  go_wp2
  go_ret; exact ⟨rfl, rfl⟩
theorem spent_nil : Calls Try.prog 26 #[.pointer none] w (Still (.int .i64 0) w) := by
  go_enter Try.func26, Try.ntmps26
  go_wp2
  go_ret; exact ⟨rfl, rfl⟩
theorem spent (h : Band w b O d) : Calls Try.prog 26 #[.pointer (some ⟨b, 0, none⟩)] w (Still (.int .i64 d.sp) w) := by
  obtain ⟨g, h⟩ := h
  obtain ⟨c0, c1, c2, c3, c4, fz⟩ := h.cells
  clear h
  go_enter Try.func26, Try.ntmps26
  go_wp2
  go_ret; exact ⟨rfl, rfl⟩

theorem local_nil : Calls Try.prog 29 #[.pointer none, .int .i64 p] w (Still (.int .i64 0) w) := by
  go_enter Try.func29, Try.ntmps29
  go_wp2_with (go_at_call 31; refine (has_nil _ _).mono ?_; rintro e w1 ⟨rfl, rfl⟩)
  go_ret; exact ⟨rfl, rfl⟩
theorem locals (h : Band w b O d) : Calls Try.prog 29 #[.pointer (some ⟨b, 0, none⟩), .int .i64 p] w (Still (.int .i64 (d.local p)) w) := by
  have C := Lib.hid (has w b O d p h)
  cases hh : here d p
  · rw [show d.local p = 0 by simp [Bd.local, hh]]
    rw [hh] at C
    clear h
    go_enter Try.func29, Try.ntmps29
    go_wp2_with (go_at_call 31; refine C.out.mono ?_; rintro e w1 ⟨rfl, rfl⟩)
    go_ret; exact ⟨rfl, rfl⟩
  · rw [show d.local p = d.at p.toNat by simp [Bd.local, hh]]
    obtain ⟨k, rfl, hk⟩ := here_in hh
    rw [hh] at C
    obtain ⟨g, h⟩ := h
    obtain ⟨c0, c1, c2, c3, c4, fz⟩ := h.cells
    have ck := h.cell hk
    simp only [Int.toNat_natCast]
    clear h hh
    have hk1 : (k : Int) < d.loc.length := by omega
    generalize d.loc.length = n at *
    generalize d.at k = x at *
    go_enter Try.func29, Try.ntmps29
    go_wp2_with (go_at_call 31; refine C.out.mono ?_; rintro e w1 ⟨rfl, rfl⟩)
    go_ret; exact ⟨rfl, rfl⟩
end
end Go.Proofs.Ytjjcaplkmbigdaa.Quota
