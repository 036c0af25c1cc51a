/- The law MaskShort, walked. Conditions: the text is of at most 2^47 - 4096 bytes; the listed table holds what it is listed with. -/
import Derived.Test.YtmeojplfphmpnaaDoorMaskJoinsW
import Derived.Test.YtmeojplfphmpnaaDoorMaskShortP
namespace Go.Proofs.YtmeojplfphmpnaaDoor.Mask
open Go.ChangeShapes Go.WideShapes Go.ChangeAt Go.RowKit
set_option linter.unusedVariables false
set_option linter.unusedSimpArgs false
set_option maxRecDepth 100000

theorem parse_bad (l : List UInt8) (h : (parse l).2 ≠ 0) : (parse l).1 = 0 ∧ ((parse l).2 = 1 ∨ (parse l).2 = 11) := by
  by_cases h0 : l = []
  · subst h0; exact absurd rfl h
  · rw [parse_parts l h0] at *
    unfold told at *
    cases hp : parts l with
    | none => simp
    | some ps =>
      rw [hp] at h
      simp only at *
      split
      · simp
      · rename_i hw; rw [if_neg hw] at h; exact absurd rfl h

theorem shorts_bad (s : ByteArray) (e : Int) (w : World) (hT : Tab w) (PA : Hid (∀ w, Calls Tryd.prog 11 #[.string s] w (Pd 0 e w))) (K : e = 1 ∨ e = 11) : Calls Tryd.prog 6 #[.string s] w (IsYes w) := by
  have A0 := Lib.hid (fun (w : World) (h : Tab w) => awake w h)
  have hg := Below.refl w.heap.size w
  rcases K with rfl | rfl
  all_goals
    go_enter Tryd.func6, Tryd.ntmps6
    go_wp2_with (go_at_call 10; refine (A0.out _ (hT.fresh hg)).mono ?_; rintro e w1 ⟨rfl, hg1⟩; replace hg := fresh_trans hg hg1; clear hg1)
    refine (PA.out _).mono ?_; rintro e w1 ⟨rfl, hg1⟩; replace hg := fresh_trans hg hg1; clear hg1
    go_wp2_with fail
    go_ret
    exact ⟨by simp, hg⟩

theorem shorts_good (s t : ByteArray) (m : Int) (w : World) (hT : Tab w) (PA : Hid (∀ w, Calls Tryd.prog 11 #[.string s] w (Pd m 0 w))) (PT : Hid (∀ w, Tab w → Calls Tryd.prog 14 #[.int .u64 m] w (fun e w' => e = .returned (.string t) ∧ Below w.heap.size w w')))
    (PB : Hid (∀ w, Calls Tryd.prog 11 #[.string t] w (Pd m 0 w))) (hl : (t.size : Int) ≤ (s.size : Int)) : Calls Tryd.prog 6 #[.string s] w (IsYes w) := by
  have A0 := Lib.hid (fun (w : World) (h : Tab w) => awake w h)
  have hg := Below.refl w.heap.size w
  go_enter Tryd.func6, Tryd.ntmps6
  go_wp2_with (go_at_call 10; refine (A0.out _ (hT.fresh hg)).mono ?_; rintro e w1 ⟨rfl, hg1⟩; replace hg := fresh_trans hg hg1; clear hg1)
  refine (PA.out _).mono ?_; rintro e w1 ⟨rfl, hg1⟩; replace hg := fresh_trans hg hg1; clear hg1
  go_wp2_with (go_at_call 14; refine (PT.out _ (hT.fresh hg)).mono ?_; rintro e w1 ⟨rfl, hg1⟩; replace hg := fresh_trans hg hg1; clear hg1)
  refine (PB.out _).mono ?_; rintro e w1 ⟨rfl, hg1⟩; replace hg := fresh_trans hg hg1; clear hg1
  go_wp2_with fail
  go_ret
  exact ⟨by simp, hg⟩

theorem shorts (s : ByteArray) (w : World) (hT : Tab w) : Calls Tryd.prog 6 #[.string s] w (IsYes w) := by
  have PA := pd_of s
  by_cases he : (parse s.data.toList).2 = 0
  · rw [he] at PA
    have hlt := parse_lt s.data.toList
    have hPB := pd_of ⟨(text (parse s.data.toList).1).toArray⟩
    have hd : (⟨(text (parse s.data.toList).1).toArray⟩ : ByteArray).data.toList = text (parse s.data.toList).1 := rfl
    rw [hd, parse_text _ hlt] at hPB
    refine shorts_good s ⟨(text (parse s.data.toList).1).toArray⟩ _ w hT PA (Lib.hid (fun w h => Text _ hlt w h)) hPB ?_
    have : (text (parse s.data.toList).1).length ≤ s.data.toList.length := by
      by_cases h0 : s.data.toList = []
      · rw [h0]; decide +kernel
      · exact short _ h0 he
    show (((text (parse s.data.toList).1).toArray.size : Nat) : Int) ≤ ((s.data.size : Nat) : Int)
    simp at this ⊢
    exact this
  · obtain ⟨h1, h2⟩ := parse_bad _ he
    rw [h1] at PA
    exact shorts_bad s _ w hT PA h2
end Go.Proofs.YtmeojplfphmpnaaDoor.Mask
