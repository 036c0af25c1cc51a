/- For any number of Ps, any terms and anything that comes the law QuotaMakes returns true: nothing is lost or made. Conditions: none. -/
import Derived.Test.YtjjcaplkmbigdaaRows
import Derived.Test.YtjjcaplkmbigdaaReadOn
import Derived.Test.YtjjcaplkmbigdaaQuotaMakeW
import Derived.Test.YtjjcaplkmbigdaaReadThrees
import Derived.WalkKit
import Derived.ProofKit
import Derived.OpenShut
namespace Go.Proofs.Ytjjcaplkmbigdaa.quotaMakes
open Go.ChangeShapes Go.WideShapes Go.ChangeAt Go.RowKit
set_option linter.unusedVariables false

theorem own : ownKnob Try.prog.godebug = none := by kernel_rfl
theorem laid : laidOutB Try.prog = true := by kernel_rfl
theorem cells49 : Try.prog.cellsOf 49 = 1 := by kernel_rfl
theorem cells52 : Try.prog.cellsOf 52 = 2 := by kernel_rfl
theorem cells55 : Try.prog.cellsOf 55 = 3 := by kernel_rfl
theorem list2 (l : List Int) (h : l.length = 2) : ∃ x0 x1, l = [x0, x1] := by
  match l, h with
  | [x0, x1], _ => exact ⟨x0, x1, rfl⟩

set_option maxRecDepth 100000 in
theorem lifted (os : Os) (started : os.Started) (H : Type) (enc : TypeId × Value → H) :
    ReturnsInHanded {} Try.checked os 5 .any (Rows.quotaMakesSpec.pre6 enc Try.prog Try.f5 Rows.quotaMakesRow.domain false) (Rows.quotaMakesSpec.post enc Try.prog Try.f5 false true false false) := by
  refine returnsInHanded_of_change_sized (C := Try.checked) own started (by kernel_rfl) Try.func5
    (ChangeSpec.witness6 (enc := enc) (C := Try.checked) false ⟨#[], #[.int .u8 0, .agg #[.int .u32 0, .int .u32 0], .slice none 0 0], []⟩ 8 (by kernel_rfl) (by kernel_rfl) (by kernel_rfl) (by kernel_rfl)) ?_
  intro W base args ds gs before hval0 hW hcnd hsz0 _
  have hval : ∀ (j : Nat) t v, Try.f5.params[j]? = some t → args[j]? = some v → Value.okWide Try.prog W .any base t v := hval0
  have hW' := hW
  obtain ⟨p, q, hA0, hV, rfl, hfz, hnd⟩ := hW
  have hA : DataW.TrodAll enc Try.prog W 0 (fun _ => true) true Try.f5.params.toList args.toList ds p := hA0
  have hAk := hA
  rw [Try.params5] at hA hval
  obtain ⟨v0, vs0, d0, ds0, p0, q0, hargs, rfl, rfl, h0, r0⟩ := trodAll_cons hA
  obtain ⟨v1, vs1, d1, ds1, p1, q1, rfl, rfl, rfl, h1, r1⟩ := trodAll_cons r0
  obtain ⟨v2, vs2, d2, ds2, p2, q2, rfl, rfl, rfl, h2, r2⟩ := trodAll_cons r1
  obtain ⟨rfl, rfl, rfl⟩ := trodAll_nil r2
  obtain rfl : args = #[v0, v1, v2] := by cases args; simp_all
  obtain ⟨rfl, rfl⟩ := trodVars_none hV
  have hsz : (DataW.weightsEach Try.prog [5, 52, 51] [d0, d1, d2]).all (· ≤ reachBytes) = true := hsz0
  obtain ⟨a0, rfl, rfl, rfl, w0⟩ := open_int Try.underlying5 (hval 0 5 v0 rfl rfl) h0
  obtain ⟨l1, ll1, rfl, lw1⟩ := Read.array Try.underlying52 Try.underlying49 cells49 cells52 (hval 1 52 v1 rfl rfl) h1
  obtain ⟨x1_0, x1_1, rfl⟩ : ∃ x1_0 x1_1, l1 = [x1_0, x1_1] := list2 l1 ll1
  have w1_0 := lw1 x1_0 (by simp)
  have w1_1 := lw1 x1_1 (by simp)
  obtain ⟨u2, len2, cap2, rfl, big2, cell2⟩ := Read.threes Try.underlying51 Try.underlying55 cells55 (by kernel_rfl) (by kernel_rfl) Try.underlying3 Try.underlying5 Try.underlying49 (hval 2 51 v2 rfl rfl) h2

  clear hA0 hval0 hsz hsz0
  have hW2 := hW'
  rw [List.append_nil] at hW2
  refine (show Calls Try.prog 5 #[.int .u8 a0, .agg #[.int .u32 x1_0, .int .u32 x1_1], .slice u2 len2 cap2] W (fun e w' => e = .returned (.bool true) ∧ Below W.heap.size W w') from Quota.makesLaw a0 x1_0 x1_1 u2 len2 cap2 W (bounds_u8 w0).1 (by have := bounds_u8 w0; omega) (bounds_u32 w1_0).1 (by have := bounds_u32 w1_0; omega) (bounds_u32 w1_1).1 (by have := bounds_u32 w1_1; omega) big2 (fun j hj => by obtain ⟨kk, off, e1, e2, d0, d1, d2, ⟨z0, z1, z2⟩, c0, c1, c2⟩ := cell2 j hj; have y1 := bounds_u8 z1; have y2 := bounds_u32 z2; exact ⟨kk, off, e1, e2, d0, d1, d2, ⟨y1.1, by omega, y2.1, by omega⟩, c0, c1, c2⟩)).mono fun e W' ⟨he, hg⟩ => ?_
  subst he
  exact ⟨_, rfl, Read.post laid (by kernel_rfl) hg hAk hW2 rfl rfl Try.underlying4 rfl⟩

theorem over : Rows.quotaMakesRow.holds Try.pinned (OpenSpec.ofChange Rows.quotaMakesSpec) :=
  OpenClaim.holds_of_wide 5 Try.f5 rfl rfl rfl rfl rfl rfl rfl ⟨rfl, rfl, rfl, rfl, rfl⟩ rfl rfl rfl rfl rfl (by kernel_rfl) Try.func5 (by kernel_rfl)
    (of_decide_eq_true (by kernel_rfl)) (by unfold Func.isWrapper; first | (rw [if_pos (by decide +kernel)]; kernel_rfl) | (rw [if_neg (by decide +kernel)]; exact ⟨rfl, rfl⟩))
    (fun os started H enc _ => lifted os started H enc)

/-- THE STATEMENT. -/
theorem proved : Rows.QuotaMakesSaid :=
  over
#print axioms proved
end Go.Proofs.Ytjjcaplkmbigdaa.quotaMakes
