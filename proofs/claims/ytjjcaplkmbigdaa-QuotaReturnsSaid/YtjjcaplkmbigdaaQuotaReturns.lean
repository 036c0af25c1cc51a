/- For any two words of 32 bits the law QuotaReturns returns true: what a P gives back is in the pool, and another one may have it. Conditions: none. -/
import Derived.Test.YtjjcaplkmbigdaaRows
import Derived.Test.YtjjcaplkmbigdaaReadOn
import Derived.Test.YtjjcaplkmbigdaaQuotaRetW
import Derived.WalkKit
import Derived.ProofKit
import Derived.OpenShut
namespace Go.Proofs.Ytjjcaplkmbigdaa.quotaReturns
open Go.ChangeShapes Go.WideShapes Go.ChangeAt Go.RowKit
set_option linter.unusedVariables false

theorem own : ownKnob Try.prog.godebug = none := by kernel_rfl
theorem laid : laidOutB Try.prog = true := by kernel_rfl
theorem cells49 : Try.prog.cellsOf 49 = 1 := by kernel_rfl
theorem cells52 : Try.prog.cellsOf 52 = 2 := by kernel_rfl
theorem list2 (l : List Int) (h : l.length = 2) : ∃ x0 x1, l = [x0, x1] := by
  match l, h with
  | [x0, x1], _ => exact ⟨x0, x1, rfl⟩

set_option maxRecDepth 100000 in
theorem lifted (os : Os) (started : os.Started) (H : Type) (enc : TypeId × Value → H) :
    ReturnsInHanded {} Try.checked os 8 .any (Rows.quotaReturnsSpec.pre6 enc Try.prog Try.f8 Rows.quotaReturnsRow.domain false) (Rows.quotaReturnsSpec.post enc Try.prog Try.f8 false true false false) := by
  refine returnsInHanded_of_change_sized (C := Try.checked) own started (by kernel_rfl) Try.func8
    (ChangeSpec.witness6 (enc := enc) (C := Try.checked) false ⟨#[], #[.agg #[.int .u32 0, .int .u32 0]], []⟩ 8 (by kernel_rfl) (by kernel_rfl) (by kernel_rfl) (by kernel_rfl)) ?_
  intro W base args ds gs before hval0 hW hcnd hsz0 _
  have hval : ∀ (j : Nat) t v, Try.f8.params[j]? = some t → args[j]? = some v → Value.okWide Try.prog W .any base t v := hval0
  have hW' := hW
  obtain ⟨p, q, hA0, hV, rfl, hfz, hnd⟩ := hW
  have hA : DataW.TrodAll enc Try.prog W 0 (fun _ => true) true Try.f8.params.toList args.toList ds p := hA0
  have hAk := hA
  rw [Try.params8] at hA hval
  obtain ⟨v0, vs0, d0, ds0, p0, q0, hargs, rfl, rfl, h0, r0⟩ := trodAll_cons hA
  obtain ⟨rfl, rfl, rfl⟩ := trodAll_nil r0
  obtain rfl : args = #[v0] := by cases args; simp_all
  obtain ⟨rfl, rfl⟩ := trodVars_none hV
  have hsz : (DataW.weightsEach Try.prog [52] [d0]).all (· ≤ reachBytes) = true := hsz0
  obtain ⟨l0, ll0, rfl, lw0⟩ := Read.array Try.underlying52 Try.underlying49 cells49 cells52 (hval 0 52 v0 rfl rfl) h0
  obtain ⟨x0_0, x0_1, rfl⟩ : ∃ x0_0 x0_1, l0 = [x0_0, x0_1] := list2 l0 ll0
  have w0_0 := lw0 x0_0 (by simp)
  have w0_1 := lw0 x0_1 (by simp)

  clear hA0 hval0 hsz hsz0
  have hW2 := hW'
  rw [List.append_nil] at hW2
  refine (show Calls Try.prog 8 #[.agg #[.int .u32 x0_0, .int .u32 x0_1]] W (fun e w' => e = .returned (.bool true) ∧ Below W.heap.size W w') from Quota.returnsLaw x0_0 x0_1 W (bounds_u32 w0_0).1 (by have := bounds_u32 w0_0; omega) (bounds_u32 w0_1).1 (by have := bounds_u32 w0_1; omega)).mono fun e W' ⟨he, hg⟩ => ?_
  subst he
  exact ⟨_, rfl, Read.post laid (by kernel_rfl) hg hAk hW2 rfl rfl Try.underlying4 rfl⟩

theorem over : Rows.quotaReturnsRow.holds Try.pinned (OpenSpec.ofChange Rows.quotaReturnsSpec) :=
  OpenClaim.holds_of_wide 8 Try.f8 rfl rfl rfl rfl rfl rfl rfl ⟨rfl, rfl, rfl, rfl, rfl⟩ rfl rfl rfl rfl rfl (by kernel_rfl) Try.func8 (by kernel_rfl)
    (of_decide_eq_true (by kernel_rfl)) (by unfold Func.isWrapper; first | (rw [if_pos (by decide +kernel)]; kernel_rfl) | (rw [if_neg (by decide +kernel)]; exact ⟨rfl, rfl⟩))
    (fun os started H enc _ => lifted os started H enc)

/-- THE STATEMENT. -/
theorem proved : Rows.QuotaReturnsSaid :=
  over
#print axioms proved
end Go.Proofs.Ytjjcaplkmbigdaa.quotaReturns
