/- For any two handles the law GtreeNobody returns true: a tree that is nil has no groups. Conditions: none. -/
import Derived.Test.YtamjklapgnahkaaRows
import Derived.Test.YtamjklapgnahkaaReadOn
import Derived.Test.YtamjklapgnahkaaGtNobodyW
import Derived.WalkKit
import Derived.ProofKit
import Derived.OpenShut
namespace Go.Proofs.Ytamjklapgnahkaa.gtreeNobody
open Go.ChangeShapes Go.WideShapes Go.ChangeAt Go.RowKit
set_option linter.unusedVariables false

theorem own : ownKnob Try.prog.godebug = none := by kernel_rfl
theorem laid : laidOutB Try.prog = true := by kernel_rfl
theorem cells34 : Try.prog.cellsOf 34 = 2 := by kernel_rfl

set_option maxRecDepth 100000 in
theorem lifted (os : Os) (started : os.Started) (H : Type) (enc : TypeId × Value → H) :
    ReturnsInHanded {} Try.checked os 8 .any (Rows.gtreeNobodySpec.pre6 enc Try.prog Try.f8 Rows.gtreeNobodyRow.domain false) (Rows.gtreeNobodySpec.post enc Try.prog Try.f8 false true false false) := by
  refine returnsInHanded_of_change_sized (C := Try.checked) own started (by kernel_rfl) Try.func8
    (ChangeSpec.witness6 (enc := enc) (C := Try.checked) false ⟨#[], #[.agg #[.int .i64 0, .int .i64 0], .agg #[.int .i64 0, .int .i64 0]], []⟩ 8 (by kernel_rfl) (by kernel_rfl) (by kernel_rfl) (by kernel_rfl)) ?_
  intro W base args ds gs before hval0 hW hcnd hsz0 _
  have hval : ∀ (j : Nat) t v, Try.f8.params[j]? = some t → args[j]? = some v → Value.okWide Try.prog W .any base t v := hval0
  have hW' := hW
  obtain ⟨p, q, hA0, hV, rfl, hfz, hnd⟩ := hW
  have hA : DataW.TrodAll enc Try.prog W 0 (fun _ => true) true Try.f8.params.toList args.toList ds p := hA0
  have hAk := hA
  rw [Try.params8] at hA hval
  obtain ⟨v0, vs0, d0, ds0, p0, q0, hargs, rfl, rfl, h0, r0⟩ := trodAll_cons hA
  obtain ⟨v1, vs1, d1, ds1, p1, q1, rfl, rfl, rfl, h1, r1⟩ := trodAll_cons r0
  obtain ⟨rfl, rfl, rfl⟩ := trodAll_nil r1
  obtain rfl : args = #[v0, v1] := by cases args; simp_all
  obtain ⟨rfl, rfl⟩ := trodVars_none hV
  have hsz : (DataW.weightsEach Try.prog [34, 34] [d0, d1]).all (· ≤ reachBytes) = true := hsz0
  obtain ⟨x0_0, x0_1, rfl, w0_0, w0_1⟩ := Read.pair Try.underlying34 (by kernel_rfl) cells34 Try.underlying3 Try.underlying3 (hval 0 34 v0 rfl rfl) h0
  obtain ⟨x1_0, x1_1, rfl, w1_0, w1_1⟩ := Read.pair Try.underlying34 (by kernel_rfl) cells34 Try.underlying3 Try.underlying3 (hval 1 34 v1 rfl rfl) h1

  clear hA0 hval0 hsz hsz0
  have hW2 := hW'
  rw [List.append_nil] at hW2
  refine (show Calls Try.prog 8 #[.agg #[.int .i64 x0_0, .int .i64 x0_1], .agg #[.int .i64 x1_0, .int .i64 x1_1]] W (fun e w' => e = .returned (.bool true) ∧ Below W.heap.size W w') from Gt.nobodyLaw x0_0 x0_1 x1_0 x1_1 W).mono fun e W' ⟨he, hg⟩ => ?_
  subst he
  exact ⟨_, rfl, Read.post laid (by kernel_rfl) hg hAk hW2 rfl rfl Try.underlying4 rfl⟩

theorem over : Rows.gtreeNobodyRow.holds Try.pinned (OpenSpec.ofChange Rows.gtreeNobodySpec) :=
  OpenClaim.holds_of_wide 8 Try.f8 rfl rfl rfl rfl rfl rfl rfl ⟨rfl, rfl, rfl, rfl, rfl⟩ rfl rfl rfl rfl rfl (by kernel_rfl) Try.func8 (by kernel_rfl)
    (of_decide_eq_true (by kernel_rfl)) (by unfold Func.isWrapper; first | (rw [if_pos (by decide +kernel)]; kernel_rfl) | (rw [if_neg (by decide +kernel)]; exact ⟨rfl, rfl⟩))
    (fun os started H enc _ => lifted os started H enc)

/-- THE STATEMENT. -/
theorem proved : Rows.GtreeNobodySaid :=
  over
#print axioms proved
end Go.Proofs.Ytamjklapgnahkaa.gtreeNobody
