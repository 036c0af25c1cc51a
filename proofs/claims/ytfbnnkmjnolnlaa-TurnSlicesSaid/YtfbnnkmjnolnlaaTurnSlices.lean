/- For any three words of 64 bits and any two entities the law TurnSlices returns true: any slice, and whether any other one is to be served, are the document's. Conditions: none. -/
import Derived.Test.YtfbnnkmjnolnlaaRows
import Derived.Test.YtfbnnkmjnolnlaaReadOn
import Derived.Test.YtfbnnkmjnolnlaaTurnSlicesW
import Derived.Test.YtfbnnkmjnolnlaaReadFour
import Derived.WalkKit
import Derived.ProofKit
import Derived.OpenShut
namespace Go.Proofs.Ytfbnnkmjnolnlaa.turnSlices
open Go.ChangeShapes Go.WideShapes Go.ChangeAt Go.RowKit
set_option linter.unusedVariables false

theorem own : ownKnob Try.prog.godebug = none := by kernel_rfl
theorem laid : laidOutB Try.prog = true := by kernel_rfl
theorem cells22 : Try.prog.cellsOf 22 = 1 := by kernel_rfl
theorem cells44 : Try.prog.cellsOf 44 = 3 := by kernel_rfl
theorem cells46 : Try.prog.cellsOf 46 = 4 := by kernel_rfl
theorem list3 (l : List Int) (h : l.length = 3) : ∃ x0 x1 x2, l = [x0, x1, x2] := by
  match l, h with
  | [x0, x1, x2], _ => exact ⟨x0, x1, x2, rfl⟩

set_option maxRecDepth 100000 in
theorem lifted (os : Os) (started : os.Started) (H : Type) (enc : TypeId × Value → H) :
    ReturnsInHanded {} Try.checked os 4 .any (Rows.turnSlicesSpec.pre6 enc Try.prog Try.f4 Rows.turnSlicesRow.domain false) (Rows.turnSlicesSpec.post enc Try.prog Try.f4 false true false false) := by
  refine returnsInHanded_of_change_sized (C := Try.checked) own started (by kernel_rfl) Try.func4
    (ChangeSpec.witness6 (enc := enc) (C := Try.checked) false ⟨#[], #[.agg #[.int .u64 0, .int .u64 0, .int .u64 0], .agg #[.int .i64 0, .int .u64 0, .int .i64 0, .int .u64 0], .agg #[.int .i64 0, .int .u64 0, .int .i64 0, .int .u64 0]], []⟩ 8 (by kernel_rfl) (by kernel_rfl) (by kernel_rfl) (by kernel_rfl)) ?_
  intro W base args ds gs before hval0 hW hcnd hsz0 _
  have hval : ∀ (j : Nat) t v, Try.f4.params[j]? = some t → args[j]? = some v → Value.okWide Try.prog W .any base t v := hval0
  have hW' := hW
  obtain ⟨p, q, hA0, hV, rfl, hfz, hnd⟩ := hW
  have hA : DataW.TrodAll enc Try.prog W 0 (fun _ => true) true Try.f4.params.toList args.toList ds p := hA0
  have hAk := hA
  rw [Try.params4] at hA hval
  obtain ⟨v0, vs0, d0, ds0, p0, q0, hargs, rfl, rfl, h0, r0⟩ := trodAll_cons hA
  obtain ⟨v1, vs1, d1, ds1, p1, q1, rfl, rfl, rfl, h1, r1⟩ := trodAll_cons r0
  obtain ⟨v2, vs2, d2, ds2, p2, q2, rfl, rfl, rfl, h2, r2⟩ := trodAll_cons r1
  obtain ⟨rfl, rfl, rfl⟩ := trodAll_nil r2
  obtain rfl : args = #[v0, v1, v2] := by cases args; simp_all
  obtain ⟨rfl, rfl⟩ := trodVars_none hV
  have hsz : (DataW.weightsEach Try.prog [44, 46, 46] [d0, d1, d2]).all (· ≤ reachBytes) = true := hsz0
  obtain ⟨l0, ll0, rfl, lw0⟩ := Read.array Try.underlying44 Try.underlying22 cells22 cells44 (hval 0 44 v0 rfl rfl) h0
  obtain ⟨x0_0, x0_1, x0_2, rfl⟩ : ∃ x0_0 x0_1 x0_2, l0 = [x0_0, x0_1, x0_2] := list3 l0 ll0
  have w0_0 := lw0 x0_0 (by simp)
  have w0_1 := lw0 x0_1 (by simp)
  have w0_2 := lw0 x0_2 (by simp)
  obtain ⟨x1_0, x1_1, x1_2, x1_3, rfl, w1_0, w1_1, w1_2, w1_3⟩ := Read.quad Try.underlying46 (by kernel_rfl) cells46 Try.underlying3 Try.underlying22 Try.underlying2 Try.underlying22 (hval 1 46 v1 rfl rfl) h1
  obtain ⟨x2_0, x2_1, x2_2, x2_3, rfl, w2_0, w2_1, w2_2, w2_3⟩ := Read.quad Try.underlying46 (by kernel_rfl) cells46 Try.underlying3 Try.underlying22 Try.underlying2 Try.underlying22 (hval 2 46 v2 rfl rfl) h2

  clear hA0 hval0 hsz hsz0
  have hW2 := hW'
  rw [List.append_nil] at hW2
  refine (show Calls Try.prog 4 #[.agg #[.int .u64 x0_0, .int .u64 x0_1, .int .u64 x0_2], .agg #[.int .i64 x1_0, .int .u64 x1_1, .int .i64 x1_2, .int .u64 x1_3], .agg #[.int .i64 x2_0, .int .u64 x2_1, .int .i64 x2_2, .int .u64 x2_3]] W (fun e w' => e = .returned (.bool true) ∧ Below W.heap.size W w') from Turn.slicesLaw x0_0 x0_1 x0_2 x1_0 x1_1 x1_2 x1_3 x2_0 x2_1 x2_2 x2_3 W ⟨(by have h := (bounds_u64 w0_0).1; omega), (by have h := (bounds_u64 w0_0).2; omega)⟩ ⟨(by have h := (bounds_u64 w0_1).1; omega), (by have h := (bounds_u64 w0_1).2; omega)⟩ ⟨(by have h := (bounds_u64 w0_2).1; omega), (by have h := (bounds_u64 w0_2).2; omega)⟩ ⟨(by have h := (bounds_i64 w2_2).1; omega), (by have h := (bounds_i64 w2_2).2; omega)⟩).mono fun e W' ⟨he, hg⟩ => ?_
  subst he
  exact ⟨_, rfl, Read.post laid (by kernel_rfl) hg hAk hW2 rfl rfl Try.underlying4 rfl⟩

theorem over : Rows.turnSlicesRow.holds Try.pinned (OpenSpec.ofChange Rows.turnSlicesSpec) :=
  OpenClaim.holds_of_wide 4 Try.f4 rfl rfl rfl rfl rfl rfl rfl ⟨rfl, rfl, rfl, rfl, rfl⟩ rfl rfl rfl rfl rfl (by kernel_rfl) Try.func4 (by kernel_rfl)
    (of_decide_eq_true (by kernel_rfl)) (by unfold Func.isWrapper; first | (rw [if_pos (by decide +kernel)]; kernel_rfl) | (rw [if_neg (by decide +kernel)]; exact ⟨rfl, rfl⟩))
    (fun os started H enc _ => lifted os started H enc)

/-- THE STATEMENT. -/
theorem proved : Rows.TurnSlicesSaid :=
  over
#print axioms proved
end Go.Proofs.Ytfbnnkmjnolnlaa.turnSlices
