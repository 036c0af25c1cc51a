/- For any slice of numbers of 8 bits and any three of them the law GtreeUnder returns true: to be below is an order: each one is below itself and the root; of two unlike ones not both are below the other one; what is below one below a third one is below that; those below are told by it. Conditions: none. -/
import Derived.Test.YtamjklapgnahkaaRows
import Derived.Test.YtamjklapgnahkaaReadOn
import Derived.Test.YtamjklapgnahkaaGtUnderW
import Derived.WalkKit
import Derived.ProofKit
import Derived.OpenShut
namespace Go.Proofs.Ytamjklapgnahkaa.gtreeUnder
open Go.ChangeShapes Go.WideShapes Go.ChangeAt Go.RowKit
set_option linter.unusedVariables false

theorem own : ownKnob Try.prog.godebug = none := by kernel_rfl
theorem laid : laidOutB Try.prog = true := by kernel_rfl
theorem cells5 : Try.prog.cellsOf 5 = 1 := by kernel_rfl
theorem cells66 : Try.prog.cellsOf 66 = 3 := by kernel_rfl
theorem bytes5 : Try.prog.bytesOf 5 = 1 := by kernel_rfl
theorem list3 (l : List Int) (h : l.length = 3) : ∃ x0 x1 x2, l = [x0, x1, x2] := by
  match l, h with
  | [x0, x1, x2], _ => exact ⟨x0, x1, x2, rfl⟩

set_option maxRecDepth 100000 in
theorem lifted (os : Os) (started : os.Started) (H : Type) (enc : TypeId × Value → H) :
    ReturnsInHanded {} Try.checked os 6 .any (Rows.gtreeUnderSpec.pre6 enc Try.prog Try.f6 Rows.gtreeUnderRow.domain false) (Rows.gtreeUnderSpec.post enc Try.prog Try.f6 false true false false) := by
  refine returnsInHanded_of_change_sized (C := Try.checked) own started (by kernel_rfl) Try.func6
    (ChangeSpec.witness6 (enc := enc) (C := Try.checked) false ⟨#[], #[.slice none 0 0, .agg #[.int .u8 0, .int .u8 0, .int .u8 0]], []⟩ 8 (by kernel_rfl) (by kernel_rfl) (by kernel_rfl) (by kernel_rfl)) ?_
  intro W base args ds gs before hval0 hW hcnd hsz0 _
  have hval : ∀ (j : Nat) t v, Try.f6.params[j]? = some t → args[j]? = some v → Value.okWide Try.prog W .any base t v := hval0
  have hW' := hW
  obtain ⟨p, q, hA0, hV, rfl, hfz, hnd⟩ := hW
  have hA : DataW.TrodAll enc Try.prog W 0 (fun _ => true) true Try.f6.params.toList args.toList ds p := hA0
  have hAk := hA
  rw [Try.params6] at hA hval
  obtain ⟨v0, vs0, d0, ds0, p0, q0, hargs, rfl, rfl, h0, r0⟩ := trodAll_cons hA
  obtain ⟨v1, vs1, d1, ds1, p1, q1, rfl, rfl, rfl, h1, r1⟩ := trodAll_cons r0
  obtain ⟨rfl, rfl, rfl⟩ := trodAll_nil r1
  obtain rfl : args = #[v0, v1] := by cases args; simp_all
  obtain ⟨rfl, rfl⟩ := trodVars_none hV
  have hsz : (DataW.weightsEach Try.prog [54, 66] [d0, d1]).all (· ≤ reachBytes) = true := hsz0
  obtain ⟨u0, len0, cap0, zs0, rfl, big0, le0, wf0, cell0⟩ := Read.ints Try.underlying54 Try.underlying5 cells5 (hval 0 54 v0 rfl rfl) h0
  obtain ⟨l1, ll1, rfl, lw1⟩ := Read.array Try.underlying66 Try.underlying5 cells5 cells66 (hval 1 66 v1 rfl rfl) h1
  obtain ⟨x1_0, x1_1, x1_2, rfl⟩ : ∃ x1_0 x1_1 x1_2, l1 = [x1_0, x1_1, x1_2] := list3 l1 ll1
  have w1_0 := lw1 x1_0 (by simp)
  have w1_1 := lw1 x1_1 (by simp)
  have w1_2 := lw1 x1_2 (by simp)
  have nil0 := Read.nilcap Try.underlying54 Try.underlying5 cells5 h0
  have room0 := Read.room Try.underlying54 Try.underlying5 cells5 bytes5 h0 (j := 0) hsz rfl rfl
  clear hA0 hval0 hsz hsz0
  have hW2 := hW'
  rw [List.append_nil] at hW2
  refine (show Calls Try.prog 6 #[.slice u0 len0 cap0, .agg #[.int .u8 x1_0, .int .u8 x1_1, .int .u8 x1_2]] W (fun e w' => e = .returned (.bool true) ∧ Below W.heap.size W w') from Gt.underLaw u0 len0 cap0 zs0 x1_0 x1_1 x1_2 W big0 wf0 cell0 (bounds_u8 w1_0) (bounds_u8 w1_1) (bounds_u8 w1_2)).mono fun e W' ⟨he, hg⟩ => ?_
  subst he
  exact ⟨_, rfl, Read.post laid (by kernel_rfl) hg hAk hW2 rfl rfl Try.underlying4 rfl⟩

theorem over : Rows.gtreeUnderRow.holds Try.pinned (OpenSpec.ofChange Rows.gtreeUnderSpec) :=
  OpenClaim.holds_of_wide 6 Try.f6 rfl rfl rfl rfl rfl rfl rfl ⟨rfl, rfl, rfl, rfl, rfl⟩ rfl rfl rfl rfl rfl (by kernel_rfl) Try.func6 (by kernel_rfl)
    (of_decide_eq_true (by kernel_rfl)) (by unfold Func.isWrapper; first | (rw [if_pos (by decide +kernel)]; kernel_rfl) | (rw [if_neg (by decide +kernel)]; exact ⟨rfl, rfl⟩))
    (fun os started H enc _ => lifted os started H enc)

/-- THE STATEMENT. -/
theorem proved : Rows.GtreeUnderSaid :=
  over
#print axioms proved
end Go.Proofs.Ytamjklapgnahkaa.gtreeUnder
