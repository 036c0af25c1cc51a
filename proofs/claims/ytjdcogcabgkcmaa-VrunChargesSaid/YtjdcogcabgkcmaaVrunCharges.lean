/- For any three words of 64 bits and any whole number of 64 bits the law VrunCharges returns true: a weight's charge, or that it may not be, and a need, are the document's. Conditions: none. -/
import Derived.Test.YtjdcogcabgkcmaaRows
import Derived.Test.YtjdcogcabgkcmaaReadOn
import Derived.Test.YtjdcogcabgkcmaaVrunSplit
import Derived.WalkKit
import Derived.ProofKit
import Derived.OpenShut
namespace Go.Proofs.Ytjdcogcabgkcmaa.vrunCharges
open Go.ChangeShapes Go.WideShapes Go.ChangeAt Go.RowKit
set_option linter.unusedVariables false

theorem own : ownKnob Try.prog.godebug = none := by kernel_rfl
theorem laid : laidOutB Try.prog = true := by kernel_rfl
theorem cells22 : Try.prog.cellsOf 22 = 1 := by kernel_rfl
theorem cells23 : Try.prog.cellsOf 23 = 3 := by kernel_rfl
theorem list3 (l : List Int) (h : l.length = 3) : ∃ x0 x1 x2, l = [x0, x1, x2] := by
  match l, h with
  | [x0, x1, x2], _ => exact ⟨x0, x1, x2, rfl⟩

set_option maxRecDepth 100000 in
theorem lifted (os : Os) (started : os.Started) (H : Type) (enc : TypeId × Value → H) :
    ReturnsInHanded {} Try.checked os 3 .any (Rows.vrunChargesSpec.pre6 enc Try.prog Try.f3 Rows.vrunChargesRow.domain false) (Rows.vrunChargesSpec.post enc Try.prog Try.f3 false true false false) := by
  refine returnsInHanded_of_change (C := Try.checked) own started (by kernel_rfl) Try.func3
    (ChangeSpec.witness6 (enc := enc) (C := Try.checked) false ⟨#[], #[.agg #[.int .u64 0, .int .u64 0, .int .u64 0], .int .i64 0], []⟩ 8 (by kernel_rfl) (by kernel_rfl) (by kernel_rfl) (by kernel_rfl)) ?_
  intro W base args ds gs before hval0 hW hcnd _
  have hval : ∀ (j : Nat) t v, Try.f3.params[j]? = some t → args[j]? = some v → Value.okWide Try.prog W .any base t v := hval0
  have hW' := hW
  obtain ⟨p, q, hA0, hV, rfl, hfz, hnd⟩ := hW
  have hA : DataW.TrodAll enc Try.prog W 0 (fun _ => true) true Try.f3.params.toList args.toList ds p := hA0
  have hAk := hA
  rw [Try.params3] at hA hval
  obtain ⟨v0, vs0, d0, ds0, p0, q0, hargs, rfl, rfl, h0, r0⟩ := trodAll_cons hA
  obtain ⟨v1, vs1, d1, ds1, p1, q1, rfl, rfl, rfl, h1, r1⟩ := trodAll_cons r0
  obtain ⟨rfl, rfl, rfl⟩ := trodAll_nil r1
  obtain rfl : args = #[v0, v1] := by cases args; simp_all
  obtain ⟨rfl, rfl⟩ := trodVars_none hV
  obtain ⟨l0, ll0, rfl, lw0⟩ := Read.array Try.underlying23 Try.underlying22 cells22 cells23 (hval 0 23 v0 rfl rfl) h0
  obtain ⟨x0_0, x0_1, x0_2, rfl⟩ : ∃ x0_0 x0_1 x0_2, l0 = [x0_0, x0_1, x0_2] := list3 l0 ll0
  have w0_0 := lw0 x0_0 (by simp)
  have w0_1 := lw0 x0_1 (by simp)
  have w0_2 := lw0 x0_2 (by simp)
  obtain ⟨a1, rfl, rfl, rfl, w1⟩ := open_int Try.underlying2 (hval 1 2 v1 rfl rfl) h1
  clear hA0 hval0
  have hW2 := hW'
  rw [List.append_nil] at hW2
  refine (show Calls Try.prog 3 #[.agg #[.int .u64 x0_0, .int .u64 x0_1, .int .u64 x0_2], .int .i64 a1] W (fun e w' => e = .returned (.bool true) ∧ Below W.heap.size W w') from Vrun.chargesLaw x0_0 x0_1 x0_2 a1 W (bounds_u64 w0_0).1 (bounds_u64 w0_1).1 (bounds_u64 w0_2).1).mono fun e W' ⟨he, hg⟩ => ?_
  subst he
  exact ⟨_, rfl, Read.post laid (by kernel_rfl) hg hAk hW2 rfl rfl Try.underlying4 rfl⟩

theorem over : Rows.vrunChargesRow.holds Try.pinned (OpenSpec.ofChange Rows.vrunChargesSpec) :=
  OpenClaim.holds_of_wide 3 Try.f3 rfl rfl rfl rfl rfl rfl rfl ⟨rfl, rfl, rfl, rfl, rfl⟩ rfl rfl rfl rfl rfl (by kernel_rfl) Try.func3 (by kernel_rfl)
    (of_decide_eq_true (by kernel_rfl)) (by unfold Func.isWrapper; first | (rw [if_pos (by decide +kernel)]; kernel_rfl) | (rw [if_neg (by decide +kernel)]; exact ⟨rfl, rfl⟩))
    (fun os started H enc _ => lifted os started H enc)

/-- THE STATEMENT. -/
theorem proved : Rows.VrunChargesSaid :=
  over
#print axioms proved
end Go.Proofs.Ytjdcogcabgkcmaa.vrunCharges
