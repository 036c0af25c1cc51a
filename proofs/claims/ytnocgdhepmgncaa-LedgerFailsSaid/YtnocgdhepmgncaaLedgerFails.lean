/- For any slice of deeds and any deed, the law LedgerFails returns true: what is refused changes nothing: numbers below 0, a group twice, and more than there can be. Conditions: none. -/
import Derived.Test.YtnocgdhepmgncaaRows
import Derived.Test.YtnocgdhepmgncaaReadOn
import Derived.Test.YtnocgdhepmgncaaLedgerFailsW
import Derived.Test.YtnocgdhepmgncaaReadAccts
import Derived.WalkKit
import Derived.ProofKit
import Derived.OpenShut
namespace Go.Proofs.Ytnocgdhepmgncaa.ledgerFails
open Go.ChangeShapes Go.WideShapes Go.ChangeAt Go.RowKit
set_option linter.unusedVariables false

theorem own : ownKnob Try.prog.godebug = none := by kernel_rfl
theorem laid : laidOutB Try.prog = true := by kernel_rfl
theorem cells32 : Try.prog.cellsOf 32 = 4 := by kernel_rfl
theorem cells3 : Try.prog.cellsOf 3 = 1 := by kernel_rfl

set_option maxRecDepth 100000 in
theorem lifted (os : Os) (started : os.Started) (H : Type) (enc : TypeId × Value → H) :
    ReturnsInHanded {} Try.checked os 5 .any (Rows.ledgerFailsSpec.pre6 enc Try.prog Try.f5 Rows.ledgerFailsRow.domain false) (Rows.ledgerFailsSpec.post enc Try.prog Try.f5 false true false false) := by
  refine returnsInHanded_of_change_sized (C := Try.checked) own started (by kernel_rfl) Try.func5
    (ChangeSpec.witness6 (enc := enc) (C := Try.checked) false ⟨#[], #[.slice none 0 0, .agg #[.slice none 0 0, .int .i64 0, .int .i64 0, .bool false]], []⟩ 8 (by kernel_rfl) (by kernel_rfl) (by kernel_rfl) (by kernel_rfl)) ?_
  intro W base args ds gs before hval0 hW hcnd hsz0 _
  have hval : ∀ (j : Nat) t v, Try.f5.params[j]? = some t → args[j]? = some v → Value.okWide Try.prog W .any base t v := hval0
  have hW' := hW
  obtain ⟨p, q, hA0, hV, rfl, hfz, hnd⟩ := hW
  have hA : DataW.TrodAll enc Try.prog W 0 (fun _ => true) true Try.f5.params.toList args.toList ds p := hA0
  have hAk := hA
  rw [Try.params5] at hA hval
  obtain ⟨v0, vs0, d0, ds0, p0, q0, hargs, rfl, rfl, h0, r0⟩ := trodAll_cons hA
  obtain ⟨v1, vs1, d1, ds1, p1, q1, rfl, rfl, rfl, h1, r1⟩ := trodAll_cons r0
  obtain ⟨rfl, rfl, rfl⟩ := trodAll_nil r1
  obtain rfl : args = #[v0, v1] := by cases args; simp_all
  obtain ⟨rfl, rfl⟩ := trodVars_none hV
  have hsz : (DataW.weightsEach Try.prog [22, 32] [d0, d1]).all (· ≤ reachBytes) = true := hsz0
  obtain ⟨u0, len0, cap0, rfl, big0, lec0, cell0⟩ := Read.accts Try.underlying22 Try.underlying32 cells32 (by kernel_rfl) (by kernel_rfl) Try.underlying30 Try.underlying3 cells3 Try.underlying3 Try.underlying2 Try.underlying4 (hval 0 22 v0 rfl rfl) h0
  obtain ⟨x1_0, x1_1, x1_2, x1_3, rfl, acct1⟩ := Read.acct Try.underlying32 (by kernel_rfl) cells32 Try.underlying30 Try.underlying3 cells3 Try.underlying3 Try.underlying2 Try.underlying4 (hval 1 32 v1 rfl rfl) h1

  clear hA0 hval0 hsz hsz0
  have hW2 := hW'
  rw [List.append_nil] at hW2
  refine (show Calls Try.prog 5 #[.slice u0 len0 cap0, .agg #[x1_0, x1_1, x1_2, x1_3]] W (fun e w' => e = .returned (.bool true) ∧ Below W.heap.size W w') from Ledger.failsAt u0 len0 cap0 x1_0 x1_1 x1_2 x1_3 W big0 (Ledger.comes_of cell0) acct1).mono fun e W' ⟨he, hg⟩ => ?_
  subst he
  exact ⟨_, rfl, Read.post laid (by kernel_rfl) hg hAk hW2 rfl rfl Try.underlying4 rfl⟩

theorem over : Rows.ledgerFailsRow.holds Try.pinned (OpenSpec.ofChange Rows.ledgerFailsSpec) :=
  OpenClaim.holds_of_wide 5 Try.f5 rfl rfl rfl rfl rfl rfl rfl ⟨rfl, rfl, rfl, rfl, rfl⟩ rfl rfl rfl rfl rfl (by kernel_rfl) Try.func5 (by kernel_rfl)
    (of_decide_eq_true (by kernel_rfl)) (by unfold Func.isWrapper; first | (rw [if_pos (by decide +kernel)]; kernel_rfl) | (rw [if_neg (by decide +kernel)]; exact ⟨rfl, rfl⟩))
    (fun os started H enc _ => lifted os started H enc)

/-- THE STATEMENT. -/
theorem proved : Rows.LedgerFailsSaid :=
  over
#print axioms proved
end Go.Proofs.Ytnocgdhepmgncaa.ledgerFails
