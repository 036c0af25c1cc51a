/- For any slice of deeds and any three integers, the law LedgerForgets returns true: what is forgotten had what it had, and has nothing then; others have what they had, and a group, too. Conditions: none. -/
import Derived.Test.YtnocgdhepmgncaaRows
import Derived.Test.YtnocgdhepmgncaaReadOn
import Derived.Test.YtnocgdhepmgncaaLedgerForgetsW
import Derived.Test.YtnocgdhepmgncaaReadAccts
import Derived.WalkKit
import Derived.ProofKit
import Derived.OpenShut
namespace Go.Proofs.Ytnocgdhepmgncaa.ledgerForgets
open Go.ChangeShapes Go.WideShapes Go.ChangeAt Go.RowKit
set_option linter.unusedVariables false

theorem own : ownKnob Try.prog.godebug = none := by kernel_rfl
theorem laid : laidOutB Try.prog = true := by kernel_rfl
theorem cells32 : Try.prog.cellsOf 32 = 4 := by kernel_rfl
theorem cells3 : Try.prog.cellsOf 3 = 1 := by kernel_rfl

set_option maxRecDepth 100000 in
theorem lifted (os : Os) (started : os.Started) (H : Type) (enc : TypeId × Value → H) :
    ReturnsInHanded {} Try.checked os 7 .any (Rows.ledgerForgetsSpec.pre6 enc Try.prog Try.f7 Rows.ledgerForgetsRow.domain false) (Rows.ledgerForgetsSpec.post enc Try.prog Try.f7 false true false false) := by
  refine returnsInHanded_of_change_sized (C := Try.checked) own started (by kernel_rfl) Try.func7
    (ChangeSpec.witness6 (enc := enc) (C := Try.checked) false ⟨#[], #[.slice none 0 0, .int .i64 0, .int .i64 0, .int .i64 0], []⟩ 8 (by kernel_rfl) (by kernel_rfl) (by kernel_rfl) (by kernel_rfl)) ?_
  intro W base args ds gs before hval0 hW hcnd hsz0 _
  have hval : ∀ (j : Nat) t v, Try.f7.params[j]? = some t → args[j]? = some v → Value.okWide Try.prog W .any base t v := hval0
  have hW' := hW
  obtain ⟨p, q, hA0, hV, rfl, hfz, hnd⟩ := hW
  have hA : DataW.TrodAll enc Try.prog W 0 (fun _ => true) true Try.f7.params.toList args.toList ds p := hA0
  have hAk := hA
  rw [Try.params7] at hA hval
  obtain ⟨v0, vs0, d0, ds0, p0, q0, hargs, rfl, rfl, h0, r0⟩ := trodAll_cons hA
  obtain ⟨v1, vs1, d1, ds1, p1, q1, rfl, rfl, rfl, h1, r1⟩ := trodAll_cons r0
  obtain ⟨v2, vs2, d2, ds2, p2, q2, rfl, rfl, rfl, h2, r2⟩ := trodAll_cons r1
  obtain ⟨v3, vs3, d3, ds3, p3, q3, rfl, rfl, rfl, h3, r3⟩ := trodAll_cons r2
  obtain ⟨rfl, rfl, rfl⟩ := trodAll_nil r3
  obtain rfl : args = #[v0, v1, v2, v3] := by cases args; simp_all
  obtain ⟨rfl, rfl⟩ := trodVars_none hV
  have hsz : (DataW.weightsEach Try.prog [22, 3, 3, 3] [d0, d1, d2, d3]).all (· ≤ reachBytes) = true := hsz0
  obtain ⟨u0, len0, cap0, rfl, big0, lec0, cell0⟩ := Read.accts Try.underlying22 Try.underlying32 cells32 (by kernel_rfl) (by kernel_rfl) Try.underlying30 Try.underlying3 cells3 Try.underlying3 Try.underlying2 Try.underlying4 (hval 0 22 v0 rfl rfl) h0
  obtain ⟨a1, rfl, rfl, rfl, w1⟩ := open_int Try.underlying3 (hval 1 3 v1 rfl rfl) h1
  obtain ⟨a2, rfl, rfl, rfl, w2⟩ := open_int Try.underlying3 (hval 2 3 v2 rfl rfl) h2
  obtain ⟨a3, rfl, rfl, rfl, w3⟩ := open_int Try.underlying3 (hval 3 3 v3 rfl rfl) h3

  clear hA0 hval0 hsz hsz0
  have hW2 := hW'
  rw [List.append_nil] at hW2
  refine (show Calls Try.prog 7 #[.slice u0 len0 cap0, .int .i64 a1, .int .i64 a2, .int .i64 a3] W (fun e w' => e = .returned (.bool true) ∧ Below W.heap.size W w') from Ledger.forgetsLaw u0 len0 cap0 a1 a2 a3 W big0 (Ledger.comes_of cell0) (Ledger.i64_of w1) (Ledger.i64_of w2) (Ledger.i64_of w3)).mono fun e W' ⟨he, hg⟩ => ?_
  subst he
  exact ⟨_, rfl, Read.post laid (by kernel_rfl) hg hAk hW2 rfl rfl Try.underlying4 rfl⟩

theorem over : Rows.ledgerForgetsRow.holds Try.pinned (OpenSpec.ofChange Rows.ledgerForgetsSpec) :=
  OpenClaim.holds_of_wide 7 Try.f7 rfl rfl rfl rfl rfl rfl rfl ⟨rfl, rfl, rfl, rfl, rfl⟩ rfl rfl rfl rfl rfl (by kernel_rfl) Try.func7 (by kernel_rfl)
    (of_decide_eq_true (by kernel_rfl)) (by unfold Func.isWrapper; first | (rw [if_pos (by decide +kernel)]; kernel_rfl) | (rw [if_neg (by decide +kernel)]; exact ⟨rfl, rfl⟩))
    (fun os started H enc _ => lifted os started H enc)

/-- THE STATEMENT. -/
theorem proved : Rows.LedgerForgetsSaid :=
  over
#print axioms proved
end Go.Proofs.Ytnocgdhepmgncaa.ledgerForgets
