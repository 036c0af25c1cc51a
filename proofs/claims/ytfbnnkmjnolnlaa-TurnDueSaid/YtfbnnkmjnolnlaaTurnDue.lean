/- For any latency, any weights and any pieces of service the law TurnDue returns true: a slice is over just when one was served as long as it, in however many ticks. Conditions: none. -/
import Derived.Test.YtfbnnkmjnolnlaaRows
import Derived.Test.YtfbnnkmjnolnlaaReadOn
import Derived.Test.YtfbnnkmjnolnlaaTurnDueW
import Derived.Test.YtfbnnkmjnolnlaaReadDue
import Derived.WalkKit
import Derived.ProofKit
import Derived.OpenShut
namespace Go.Proofs.Ytfbnnkmjnolnlaa.turnDue
open Go.ChangeShapes Go.WideShapes Go.ChangeAt Go.RowKit
set_option linter.unusedVariables false

theorem own : ownKnob Try.prog.godebug = none := by kernel_rfl
theorem laid : laidOutB Try.prog = true := by kernel_rfl
theorem cells56 : Try.prog.cellsOf 56 = 4 := by kernel_rfl
theorem cells53 : Try.prog.cellsOf 53 = 1 := by kernel_rfl

set_option maxRecDepth 100000 in
theorem lifted (os : Os) (started : os.Started) (H : Type) (enc : TypeId × Value → H) :
    ReturnsInHanded {} Try.checked os 7 .any (Rows.turnDueSpec.pre6 enc Try.prog Try.f7 Rows.turnDueRow.domain false) (Rows.turnDueSpec.post enc Try.prog Try.f7 false true false false) := by
  refine returnsInHanded_of_change_sized (C := Try.checked) own started (by kernel_rfl) Try.func7
    (ChangeSpec.witness6 (enc := enc) (C := Try.checked) false ⟨#[], #[.agg #[.int .u32 0, .int .u16 0, .int .u16 0, .slice none 0 0]], []⟩ 8 (by kernel_rfl) (by kernel_rfl) (by kernel_rfl) (by kernel_rfl)) ?_
  intro W base args ds gs before hval0 hW hcnd hsz0 _
  have hval : ∀ (j : Nat) t v, Try.f7.params[j]? = some t → args[j]? = some v → Value.okWide Try.prog W .any base t v := hval0
  have hW' := hW
  obtain ⟨p, q, hA0, hV, rfl, hfz, hnd⟩ := hW
  have hA : DataW.TrodAll enc Try.prog W 0 (fun _ => true) true Try.f7.params.toList args.toList ds p := hA0
  have hAk := hA
  rw [Try.params7] at hA hval
  obtain ⟨v0, vs0, d0, ds0, p0, q0, hargs, rfl, rfl, h0, r0⟩ := trodAll_cons hA
  obtain ⟨rfl, rfl, rfl⟩ := trodAll_nil r0
  obtain rfl : args = #[v0] := by cases args; simp_all
  obtain ⟨rfl, rfl⟩ := trodVars_none hV
  have hsz : (DataW.weightsEach Try.prog [56] [d0]).all (· ≤ reachBytes) = true := hsz0
  obtain ⟨x0_0, x0_1, x0_2, u0, len0, cap0, zs0, rfl, w0_0, w0_1, w0_2, big0, lec0, le0, wf0, nil0, cell0⟩ := Read.due Try.underlying56 (by kernel_rfl) cells56 Try.underlying51 Try.underlying53 Try.underlying53 Try.underlying52 Try.underlying53 cells53 (hval 0 56 v0 rfl rfl) h0

  clear hA0 hval0 hsz hsz0
  have hW2 := hW'
  rw [List.append_nil] at hW2
  refine (show Calls Try.prog 7 #[.agg #[.int .u32 x0_0, .int .u16 x0_1, .int .u16 x0_2, .slice u0 len0 cap0]] W (fun e w' => e = .returned (.bool true) ∧ Below W.heap.size W w') from Turn.dueLaw x0_0 x0_1 x0_2 u0 len0 cap0 (fun j => zs0[j]?.getD 0) W ⟨(by have h := (bounds_u32 w0_0).1; omega), (by have h := (bounds_u32 w0_0).2; omega)⟩ ⟨(by have h := (bounds_u16 w0_1).1; omega), (by have h := (bounds_u16 w0_1).2; omega)⟩ ⟨(by have h := (bounds_u16 w0_2).1; omega), (by have h := (bounds_u16 w0_2).2; omega)⟩ big0 (fun j hj => by obtain ⟨kk, off, e1, e2, c0⟩ := cell0 j hj; exact ⟨kk, off, e1, e2, (by have h := bounds_u16 (wf0 _ (List.getElem_mem (show j < zs0.length from Nat.lt_of_lt_of_le hj le0))); have e : zs0[j]?.getD 0 = zs0[j]'(Nat.lt_of_lt_of_le hj le0) := (by rw [List.getElem?_eq_getElem (Nat.lt_of_lt_of_le hj le0)]; rfl); show 0 ≤ zs0[j]?.getD 0 ∧ zs0[j]?.getD 0 ≤ 65535; rw [e]; omega), c0⟩)).mono fun e W' ⟨he, hg⟩ => ?_
  subst he
  exact ⟨_, rfl, Read.post laid (by kernel_rfl) hg hAk hW2 rfl rfl Try.underlying4 rfl⟩

theorem over : Rows.turnDueRow.holds Try.pinned (OpenSpec.ofChange Rows.turnDueSpec) :=
  OpenClaim.holds_of_wide 7 Try.f7 rfl rfl rfl rfl rfl rfl rfl ⟨rfl, rfl, rfl, rfl, rfl⟩ rfl rfl rfl rfl rfl (by kernel_rfl) Try.func7 (by kernel_rfl)
    (of_decide_eq_true (by kernel_rfl)) (by unfold Func.isWrapper; first | (rw [if_pos (by decide +kernel)]; kernel_rfl) | (rw [if_neg (by decide +kernel)]; exact ⟨rfl, rfl⟩))
    (fun os started H enc _ => lifted os started H enc)

/-- THE STATEMENT. -/
theorem proved : Rows.TurnDueSaid :=
  over
#print axioms proved
end Go.Proofs.Ytfbnnkmjnolnlaa.turnDue
