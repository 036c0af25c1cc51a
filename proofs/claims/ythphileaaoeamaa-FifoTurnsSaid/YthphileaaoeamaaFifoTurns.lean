/- For any slice of bytes the law FifoTurns returns true: those that are put are taken in turn, each once. Conditions: none. -/
import Derived.Test.YthphileaaoeamaaRows
import Derived.Test.YthphileaaoeamaaReadOn
import Derived.Test.YthphileaaoeamaaFifoTurnsW
import Derived.WalkKit
import Derived.ProofKit
import Derived.OpenShut
namespace Go.Proofs.Ythphileaaoeamaa.fifoTurns
open Go.ChangeShapes Go.WideShapes Go.ChangeAt Go.RowKit
set_option linter.unusedVariables false

theorem own : ownKnob Try.prog.godebug = none := by kernel_rfl
theorem laid : laidOutB Try.prog = true := by kernel_rfl
theorem cells5 : Try.prog.cellsOf 5 = 1 := by kernel_rfl
theorem bytes5 : Try.prog.bytesOf 5 = 1 := by kernel_rfl

set_option maxRecDepth 100000 in
theorem lifted (os : Os) (started : os.Started) (H : Type) (enc : TypeId × Value → H) :
    ReturnsInHanded {} Try.checked os 5 .any (Rows.fifoTurnsSpec.pre6 enc Try.prog Try.f5 Rows.fifoTurnsRow.domain false) (Rows.fifoTurnsSpec.post enc Try.prog Try.f5 false true false false) := by
  refine returnsInHanded_of_change_sized (C := Try.checked) own started (by kernel_rfl) Try.func5
    (ChangeSpec.witness6 (enc := enc) (C := Try.checked) false ⟨#[], #[.slice none 0 0], []⟩ 8 (by kernel_rfl) (by kernel_rfl) (by kernel_rfl) (by kernel_rfl)) ?_
  intro W base args ds gs before hval0 hW hcnd hsz0 _
  have hval : ∀ (j : Nat) t v, Try.f5.params[j]? = some t → args[j]? = some v → Value.okWide Try.prog W .any base t v := hval0
  have hW' := hW
  obtain ⟨p, q, hA0, hV, rfl, hfz, hnd⟩ := hW
  have hA : DataW.TrodAll enc Try.prog W 0 (fun _ => true) true Try.f5.params.toList args.toList ds p := hA0
  have hAk := hA
  rw [Try.params5] at hA hval
  obtain ⟨v0, vs0, d0, ds0, p0, q0, hargs, rfl, rfl, h0, r0⟩ := trodAll_cons hA
  obtain ⟨rfl, rfl, rfl⟩ := trodAll_nil r0
  obtain rfl : args = #[v0] := by cases args; simp_all
  obtain ⟨rfl, rfl⟩ := trodVars_none hV
  have hsz : (DataW.weightsEach Try.prog [43] [d0]).all (· ≤ reachBytes) = true := hsz0
  obtain ⟨u0, len0, cap0, zs0, rfl, big0, le0, wf0, cell0⟩ := Read.ints Try.underlying43 Try.underlying5 cells5 (hval 0 43 v0 rfl rfl) h0
  have nil0 := Read.nilcap Try.underlying43 Try.underlying5 cells5 h0
  have room0 := Read.room Try.underlying43 Try.underlying5 cells5 bytes5 h0 (j := 0) hsz rfl rfl
  clear hA0 hval0 hsz hsz0
  have hW2 := hW'
  rw [List.append_nil] at hW2
  refine (show Calls Try.prog 5 #[.slice u0 len0 cap0] W (fun e w' => e = .returned (.bool true) ∧ Below W.heap.size W w') from Fifo.turnsLaw u0 len0 cap0 (fun j => zs0[j]?.getD 0) W big0 (fun j hj => by have hz : j < zs0.length := Nat.lt_of_lt_of_le hj le0; have := bounds_u8 (wf0 _ (List.getElem_mem hz)); simp only [List.getElem?_eq_getElem hz, Option.getD_some]; omega) cell0).mono fun e W' ⟨he, hg⟩ => ?_
  subst he
  exact ⟨_, rfl, Read.post laid (by kernel_rfl) hg hAk hW2 rfl rfl Try.underlying4 rfl⟩

theorem over : Rows.fifoTurnsRow.holds Try.pinned (OpenSpec.ofChange Rows.fifoTurnsSpec) :=
  OpenClaim.holds_of_wide 5 Try.f5 rfl rfl rfl rfl rfl rfl rfl ⟨rfl, rfl, rfl, rfl, rfl⟩ rfl rfl rfl rfl rfl (by kernel_rfl) Try.func5 (by kernel_rfl)
    (of_decide_eq_true (by kernel_rfl)) (by unfold Func.isWrapper; first | (rw [if_pos (by decide +kernel)]; kernel_rfl) | (rw [if_neg (by decide +kernel)]; exact ⟨rfl, rfl⟩))
    (fun os started H enc _ => lifted os started H enc)

/-- THE STATEMENT. -/
theorem proved : Rows.FifoTurnsSaid :=
  over
#print axioms proved
end Go.Proofs.Ythphileaaoeamaa.fifoTurns
