/- For any deeds the law TurnAll returns true: all time that is ticked is busy or idle, once; what one was served since it began is no more than all. Conditions: none. -/
import Derived.Test.YtfbnnkmjnolnlaaRows
import Derived.Test.YtfbnnkmjnolnlaaReadOn
import Derived.Test.YtfbnnkmjnolnlaaTurnAllW
import Derived.Test.YtfbnnkmjnolnlaaReadTicks
import Derived.WalkKit
import Derived.ProofKit
import Derived.OpenShut
namespace Go.Proofs.Ytfbnnkmjnolnlaa.turnAll
open Go.ChangeShapes Go.WideShapes Go.ChangeAt Go.RowKit
set_option linter.unusedVariables false

theorem own : ownKnob Try.prog.godebug = none := by kernel_rfl
theorem laid : laidOutB Try.prog = true := by kernel_rfl
theorem cells34 : Try.prog.cellsOf 34 = 5 := by kernel_rfl

set_option maxRecDepth 100000 in
theorem lifted (os : Os) (started : os.Started) (H : Type) (enc : TypeId × Value → H) :
    ReturnsInHanded {} Try.checked os 5 .any (Rows.turnAllSpec.pre6 enc Try.prog Try.f5 Rows.turnAllRow.domain false) (Rows.turnAllSpec.post enc Try.prog Try.f5 false true false false) := by
  refine returnsInHanded_of_change_sized (C := Try.checked) own started (by kernel_rfl) Try.func5
    (ChangeSpec.witness6 (enc := enc) (C := Try.checked) false ⟨#[], #[.slice none 0 0], []⟩ 8 (by kernel_rfl) (by kernel_rfl) (by kernel_rfl) (by kernel_rfl)) ?_
  intro W base args ds gs before hval0 hW hcnd hsz0 _
  have hval : ∀ (j : Nat) t v, Try.f5.params[j]? = some t → args[j]? = some v → Value.okWide Try.prog W .any base t v := hval0
  have hW' := hW
  obtain ⟨p, q, hA0, hV, rfl, hfz, hnd⟩ := hW
  have hA : DataW.TrodAll enc Try.prog W 0 (fun _ => true) true Try.f5.params.toList args.toList ds p := hA0
  have hAk := hA
  rw [Try.params5] at hA hval
  obtain ⟨v0, vs0, d0, ds0, p0, q0, hargs, rfl, rfl, h0, r0⟩ := trodAll_cons hA
  obtain ⟨rfl, rfl, rfl⟩ := trodAll_nil r0
  obtain rfl : args = #[v0] := by cases args; simp_all
  obtain ⟨rfl, rfl⟩ := trodVars_none hV
  have hsz : (DataW.weightsEach Try.prog [23] [d0]).all (· ≤ reachBytes) = true := hsz0
  obtain ⟨u0, len0, cap0, rfl, big0, cell0⟩ := Read.ticks Try.underlying23 Try.underlying34 cells34 (by kernel_rfl) (by kernel_rfl) Try.underlying4 Try.underlying3 Try.underlying22 Try.underlying22 Try.underlying22 (hval 0 23 v0 rfl rfl) h0

  clear hA0 hval0 hsz hsz0
  have hW2 := hW'
  rw [List.append_nil] at hW2
  refine (show Calls Try.prog 5 #[.slice u0 len0 cap0] W (fun e w' => e = .returned (.bool true) ∧ Below W.heap.size W w') from Turn.allLaw u0 len0 cap0 W big0 (fun j hj => by obtain ⟨kk, off, e1, e2, d0, d1, d2, d3, d4, ⟨z1, z2, z3, z4⟩, c0, c1, c2, c3, c4⟩ := cell0 j hj; exact ⟨kk, off, e1, e2, d0, d1, d2, d3, d4, ⟨⟨(by have h := (bounds_i64 z1).1; omega), (by have h := (bounds_i64 z1).2; omega)⟩, ⟨(by have h := (bounds_u64 z2).1; omega), (by have h := (bounds_u64 z2).2; omega)⟩, ⟨(by have h := (bounds_u64 z3).1; omega), (by have h := (bounds_u64 z3).2; omega)⟩, ⟨(by have h := (bounds_u64 z4).1; omega), (by have h := (bounds_u64 z4).2; omega)⟩⟩, c0, c1, c2, c3, c4⟩)).mono fun e W' ⟨he, hg⟩ => ?_
  subst he
  exact ⟨_, rfl, Read.post laid (by kernel_rfl) hg hAk hW2 rfl rfl Try.underlying4 rfl⟩

theorem over : Rows.turnAllRow.holds Try.pinned (OpenSpec.ofChange Rows.turnAllSpec) :=
  OpenClaim.holds_of_wide 5 Try.f5 rfl rfl rfl rfl rfl rfl rfl ⟨rfl, rfl, rfl, rfl, rfl⟩ rfl rfl rfl rfl rfl (by kernel_rfl) Try.func5 (by kernel_rfl)
    (of_decide_eq_true (by kernel_rfl)) (by unfold Func.isWrapper; first | (rw [if_pos (by decide +kernel)]; kernel_rfl) | (rw [if_neg (by decide +kernel)]; exact ⟨rfl, rfl⟩))
    (fun os started H enc _ => lifted os started H enc)

/-- THE STATEMENT. -/
theorem proved : Rows.TurnAllSaid :=
  over
#print axioms proved
end Go.Proofs.Ytfbnnkmjnolnlaa.turnAll
