/- For any deeds the law RunqPlays returns true: whatever is put, dropped, weighed, charged, picked and yields, the answers and all of the queue are the document's. Conditions: none. -/
import Derived.Test.YtdigakgfehaabaaRows
import Derived.Test.YtdigakgfehaabaaReadOn
import Derived.Test.YtdigakgfehaabaaPlaysD
import Derived.WalkKit
import Derived.ProofKit
import Derived.OpenShut
namespace Go.Proofs.Ytdigakgfehaabaa.runqPlays
open Go.ChangeShapes Go.WideShapes Go.ChangeAt Go.RowKit
set_option linter.unusedVariables false

theorem own : ownKnob Try.prog.godebug = none := by kernel_rfl
theorem laid : laidOutB Try.prog = true := by kernel_rfl
theorem cells34 : Try.prog.cellsOf 34 = 7 := by kernel_rfl

set_option maxRecDepth 100000 in
theorem lifted (os : Os) (started : os.Started) (H : Type) (enc : TypeId × Value → H) :
    ReturnsInHanded {} Try.checked os 3 .any (Rows.runqPlaysSpec.pre6 enc Try.prog Try.f3 Rows.runqPlaysRow.domain false) (Rows.runqPlaysSpec.post enc Try.prog Try.f3 false true false false) := by
  refine returnsInHanded_of_change_sized (C := Try.checked) own started (by kernel_rfl) Try.func3
    (ChangeSpec.witness6 (enc := enc) (C := Try.checked) false ⟨#[], #[.slice none 0 0], []⟩ 8 (by kernel_rfl) (by kernel_rfl) (by kernel_rfl) (by kernel_rfl)) ?_
  intro W base args ds gs before hval0 hW hcnd hsz0 _
  have hval : ∀ (j : Nat) t v, Try.f3.params[j]? = some t → args[j]? = some v → Value.okWide Try.prog W .any base t v := hval0
  have hW' := hW
  obtain ⟨p, q, hA0, hV, rfl, hfz, hnd⟩ := hW
  have hA : DataW.TrodAll enc Try.prog W 0 (fun _ => true) true Try.f3.params.toList args.toList ds p := hA0
  have hAk := hA
  rw [Try.params3] at hA hval
  obtain ⟨v0, vs0, d0, ds0, p0, q0, hargs, rfl, rfl, h0, r0⟩ := trodAll_cons hA
  obtain ⟨rfl, rfl, rfl⟩ := trodAll_nil r0
  obtain rfl : args = #[v0] := by cases args; simp_all
  obtain ⟨rfl, rfl⟩ := trodVars_none hV
  have hsz : (DataW.weightsEach Try.prog [22] [d0]).all (· ≤ reachBytes) = true := hsz0
  obtain ⟨u0, len0, cap0, rfl, big0, cell0⟩ := Read.steps Try.underlying22 Try.underlying34 Try.underlying32 cells34 (by kernel_rfl) (by kernel_rfl) Try.underlying3 Try.underlying3 Try.underlying30 Try.underlying2 Try.underlying30 Try.underlying30 Try.underlying2 (hval 0 22 v0 rfl rfl) h0

  clear hA0 hval0 hsz hsz0
  have hW2 := hW'
  rw [List.append_nil] at hW2
  refine (show Calls Try.prog 3 #[.slice u0 len0 cap0] W (fun e w' => e = .returned (.bool true) ∧ Below W.heap.size W w') from Queue.playsLaw u0 len0 cap0 W big0 (fun j hj => by obtain ⟨kk, off, e1, e2, d0, d1, d2, d3, d4, d5, d6, ⟨z0, z1, z2, z3, z4, z5, z6⟩, c0, c1, c2, c3, c4, c5, c6⟩ := cell0 j hj; have y1 := bounds_i64 z1; have y2 := bounds_u64 z2; have y3 := bounds_i64 z3; have y4 := bounds_u64 z4; have y5 := bounds_u64 z5; have y6 := bounds_i64 z6; exact ⟨kk, off, e1, e2, d0, d1, d2, d3, d4, d5, d6, ⟨by unfold Queue.I64; omega, by omega, by unfold Queue.I64; omega, by omega, by omega, by unfold Queue.I64; omega⟩, c0, c1, c2, c3, c4, c5, c6⟩)).mono fun e W' ⟨he, hg⟩ => ?_
  subst he
  exact ⟨_, rfl, Read.post laid (by kernel_rfl) hg hAk hW2 rfl rfl Try.underlying4 rfl⟩

theorem over : Rows.runqPlaysRow.holds Try.pinned (OpenSpec.ofChange Rows.runqPlaysSpec) :=
  OpenClaim.holds_of_wide 3 Try.f3 rfl rfl rfl rfl rfl rfl rfl ⟨rfl, rfl, rfl, rfl, rfl⟩ rfl rfl rfl rfl rfl (by kernel_rfl) Try.func3 (by kernel_rfl)
    (of_decide_eq_true (by kernel_rfl)) (by unfold Func.isWrapper; first | (rw [if_pos (by decide +kernel)]; kernel_rfl) | (rw [if_neg (by decide +kernel)]; exact ⟨rfl, rfl⟩))
    (fun os started H enc _ => lifted os started H enc)

/-- THE STATEMENT. -/
theorem proved : Rows.RunqPlaysSaid :=
  over
#print axioms proved
end Go.Proofs.Ytdigakgfehaabaa.runqPlays
