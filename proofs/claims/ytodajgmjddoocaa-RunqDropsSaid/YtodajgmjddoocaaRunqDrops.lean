/- For any slice of entities and any number of 8 bits the law RunqDrops returns true: what is dropped is told as it stood, and put again stands as it did; the others stay; without a current one nothing is charged. Conditions: none. -/
import Derived.Test.YtodajgmjddoocaaRows
import Derived.Test.YtodajgmjddoocaaReadOn
import Derived.Test.YtodajgmjddoocaaRunqDropsW
import Derived.Test.YtodajgmjddoocaaReadEnts
import Derived.WalkKit
import Derived.ProofKit
import Derived.OpenShut
namespace Go.Proofs.Ytodajgmjddoocaa.runqDrops
open Go.ChangeShapes Go.WideShapes Go.ChangeAt Go.RowKit
set_option linter.unusedVariables false

theorem own : ownKnob Try.prog.godebug = none := by kernel_rfl
theorem laid : laidOutB Try.prog = true := by kernel_rfl
theorem cells32 : Try.prog.cellsOf 32 = 4 := by kernel_rfl

set_option maxRecDepth 100000 in
theorem lifted (os : Os) (started : os.Started) (H : Type) (enc : TypeId × Value → H) :
    ReturnsInHanded {} Try.checked os 8 .any (Rows.runqDropsSpec.pre6 enc Try.prog Try.f8 Rows.runqDropsRow.domain false) (Rows.runqDropsSpec.post enc Try.prog Try.f8 false true false false) := by
  refine returnsInHanded_of_change_sized (C := Try.checked) own started (by kernel_rfl) Try.func8
    (ChangeSpec.witness6 (enc := enc) (C := Try.checked) false ⟨#[], #[.slice none 0 0, .int .u8 0], []⟩ 8 (by kernel_rfl) (by kernel_rfl) (by kernel_rfl) (by kernel_rfl)) ?_
  intro W base args ds gs before hval0 hW hcnd hsz0 _
  have hval : ∀ (j : Nat) t v, Try.f8.params[j]? = some t → args[j]? = some v → Value.okWide Try.prog W .any base t v := hval0
  have hW' := hW
  obtain ⟨p, q, hA0, hV, rfl, hfz, hnd⟩ := hW
  have hA : DataW.TrodAll enc Try.prog W 0 (fun _ => true) true Try.f8.params.toList args.toList ds p := hA0
  have hAk := hA
  rw [Try.params8] at hA hval
  obtain ⟨v0, vs0, d0, ds0, p0, q0, hargs, rfl, rfl, h0, r0⟩ := trodAll_cons hA
  obtain ⟨v1, vs1, d1, ds1, p1, q1, rfl, rfl, rfl, h1, r1⟩ := trodAll_cons r0
  obtain ⟨rfl, rfl, rfl⟩ := trodAll_nil r1
  obtain rfl : args = #[v0, v1] := by cases args; simp_all
  obtain ⟨rfl, rfl⟩ := trodVars_none hV
  have hsz : (DataW.weightsEach Try.prog [26, 5] [d0, d1]).all (· ≤ reachBytes) = true := hsz0
  obtain ⟨u0, len0, cap0, rfl, big0, cell0⟩ := Read.fours Try.underlying26 Try.underlying32 cells32 (by kernel_rfl) (by kernel_rfl) Try.underlying3 Try.underlying30 Try.underlying2 Try.underlying30 (hval 0 26 v0 rfl rfl) h0
  obtain ⟨a1, rfl, rfl, rfl, w1⟩ := open_int Try.underlying5 (hval 1 5 v1 rfl rfl) h1

  clear hA0 hval0 hsz hsz0
  have hW2 := hW'
  rw [List.append_nil] at hW2
  refine (show Calls Try.prog 8 #[.slice u0 len0 cap0, .int .u8 a1] W (fun e w' => e = .returned (.bool true) ∧ Below W.heap.size W w') from Queue.dropsLaw u0 len0 cap0 a1 W (bounds_u8 w1).1 (bounds_u8 w1).2 big0 (fun j hj => by obtain ⟨k, off, e1, e2, d0, d1, d2, d3, ⟨z0, z1, z2, z3⟩, c0, c1, c2, c3⟩ := cell0 j hj; have y0 := bounds_i64 z0; have y1 := bounds_u64 z1; have y2 := bounds_i64 z2; have y3 := bounds_u64 z3; exact ⟨k, off, e1, e2, ⟨d0, d1, d2, d3⟩, ⟨by unfold Queue.I64; simp only; omega, by simp only; omega, by unfold Queue.I64; simp only; omega, by simp only; omega⟩, c0, c1, c2, c3⟩)).mono fun e W' ⟨he, hg⟩ => ?_
  subst he
  exact ⟨_, rfl, Read.post laid (by kernel_rfl) hg hAk hW2 rfl rfl Try.underlying4 rfl⟩

theorem over : Rows.runqDropsRow.holds Try.pinned (OpenSpec.ofChange Rows.runqDropsSpec) :=
  OpenClaim.holds_of_wide 8 Try.f8 rfl rfl rfl rfl rfl rfl rfl ⟨rfl, rfl, rfl, rfl, rfl⟩ rfl rfl rfl rfl rfl (by kernel_rfl) Try.func8 (by kernel_rfl)
    (of_decide_eq_true (by kernel_rfl)) (by unfold Func.isWrapper; first | (rw [if_pos (by decide +kernel)]; kernel_rfl) | (rw [if_neg (by decide +kernel)]; exact ⟨rfl, rfl⟩))
    (fun os started H enc _ => lifted os started H enc)

/-- THE STATEMENT. -/
theorem proved : Rows.RunqDropsSaid :=
  over
#print axioms proved
end Go.Proofs.Ytodajgmjddoocaa.runqDrops
