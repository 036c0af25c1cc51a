/- For any two numbers of 32 bits and one of 16 bits the law TurnBetter returns true: one that lies further behind than the granularity is to be served, nearer than that not. Conditions: none. -/
import Derived.Test.YtfbnnkmjnolnlaaRows
import Derived.Test.YtfbnnkmjnolnlaaReadOn
import Derived.Test.YtfbnnkmjnolnlaaTurnBetterW
import Derived.WalkKit
import Derived.ProofKit
import Derived.OpenShut
namespace Go.Proofs.Ytfbnnkmjnolnlaa.turnBetter
open Go.ChangeShapes Go.WideShapes Go.ChangeAt Go.RowKit
set_option linter.unusedVariables false

theorem own : ownKnob Try.prog.godebug = none := by kernel_rfl
theorem laid : laidOutB Try.prog = true := by kernel_rfl

set_option maxRecDepth 100000 in
theorem lifted (os : Os) (started : os.Started) (H : Type) (enc : TypeId × Value → H) :
    ReturnsInHanded {} Try.checked os 8 .any (Rows.turnBetterSpec.pre6 enc Try.prog Try.f8 Rows.turnBetterRow.domain false) (Rows.turnBetterSpec.post enc Try.prog Try.f8 false true false false) := by
  refine returnsInHanded_of_change_sized (C := Try.checked) own started (by kernel_rfl) Try.func8
    (ChangeSpec.witness6 (enc := enc) (C := Try.checked) false ⟨#[], #[.int .i32 0, .int .i32 0, .int .u16 0], []⟩ 8 (by kernel_rfl) (by kernel_rfl) (by kernel_rfl) (by kernel_rfl)) ?_
  intro W base args ds gs before hval0 hW hcnd hsz0 _
  have hval : ∀ (j : Nat) t v, Try.f8.params[j]? = some t → args[j]? = some v → Value.okWide Try.prog W .any base t v := hval0
  have hW' := hW
  obtain ⟨p, q, hA0, hV, rfl, hfz, hnd⟩ := hW
  have hA : DataW.TrodAll enc Try.prog W 0 (fun _ => true) true Try.f8.params.toList args.toList ds p := hA0
  have hAk := hA
  rw [Try.params8] at hA hval
  obtain ⟨v0, vs0, d0, ds0, p0, q0, hargs, rfl, rfl, h0, r0⟩ := trodAll_cons hA
  obtain ⟨v1, vs1, d1, ds1, p1, q1, rfl, rfl, rfl, h1, r1⟩ := trodAll_cons r0
  obtain ⟨v2, vs2, d2, ds2, p2, q2, rfl, rfl, rfl, h2, r2⟩ := trodAll_cons r1
  obtain ⟨rfl, rfl, rfl⟩ := trodAll_nil r2
  obtain rfl : args = #[v0, v1, v2] := by cases args; simp_all
  obtain ⟨rfl, rfl⟩ := trodVars_none hV
  have hsz : (DataW.weightsEach Try.prog [21, 21, 53] [d0, d1, d2]).all (· ≤ reachBytes) = true := hsz0
  obtain ⟨a0, rfl, rfl, rfl, w0⟩ := open_int Try.underlying21 (hval 0 21 v0 rfl rfl) h0
  obtain ⟨a1, rfl, rfl, rfl, w1⟩ := open_int Try.underlying21 (hval 1 21 v1 rfl rfl) h1
  obtain ⟨a2, rfl, rfl, rfl, w2⟩ := open_int Try.underlying53 (hval 2 53 v2 rfl rfl) h2

  clear hA0 hval0 hsz hsz0
  have hW2 := hW'
  rw [List.append_nil] at hW2
  refine (show Calls Try.prog 8 #[.int .i32 a0, .int .i32 a1, .int .u16 a2] W (fun e w' => e = .returned (.bool true) ∧ Below W.heap.size W w') from Turn.betterLaw a0 a1 a2 W ⟨(by have h := (bounds_i32 w0).1; omega), (by have h := (bounds_i32 w0).2; omega)⟩ ⟨(by have h := (bounds_i32 w1).1; omega), (by have h := (bounds_i32 w1).2; omega)⟩ ⟨(by have h := (bounds_u16 w2).1; omega), (by have h := (bounds_u16 w2).2; omega)⟩).mono fun e W' ⟨he, hg⟩ => ?_
  subst he
  exact ⟨_, rfl, Read.post laid (by kernel_rfl) hg hAk hW2 rfl rfl Try.underlying4 rfl⟩

theorem over : Rows.turnBetterRow.holds Try.pinned (OpenSpec.ofChange Rows.turnBetterSpec) :=
  OpenClaim.holds_of_wide 8 Try.f8 rfl rfl rfl rfl rfl rfl rfl ⟨rfl, rfl, rfl, rfl, rfl⟩ rfl rfl rfl rfl rfl (by kernel_rfl) Try.func8 (by kernel_rfl)
    (of_decide_eq_true (by kernel_rfl)) (by unfold Func.isWrapper; first | (rw [if_pos (by decide +kernel)]; kernel_rfl) | (rw [if_neg (by decide +kernel)]; exact ⟨rfl, rfl⟩))
    (fun os started H enc _ => lifted os started H enc)

/-- THE STATEMENT. -/
theorem proved : Rows.TurnBetterSaid :=
  over
#print axioms proved
end Go.Proofs.Ytfbnnkmjnolnlaa.turnBetter
