/- For any two words of 64 bits and any slice of them the law ShareGrows returns true: a P with more load has no less weight, one with as much has as much; a group of more shares weighs no less anywhere. Conditions: none. -/
import Derived.Test.YtkegbagmgjlniaaRows
import Derived.Test.YtkegbagmgjlniaaReadOn
import Derived.Test.YtkegbagmgjlniaaShareLawsC
import Derived.WalkKit
import Derived.ProofKit
import Derived.OpenShut
namespace Go.Proofs.Ytkegbagmgjlniaa.shareGrows
open Go.ChangeShapes Go.WideShapes Go.ChangeAt Go.RowKit
set_option linter.unusedVariables false

theorem own : ownKnob Try.prog.godebug = none := by kernel_rfl
theorem laid : laidOutB Try.prog = true := by kernel_rfl
theorem cells22 : Try.prog.cellsOf 22 = 1 := by kernel_rfl
theorem bytes22 : Try.prog.bytesOf 22 = 8 := by kernel_rfl

set_option maxRecDepth 100000 in
theorem lifted (os : Os) (started : os.Started) (H : Type) (enc : TypeId × Value → H) :
    ReturnsInHanded {} Try.checked os 5 .any (Rows.shareGrowsSpec.pre6 enc Try.prog Try.f5 Rows.shareGrowsRow.domain false) (Rows.shareGrowsSpec.post enc Try.prog Try.f5 false true false false) := by
  refine returnsInHanded_of_change_sized (C := Try.checked) own started (by kernel_rfl) Try.func5
    (ChangeSpec.witness6 (enc := enc) (C := Try.checked) false ⟨#[], #[.int .u64 0, .int .u64 0, .slice none 0 0], []⟩ 8 (by kernel_rfl) (by kernel_rfl) (by kernel_rfl) (by kernel_rfl)) ?_
  intro W base args ds gs before hval0 hW hcnd hsz0 _
  have hval : ∀ (j : Nat) t v, Try.f5.params[j]? = some t → args[j]? = some v → Value.okWide Try.prog W .any base t v := hval0
  have hW' := hW
  obtain ⟨p, q, hA0, hV, rfl, hfz, hnd⟩ := hW
  have hA : DataW.TrodAll enc Try.prog W 0 (fun _ => true) true Try.f5.params.toList args.toList ds p := hA0
  have hAk := hA
  rw [Try.params5] at hA hval
  obtain ⟨v0, vs0, d0, ds0, p0, q0, hargs, rfl, rfl, h0, r0⟩ := trodAll_cons hA
  obtain ⟨v1, vs1, d1, ds1, p1, q1, rfl, rfl, rfl, h1, r1⟩ := trodAll_cons r0
  obtain ⟨v2, vs2, d2, ds2, p2, q2, rfl, rfl, rfl, h2, r2⟩ := trodAll_cons r1
  obtain ⟨rfl, rfl, rfl⟩ := trodAll_nil r2
  obtain rfl : args = #[v0, v1, v2] := by cases args; simp_all
  obtain ⟨rfl, rfl⟩ := trodVars_none hV
  have hsz : (DataW.weightsEach Try.prog [22, 22, 27] [d0, d1, d2]).all (· ≤ reachBytes) = true := hsz0
  obtain ⟨a0, rfl, rfl, rfl, w0⟩ := open_int Try.underlying22 (hval 0 22 v0 rfl rfl) h0
  obtain ⟨a1, rfl, rfl, rfl, w1⟩ := open_int Try.underlying22 (hval 1 22 v1 rfl rfl) h1
  obtain ⟨u2, len2, cap2, zs2, rfl, big2, le2, wf2, cell2⟩ := Read.ints Try.underlying27 Try.underlying22 cells22 (hval 2 27 v2 rfl rfl) h2
  have nil2 := Read.nilcap Try.underlying27 Try.underlying22 cells22 h2
  have room2 := Read.room Try.underlying27 Try.underlying22 cells22 bytes22 h2 (j := 2) hsz rfl rfl
  clear hA0 hval0 hsz hsz0
  have hW2 := hW'
  rw [List.append_nil] at hW2
  refine (show Calls Try.prog 5 #[.int .u64 a0, .int .u64 a1, .slice u2 len2 cap2] W (fun e w' => e = .returned (.bool true) ∧ Below W.heap.size W w') from Share.growsLaw a0 a1 u2 len2 cap2 (fun j => zs2[j]?.getD 0) W (by have := bounds_u64 w0; unfold Wide.U64; omega) (by have := bounds_u64 w1; unfold Wide.U64; omega) big2 (fun j hj => by have hz : j < zs2.length := Nat.lt_of_lt_of_le hj le2; have := bounds_u64 (wf2 _ (List.getElem_mem hz)); simp only [List.getElem?_eq_getElem hz, Option.getD_some]; unfold Wide.U64; omega) cell2).mono fun e W' ⟨he, hg⟩ => ?_
  subst he
  exact ⟨_, rfl, Read.post laid (by kernel_rfl) hg hAk hW2 rfl rfl Try.underlying4 rfl⟩

theorem over : Rows.shareGrowsRow.holds Try.pinned (OpenSpec.ofChange Rows.shareGrowsSpec) :=
  OpenClaim.holds_of_wide 5 Try.f5 rfl rfl rfl rfl rfl rfl rfl ⟨rfl, rfl, rfl, rfl, rfl⟩ rfl rfl rfl rfl rfl (by kernel_rfl) Try.func5 (by kernel_rfl)
    (of_decide_eq_true (by kernel_rfl)) (by unfold Func.isWrapper; first | (rw [if_pos (by decide +kernel)]; kernel_rfl) | (rw [if_neg (by decide +kernel)]; exact ⟨rfl, rfl⟩))
    (fun os started H enc _ => lifted os started H enc)

/-- THE STATEMENT. -/
theorem proved : Rows.ShareGrowsSaid :=
  over
#print axioms proved
end Go.Proofs.Ytkegbagmgjlniaa.shareGrows
