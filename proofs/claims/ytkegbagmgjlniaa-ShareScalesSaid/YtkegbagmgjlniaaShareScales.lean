/- For any word of 64 bits, any slice of numbers of 32 bits and any number of 16 bits the law ShareScales returns true: loads that are all as many times as great have the same weights; in another order they have theirs in that. Conditions: none. -/
import Derived.Test.YtkegbagmgjlniaaRows
import Derived.Test.YtkegbagmgjlniaaReadOn
import Derived.Test.YtkegbagmgjlniaaShareLawsD
import Derived.WalkKit
import Derived.ProofKit
import Derived.OpenShut
namespace Go.Proofs.Ytkegbagmgjlniaa.shareScales
open Go.ChangeShapes Go.WideShapes Go.ChangeAt Go.RowKit
set_option linter.unusedVariables false

theorem own : ownKnob Try.prog.godebug = none := by kernel_rfl
theorem laid : laidOutB Try.prog = true := by kernel_rfl
theorem cells33 : Try.prog.cellsOf 33 = 1 := by kernel_rfl
theorem bytes33 : Try.prog.bytesOf 33 = 4 := by kernel_rfl

set_option maxRecDepth 100000 in
theorem lifted (os : Os) (started : os.Started) (H : Type) (enc : TypeId × Value → H) :
    ReturnsInHanded {} Try.checked os 8 .any (Rows.shareScalesSpec.pre6 enc Try.prog Try.f8 Rows.shareScalesRow.domain false) (Rows.shareScalesSpec.post enc Try.prog Try.f8 false true false false) := by
  refine returnsInHanded_of_change_sized (C := Try.checked) own started (by kernel_rfl) Try.func8
    (ChangeSpec.witness6 (enc := enc) (C := Try.checked) false ⟨#[], #[.int .u64 0, .slice none 0 0, .int .u16 0], []⟩ 8 (by kernel_rfl) (by kernel_rfl) (by kernel_rfl) (by kernel_rfl)) ?_
  intro W base args ds gs before hval0 hW hcnd hsz0 _
  have hval : ∀ (j : Nat) t v, Try.f8.params[j]? = some t → args[j]? = some v → Value.okWide Try.prog W .any base t v := hval0
  have hW' := hW
  obtain ⟨p, q, hA0, hV, rfl, hfz, hnd⟩ := hW
  have hA : DataW.TrodAll enc Try.prog W 0 (fun _ => true) true Try.f8.params.toList args.toList ds p := hA0
  have hAk := hA
  rw [Try.params8] at hA hval
  obtain ⟨v0, vs0, d0, ds0, p0, q0, hargs, rfl, rfl, h0, r0⟩ := trodAll_cons hA
  obtain ⟨v1, vs1, d1, ds1, p1, q1, rfl, rfl, rfl, h1, r1⟩ := trodAll_cons r0
  obtain ⟨v2, vs2, d2, ds2, p2, q2, rfl, rfl, rfl, h2, r2⟩ := trodAll_cons r1
  obtain ⟨rfl, rfl, rfl⟩ := trodAll_nil r2
  obtain rfl : args = #[v0, v1, v2] := by cases args; simp_all
  obtain ⟨rfl, rfl⟩ := trodVars_none hV
  have hsz : (DataW.weightsEach Try.prog [22, 34, 36] [d0, d1, d2]).all (· ≤ reachBytes) = true := hsz0
  obtain ⟨a0, rfl, rfl, rfl, w0⟩ := open_int Try.underlying22 (hval 0 22 v0 rfl rfl) h0
  obtain ⟨u1, len1, cap1, zs1, rfl, big1, le1, wf1, cell1⟩ := Read.ints Try.underlying34 Try.underlying33 cells33 (hval 1 34 v1 rfl rfl) h1
  obtain ⟨a2, rfl, rfl, rfl, w2⟩ := open_int Try.underlying36 (hval 2 36 v2 rfl rfl) h2
  have nil1 := Read.nilcap Try.underlying34 Try.underlying33 cells33 h1
  have room1 := Read.room Try.underlying34 Try.underlying33 cells33 bytes33 h1 (j := 1) hsz rfl rfl
  clear hA0 hval0 hsz hsz0
  have hW2 := hW'
  rw [List.append_nil] at hW2
  refine (show Calls Try.prog 8 #[.int .u64 a0, .slice u1 len1 cap1, .int .u16 a2] W (fun e w' => e = .returned (.bool true) ∧ Below W.heap.size W w') from Share.scalesLaw a0 u1 len1 cap1 a2 (fun j => zs1[j]?.getD 0) W (by have := bounds_u64 w0; unfold Wide.U64; omega) big1 (fun j hj => by have hz : j < zs1.length := Nat.lt_of_lt_of_le hj le1; have := bounds_u32 (wf1 _ (List.getElem_mem hz)); simp only [List.getElem?_eq_getElem hz, Option.getD_some]; omega) cell1 (bounds_u16 w2).1 (bounds_u16 w2).2).mono fun e W' ⟨he, hg⟩ => ?_
  subst he
  exact ⟨_, rfl, Read.post laid (by kernel_rfl) hg hAk hW2 rfl rfl Try.underlying4 rfl⟩

theorem over : Rows.shareScalesRow.holds Try.pinned (OpenSpec.ofChange Rows.shareScalesSpec) :=
  OpenClaim.holds_of_wide 8 Try.f8 rfl rfl rfl rfl rfl rfl rfl ⟨rfl, rfl, rfl, rfl, rfl⟩ rfl rfl rfl rfl rfl (by kernel_rfl) Try.func8 (by kernel_rfl)
    (of_decide_eq_true (by kernel_rfl)) (by unfold Func.isWrapper; first | (rw [if_pos (by decide +kernel)]; kernel_rfl) | (rw [if_neg (by decide +kernel)]; exact ⟨rfl, rfl⟩))
    (fun os started H enc _ => lifted os started H enc)

/-- THE STATEMENT. -/
theorem proved : Rows.ShareScalesSaid :=
  over
#print axioms proved
end Go.Proofs.Ytkegbagmgjlniaa.shareScales
