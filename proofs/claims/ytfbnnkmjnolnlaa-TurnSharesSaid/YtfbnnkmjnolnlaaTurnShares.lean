/- For any latency of 32 bits and any weights the law TurnShares returns true: slices of all beside each other are no more than the latency together, but for those that are 1 at least; more weight has no lesser slice. Conditions: none. -/
import Derived.Test.YtfbnnkmjnolnlaaRows
import Derived.Test.YtfbnnkmjnolnlaaReadOn
import Derived.Test.YtfbnnkmjnolnlaaTurnSharesW
import Derived.WalkKit
import Derived.ProofKit
import Derived.OpenShut
namespace Go.Proofs.Ytfbnnkmjnolnlaa.turnShares
open Go.ChangeShapes Go.WideShapes Go.ChangeAt Go.RowKit
set_option linter.unusedVariables false

theorem own : ownKnob Try.prog.godebug = none := by kernel_rfl
theorem laid : laidOutB Try.prog = true := by kernel_rfl
theorem cells53 : Try.prog.cellsOf 53 = 1 := by kernel_rfl
theorem bytes53 : Try.prog.bytesOf 53 = 2 := by kernel_rfl

set_option maxRecDepth 100000 in
theorem lifted (os : Os) (started : os.Started) (H : Type) (enc : TypeId × Value → H) :
    ReturnsInHanded {} Try.checked os 6 .any (Rows.turnSharesSpec.pre6 enc Try.prog Try.f6 Rows.turnSharesRow.domain false) (Rows.turnSharesSpec.post enc Try.prog Try.f6 false true false false) := by
  refine returnsInHanded_of_change_sized (C := Try.checked) own started (by kernel_rfl) Try.func6
    (ChangeSpec.witness6 (enc := enc) (C := Try.checked) false ⟨#[], #[.int .u32 0, .slice none 0 0], []⟩ 8 (by kernel_rfl) (by kernel_rfl) (by kernel_rfl) (by kernel_rfl)) ?_
  intro W base args ds gs before hval0 hW hcnd hsz0 _
  have hval : ∀ (j : Nat) t v, Try.f6.params[j]? = some t → args[j]? = some v → Value.okWide Try.prog W .any base t v := hval0
  have hW' := hW
  obtain ⟨p, q, hA0, hV, rfl, hfz, hnd⟩ := hW
  have hA : DataW.TrodAll enc Try.prog W 0 (fun _ => true) true Try.f6.params.toList args.toList ds p := hA0
  have hAk := hA
  rw [Try.params6] at hA hval
  obtain ⟨v0, vs0, d0, ds0, p0, q0, hargs, rfl, rfl, h0, r0⟩ := trodAll_cons hA
  obtain ⟨v1, vs1, d1, ds1, p1, q1, rfl, rfl, rfl, h1, r1⟩ := trodAll_cons r0
  obtain ⟨rfl, rfl, rfl⟩ := trodAll_nil r1
  obtain rfl : args = #[v0, v1] := by cases args; simp_all
  obtain ⟨rfl, rfl⟩ := trodVars_none hV
  have hsz : (DataW.weightsEach Try.prog [51, 52] [d0, d1]).all (· ≤ reachBytes) = true := hsz0
  obtain ⟨a0, rfl, rfl, rfl, w0⟩ := open_int Try.underlying51 (hval 0 51 v0 rfl rfl) h0
  obtain ⟨u1, len1, cap1, zs1, rfl, big1, le1, wf1, cell1⟩ := Read.ints Try.underlying52 Try.underlying53 cells53 (hval 1 52 v1 rfl rfl) h1
  have nil1 := Read.nilcap Try.underlying52 Try.underlying53 cells53 h1
  have lec1 := Read.lecap Try.underlying52 Try.underlying53 cells53 h1
  have room1 := Read.room Try.underlying52 Try.underlying53 cells53 bytes53 h1 (j := 1) hsz rfl rfl
  clear hA0 hval0 hsz hsz0
  have hW2 := hW'
  rw [List.append_nil] at hW2
  refine (show Calls Try.prog 6 #[.int .u32 a0, .slice u1 len1 cap1] W (fun e w' => e = .returned (.bool true) ∧ Below W.heap.size W w') from Turn.sharesLaw a0 u1 len1 cap1 (fun j => zs1[j]?.getD 0) W ⟨(by have h := (bounds_u32 w0).1; omega), (by have h := (bounds_u32 w0).2; omega)⟩ big1 (fun j hj => by obtain ⟨kk, off, e1, e2, c0⟩ := cell1 j hj; exact ⟨kk, off, e1, e2, (by have h := bounds_u16 (wf1 _ (List.getElem_mem (show j < zs1.length from Nat.lt_of_lt_of_le hj le1))); have e : zs1[j]?.getD 0 = zs1[j]'(Nat.lt_of_lt_of_le hj le1) := (by rw [List.getElem?_eq_getElem (Nat.lt_of_lt_of_le hj le1)]; rfl); show 0 ≤ zs1[j]?.getD 0 ∧ zs1[j]?.getD 0 ≤ 65535; rw [e]; omega), c0⟩) (fun j hj => by have h := bounds_u16 (wf1 _ (List.getElem_mem (show j < zs1.length from Nat.lt_of_lt_of_le hj le1))); have e : zs1[j]?.getD 0 = zs1[j]'(Nat.lt_of_lt_of_le hj le1) := (by rw [List.getElem?_eq_getElem (Nat.lt_of_lt_of_le hj le1)]; rfl); show 0 ≤ zs1[j]?.getD 0 ∧ zs1[j]?.getD 0 ≤ 65535; rw [e]; omega)).mono fun e W' ⟨he, hg⟩ => ?_
  subst he
  exact ⟨_, rfl, Read.post laid (by kernel_rfl) hg hAk hW2 rfl rfl Try.underlying4 rfl⟩

theorem over : Rows.turnSharesRow.holds Try.pinned (OpenSpec.ofChange Rows.turnSharesSpec) :=
  OpenClaim.holds_of_wide 6 Try.f6 rfl rfl rfl rfl rfl rfl rfl ⟨rfl, rfl, rfl, rfl, rfl⟩ rfl rfl rfl rfl rfl (by kernel_rfl) Try.func6 (by kernel_rfl)
    (of_decide_eq_true (by kernel_rfl)) (by unfold Func.isWrapper; first | (rw [if_pos (by decide +kernel)]; kernel_rfl) | (rw [if_neg (by decide +kernel)]; exact ⟨rfl, rfl⟩))
    (fun os started H enc _ => lifted os started H enc)

/-- THE STATEMENT. -/
theorem proved : Rows.TurnSharesSaid :=
  over
#print axioms proved
end Go.Proofs.Ytfbnnkmjnolnlaa.turnShares
