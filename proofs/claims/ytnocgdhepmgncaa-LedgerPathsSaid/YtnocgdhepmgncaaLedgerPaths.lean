/- For any slice of bytes and any slice of words of 32 bits, the law LedgerPaths returns true: a group that stands on each path that another one is on had no less than that; one that is on all had all. Conditions: none. -/
import Derived.Test.YtnocgdhepmgncaaRows
import Derived.Test.YtnocgdhepmgncaaReadOn
import Derived.Test.YtnocgdhepmgncaaLedgerPathsW
import Derived.WalkKit
import Derived.ProofKit
import Derived.OpenShut
namespace Go.Proofs.Ytnocgdhepmgncaa.ledgerPaths
open Go.ChangeShapes Go.WideShapes Go.ChangeAt Go.RowKit
set_option linter.unusedVariables false

theorem own : ownKnob Try.prog.godebug = none := by kernel_rfl
theorem laid : laidOutB Try.prog = true := by kernel_rfl
theorem cells5 : Try.prog.cellsOf 5 = 1 := by kernel_rfl
theorem cells49 : Try.prog.cellsOf 49 = 1 := by kernel_rfl
theorem bytes5 : Try.prog.bytesOf 5 = 1 := by kernel_rfl
theorem bytes49 : Try.prog.bytesOf 49 = 4 := by kernel_rfl

set_option maxRecDepth 100000 in
theorem lifted (os : Os) (started : os.Started) (H : Type) (enc : TypeId × Value → H) :
    ReturnsInHanded {} Try.checked os 6 .any (Rows.ledgerPathsSpec.pre6 enc Try.prog Try.f6 Rows.ledgerPathsRow.domain false) (Rows.ledgerPathsSpec.post enc Try.prog Try.f6 false true false false) := by
  refine returnsInHanded_of_change_sized (C := Try.checked) own started (by kernel_rfl) Try.func6
    (ChangeSpec.witness6 (enc := enc) (C := Try.checked) false ⟨#[], #[.slice none 0 0, .slice none 0 0], []⟩ 8 (by kernel_rfl) (by kernel_rfl) (by kernel_rfl) (by kernel_rfl)) ?_
  intro W base args ds gs before hval0 hW hcnd hsz0 _
  have hval : ∀ (j : Nat) t v, Try.f6.params[j]? = some t → args[j]? = some v → Value.okWide Try.prog W .any base t v := hval0
  have hW' := hW
  obtain ⟨p, q, hA0, hV, rfl, hfz, hnd⟩ := hW
  have hA : DataW.TrodAll enc Try.prog W 0 (fun _ => true) true Try.f6.params.toList args.toList ds p := hA0
  have hAk := hA
  rw [Try.params6] at hA hval
  obtain ⟨v0, vs0, d0, ds0, p0, q0, hargs, rfl, rfl, h0, r0⟩ := trodAll_cons hA
  obtain ⟨v1, vs1, d1, ds1, p1, q1, rfl, rfl, rfl, h1, r1⟩ := trodAll_cons r0
  obtain ⟨rfl, rfl, rfl⟩ := trodAll_nil r1
  obtain rfl : args = #[v0, v1] := by cases args; simp_all
  obtain ⟨rfl, rfl⟩ := trodVars_none hV
  have hsz : (DataW.weightsEach Try.prog [47, 48] [d0, d1]).all (· ≤ reachBytes) = true := hsz0
  obtain ⟨u0, len0, cap0, zs0, rfl, big0, le0, wf0, cell0⟩ := Read.ints Try.underlying47 Try.underlying5 cells5 (hval 0 47 v0 rfl rfl) h0
  obtain ⟨u1, len1, cap1, zs1, rfl, big1, le1, wf1, cell1⟩ := Read.ints Try.underlying48 Try.underlying49 cells49 (hval 1 48 v1 rfl rfl) h1
  have nil0 := Read.nilcap Try.underlying47 Try.underlying5 cells5 h0
  have lec0 := Read.lecap Try.underlying47 Try.underlying5 cells5 h0
  have room0 := Read.room Try.underlying47 Try.underlying5 cells5 bytes5 h0 (j := 0) hsz rfl rfl
  have nil1 := Read.nilcap Try.underlying48 Try.underlying49 cells49 h1
  have lec1 := Read.lecap Try.underlying48 Try.underlying49 cells49 h1
  have room1 := Read.room Try.underlying48 Try.underlying49 cells49 bytes49 h1 (j := 1) hsz rfl rfl
  clear hA0 hval0 hsz hsz0
  have hW2 := hW'
  rw [List.append_nil] at hW2
  refine (show Calls Try.prog 6 #[.slice u0 len0 cap0, .slice u1 len1 cap1] W (fun e w' => e = .returned (.bool true) ∧ Below W.heap.size W w') from Ledger.pathsAt u0 u1 len0 len1 cap0 cap1 zs0 zs1 W big0 big1 wf0 wf1 cell0 cell1).mono fun e W' ⟨he, hg⟩ => ?_
  subst he
  exact ⟨_, rfl, Read.post laid (by kernel_rfl) hg hAk hW2 rfl rfl Try.underlying4 rfl⟩

theorem over : Rows.ledgerPathsRow.holds Try.pinned (OpenSpec.ofChange Rows.ledgerPathsSpec) :=
  OpenClaim.holds_of_wide 6 Try.f6 rfl rfl rfl rfl rfl rfl rfl ⟨rfl, rfl, rfl, rfl, rfl⟩ rfl rfl rfl rfl rfl (by kernel_rfl) Try.func6 (by kernel_rfl)
    (of_decide_eq_true (by kernel_rfl)) (by unfold Func.isWrapper; first | (rw [if_pos (by decide +kernel)]; kernel_rfl) | (rw [if_neg (by decide +kernel)]; exact ⟨rfl, rfl⟩))
    (fun os started H enc _ => lifted os started H enc)

/-- THE STATEMENT. -/
theorem proved : Rows.LedgerPathsSaid :=
  over
#print axioms proved
end Go.Proofs.Ytnocgdhepmgncaa.ledgerPaths
