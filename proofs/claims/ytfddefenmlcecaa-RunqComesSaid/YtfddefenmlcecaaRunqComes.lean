/- For any three numbers of 16 bits, any pieces of work before and behind, and any weight the law RunqComes returns true: one that waits is served again before the others have gone past what the terms and its weight allow. Conditions: none. -/
import Derived.Test.YtfddefenmlcecaaRows
import Derived.Test.YtfddefenmlcecaaReadOn
import Derived.Test.YtfddefenmlcecaaRunqComesB
import Derived.WalkKit
import Derived.ProofKit
import Derived.OpenShut
namespace Go.Proofs.Ytfddefenmlcecaa.runqComes
open Go.ChangeShapes Go.WideShapes Go.ChangeAt Go.RowKit
set_option linter.unusedVariables false

theorem own : ownKnob Try.prog.godebug = none := by kernel_rfl
theorem laid : laidOutB Try.prog = true := by kernel_rfl
theorem cells52 : Try.prog.cellsOf 52 = 1 := by kernel_rfl
theorem cells53 : Try.prog.cellsOf 53 = 3 := by kernel_rfl
theorem cells68 : Try.prog.cellsOf 68 = 2 := by kernel_rfl
theorem cells54 : Try.prog.cellsOf 54 = 1 := by kernel_rfl
theorem cells61 : Try.prog.cellsOf 61 = 5 := by kernel_rfl
theorem list3 (l : List Int) (h : l.length = 3) : ∃ x0 x1 x2, l = [x0, x1, x2] := by
  match l, h with
  | [x0, x1, x2], _ => exact ⟨x0, x1, x2, rfl⟩

set_option maxRecDepth 100000 in
theorem lifted (os : Os) (started : os.Started) (H : Type) (enc : TypeId × Value → H) :
    ReturnsInHanded {} Try.checked os 6 .any (Rows.runqComesSpec.pre6 enc Try.prog Try.f6 Rows.runqComesRow.domain false) (Rows.runqComesSpec.post enc Try.prog Try.f6 false true false false) := by
  refine returnsInHanded_of_change_sized (C := Try.checked) own started (by kernel_rfl) Try.func6
    (ChangeSpec.witness6 (enc := enc) (C := Try.checked) false ⟨#[], #[.agg #[.int .u16 0, .int .u16 0, .int .u16 0], .agg #[.slice none 0 0, .slice none 0 0], .int .u32 0], []⟩ 8 (by kernel_rfl) (by kernel_rfl) (by kernel_rfl) (by kernel_rfl)) ?_
  intro W base args ds gs before hval0 hW hcnd hsz0 _
  have hval : ∀ (j : Nat) t v, Try.f6.params[j]? = some t → args[j]? = some v → Value.okWide Try.prog W .any base t v := hval0
  have hW' := hW
  obtain ⟨p, q, hA0, hV, rfl, hfz, hnd⟩ := hW
  have hA : DataW.TrodAll enc Try.prog W 0 (fun _ => true) true Try.f6.params.toList args.toList ds p := hA0
  have hAk := hA
  rw [Try.params6] at hA hval
  obtain ⟨v0, vs0, d0, ds0, p0, q0, hargs, rfl, rfl, h0, r0⟩ := trodAll_cons hA
  obtain ⟨v1, vs1, d1, ds1, p1, q1, rfl, rfl, rfl, h1, r1⟩ := trodAll_cons r0
  obtain ⟨v2, vs2, d2, ds2, p2, q2, rfl, rfl, rfl, h2, r2⟩ := trodAll_cons r1
  obtain ⟨rfl, rfl, rfl⟩ := trodAll_nil r2
  obtain rfl : args = #[v0, v1, v2] := by cases args; simp_all
  obtain ⟨rfl, rfl⟩ := trodVars_none hV
  have hsz : (DataW.weightsEach Try.prog [53, 68, 59] [d0, d1, d2]).all (· ≤ reachBytes) = true := hsz0
  obtain ⟨l0, ll0, rfl, lw0⟩ := Read.array Try.underlying53 Try.underlying52 cells52 cells53 (hval 0 53 v0 rfl rfl) h0
  obtain ⟨x0_0, x0_1, x0_2, rfl⟩ : ∃ x0_0 x0_1 x0_2, l0 = [x0_0, x0_1, x0_2] := list3 l0 ll0
  have w0_0 := lw0 x0_0 (by simp)
  have w0_1 := lw0 x0_1 (by simp)
  have w0_2 := lw0 x0_2 (by simp)
  obtain ⟨u1, len1, cap1, z1, lez1, caz1, rfl, cell1, celz1⟩ := Read.pairWorks Try.underlying68 Try.underlying54 cells54 cells68 Try.underlying61 cells61 (by kernel_rfl) (by kernel_rfl) Try.underlying3 Try.underlying5 Try.underlying59 Try.underlying59 Try.underlying4 (hval 1 68 v1 rfl rfl) h1
  obtain ⟨a2, rfl, rfl, rfl, w2⟩ := open_int Try.underlying59 (hval 2 59 v2 rfl rfl) h2

  clear hA0 hval0 hsz hsz0
  have hW2 := hW'
  rw [List.append_nil] at hW2
  refine (show Calls Try.prog 6 #[.agg #[.int .u16 x0_0, .int .u16 x0_1, .int .u16 x0_2], .agg #[.slice u1 len1 cap1, .slice z1 lez1 caz1], .int .u32 a2] W (fun e w' => e = .returned (.bool true) ∧ Below W.heap.size W w') from Queue.comesLaw x0_0 x0_1 x0_2 u1 len1 cap1 z1 lez1 caz1 a2 W (bounds_u16 w0_0) (bounds_u16 w0_1) (bounds_u16 w0_2) (bounds_u32 w2) cell1.1 celz1.1 (fun j hj => by obtain ⟨kk, off, e1, e2, d0, d1, d2, d3, d4, ⟨z0, z1, z2, z3⟩, c0, c1, c2, c3, c4⟩ := cell1.2 j hj; exact ⟨kk, off, e1, e2, ⟨d0, d1, d2, d3, d4⟩, ⟨bounds_u8 z1, bounds_u32 z2, bounds_u32 z3⟩, c0, c1, c2, c3, c4⟩) (fun j hj => by obtain ⟨kk, off, e1, e2, d0, d1, d2, d3, d4, ⟨z0, z1, z2, z3⟩, c0, c1, c2, c3, c4⟩ := celz1.2 j hj; exact ⟨kk, off, e1, e2, ⟨d0, d1, d2, d3, d4⟩, ⟨bounds_u8 z1, bounds_u32 z2, bounds_u32 z3⟩, c0, c1, c2, c3, c4⟩)).mono fun e W' ⟨he, hg⟩ => ?_
  subst he
  exact ⟨_, rfl, Read.post laid (by kernel_rfl) hg hAk hW2 rfl rfl Try.underlying4 rfl⟩

theorem over : Rows.runqComesRow.holds Try.pinned (OpenSpec.ofChange Rows.runqComesSpec) :=
  OpenClaim.holds_of_wide 6 Try.f6 rfl rfl rfl rfl rfl rfl rfl ⟨rfl, rfl, rfl, rfl, rfl⟩ rfl rfl rfl rfl rfl (by kernel_rfl) Try.func6 (by kernel_rfl)
    (of_decide_eq_true (by kernel_rfl)) (by unfold Func.isWrapper; first | (rw [if_pos (by decide +kernel)]; kernel_rfl) | (rw [if_neg (by decide +kernel)]; exact ⟨rfl, rfl⟩))
    (fun os started H enc _ => lifted os started H enc)

/-- THE STATEMENT. -/
theorem proved : Rows.RunqComesSaid :=
  over
#print axioms proved
end Go.Proofs.Ytfddefenmlcecaa.runqComes
