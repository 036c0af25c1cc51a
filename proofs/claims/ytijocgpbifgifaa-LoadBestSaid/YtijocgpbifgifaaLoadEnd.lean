/- What a law's shell hands on, in the words of the walks. Conditions: as each fact states them. -/
import Derived.Test.YtijocgpbifgifaaLoadLawsB
import Derived.OpenShut
namespace Go.Proofs.Ytijocgpbifgifaa.Load
open Go.ChangeShapes Go.WideShapes Go.ChangeAt Go.RowKit
set_option linter.unusedVariables false
set_option linter.unusedSimpArgs false

theorem u64_of {a : Int} (h : (Lit.int .u64 a).wf = true) : U64 a := by have := bounds_u64 h; unfold U64; omega
theorem u64_nat {a : Int} (h : (Lit.int .u64 a).wf = true) : ∃ m : Nat, a = m ∧ m < 18446744073709551616 := by
  have := bounds_u64 h
  exact ⟨a.toNat, by omega, by omega⟩
theorem in_of {v : Option Addr} {n cap : Nat} {zs : List Int} {w : World} (hc : ∀ j, j < n → ∃ b off, v = some ⟨b, off, none⟩ ∧ b < w.heap.size ∧ w.cell? ⟨b, off + j, none⟩ = some (.int .u64 (zs[j]?.getD 0))) (hw : ∀ x ∈ zs, (Lit.int .u64 x).wf = true) (hr : n ≤ cap) (hn : v = none → n = 0 ∧ cap = 0) : In v n cap (fun j => zs[j]?.getD 0) w := by
  refine ⟨hc, fun j _ => ?_, hr, fun e => (hn e).1⟩
  show U64 (zs[j]?.getD 0)
  cases h : zs[j]? with
  | none => unfold U64; simp
  | some x => exact u64_of (hw x (List.mem_of_getElem? h))
theorem findsAt (v : Option Addr) (n cap : Nat) (mine a : Int) (z : Nat → Int) (w : World) (ha : (Lit.int .u64 a).wf = true) (hn : n ≤ 9223372036854775807) (h : In v n cap z w) :
    Calls Try.prog 3 #[.slice v n cap, .int .i64 mine, .int .u64 a] w (Yes w) := by
  obtain ⟨m, rfl, hm⟩ := u64_nat ha
  exact findsLaw v n cap m mine z w hm hn h
theorem idlesAt (v : Option Addr) (n cap : Nat) (a : Int) (z : Nat → Int) (w : World) (ha : (Lit.int .u64 a).wf = true) (hn : n ≤ 9223372036854775807) (h : In v n cap z w) :
    Calls Try.prog 6 #[.slice v n cap, .int .u64 a] w (Yes w) := by
  obtain ⟨m, rfl, hm⟩ := u64_nat ha
  exact idlesLaw v n cap m z w hm hn h
end Go.Proofs.Ytijocgpbifgifaa.Load
