/- What a law's shell hands on, in the words of the walks. Conditions: as each fact states them. -/
import Derived.Test.YtlbaiblhoojehaaPlaceMoreW
import Derived.OpenShut
namespace Go.Proofs.Ytlbaiblhoojehaa.Place
open Go.ChangeShapes Go.WideShapes Go.ChangeAt Go.RowKit Load
set_option linter.unusedVariables false
set_option linter.unusedSimpArgs false

theorem u64_nat {a : Int} (h : (Lit.int .u64 a).wf = true) : ∃ m : Nat, a = m ∧ m < 18446744073709551616 := by
  have := bounds_u64 h
  exact ⟨a.toNat, by omega, by omega⟩
theorem cell_of {v u : Option Addr} {n cap r : Nat} {zs : List Int} {R : Nat → Bool} {w : World} (hc : ∀ j, j < n → ∃ b off, v = some ⟨b, off, none⟩ ∧ b < w.heap.size ∧ w.cell? ⟨b, off + j, none⟩ = some (.int .u64 (zs[j]?.getD 0))) (hw : ∀ x ∈ zs, (Lit.int .u64 x).wf = true) (hr : n ≤ cap) (hn : v = none → n = 0 ∧ cap = 0)
    (hb : ∀ j, j < r → ∃ b off, u = some ⟨b, off, none⟩ ∧ b < w.heap.size ∧ w.cell? ⟨b, off + j, none⟩ = some (.bool (R j))) : Cell v n cap u r (fun j => zs[j]?.getD 0) R w := by
  refine ⟨⟨hc, fun j _ => ?_, hr, fun e => (hn e).1⟩, hb⟩
  show U64 (zs[j]?.getD 0)
  cases h : zs[j]? with
  | none => unfold U64; simp
  | some x => have := bounds_u64 (hw x (List.mem_of_getElem? h)); unfold U64; simp; omega
section
variable (v : Option Addr) (n cap : Nat) (u : Option Addr) (r rc : Nat) (z : Nat → Int) (R : Nat → Bool) (hn : n ≤ 9223372036854775807) (hr : r ≤ 9223372036854775807)
include hn hr
theorem choosesAt (prev a : Int) (w : World) (ha : (Lit.int .u64 a).wf = true) (h : Cell v n cap u r z R w) : Calls Try.prog 3 #[.slice v n cap, .slice u r rc, .int .i64 prev, .int .u64 a] w (Yes w) := by
  obtain ⟨m, rfl, hm⟩ := u64_nat ha
  exact choosesLaw v n cap u r rc z R m prev w hm hn hr h
theorem mayAt (prev a : Int) (w : World) (ha : (Lit.int .u64 a).wf = true) (h : Cell v n cap u r z R w) : Calls Try.prog 4 #[.slice v n cap, .slice u r rc, .int .i64 prev, .int .u64 a] w (Yes w) := by
  obtain ⟨m, rfl, hm⟩ := u64_nat ha
  exact mayLaw v n cap u r rc z R m prev w hm hn hr h
theorem leastAt (prev a : Int) (w : World) (ha : (Lit.int .u64 a).wf = true) (h : Cell v n cap u r z R w) : Calls Try.prog 5 #[.slice v n cap, .slice u r rc, .int .i64 prev, .int .u64 a] w (Yes w) := by
  obtain ⟨m, rfl, hm⟩ := u64_nat ha
  exact leastLaw v n cap u r rc z R m prev w hm hn hr h
theorem staysAt (p a : Int) (w : World) (hp : (Lit.int .u8 p).wf = true) (ha : (Lit.int .u64 a).wf = true) (h : Cell v n cap u r z R w) : Calls Try.prog 6 #[.slice v n cap, .slice u r rc, .int .u8 p, .int .u64 a] w (Yes w) := by
  obtain ⟨m, rfl, hm⟩ := u64_nat ha
  exact staysLaw v n cap u r rc z R m p w (bounds_u8 hp).1 (bounds_u8 hp).2 hm hn hr h
theorem onesAt (prev p : Int) (w : World) (hp : (Lit.int .u8 p).wf = true) (h : Cell v n cap u r z R w) : Calls Try.prog 7 #[.slice v n cap, .slice u r rc, .int .i64 prev, .int .u8 p] w (Yes w) :=
  onesLaw v n cap u r rc z R prev p w (bounds_u8 hp).1 (bounds_u8 hp).2 hn hr h
theorem moreAt (p a : Int) (w : World) (hp : (Lit.int .u8 p).wf = true) (ha : (Lit.int .u64 a).wf = true) (hroom : r * 1 ≤ 140737488351232) (h : Cell v n cap u r z R w) : Calls Try.prog 8 #[.slice v n cap, .slice u r rc, .int .u8 p, .int .u64 a] w (Yes w) := by
  obtain ⟨m, rfl, hm⟩ := u64_nat ha
  exact moreLaw v n cap u r rc z R m p w (bounds_u8 hp).1 (bounds_u8 hp).2 hm (by omega) hn hr h
end
end Go.Proofs.Ytlbaiblhoojehaa.Place
