/- What a law's shell hands on, in the words of the walks. Conditions: as each fact states them. -/
import Derived.Test.YtjbhighfajdfhaaPullBestW
import Derived.Test.YtjbhighfajdfhaaPullNoneW
import Derived.Test.YtjbhighfajdfhaaPullOrderW
import Derived.Test.YtjbhighfajdfhaaPullChW
import Derived.OpenShut
namespace Go.Proofs.Ytjbhighfajdfhaa.Pull
open Go.ChangeShapes Go.WideShapes Go.ChangeAt Go.RowKit Load
set_option linter.unusedVariables false
set_option linter.unusedSimpArgs false

theorem u64_of {a : Int} (h : (Lit.int .u64 a).wf = true) : U64 a := by have := bounds_u64 h; unfold U64; omega
/-- A slice as the shell opens it. -/
def Raw (v : Option Addr) (n : Nat) (w : World) : Prop := ∀ j, j < n → ∃ k off, v = some ⟨k, off, none⟩ ∧ k < w.heap.size ∧ ∃ (d0 d1 d2 : Int) (d3 : Bool), ((Lit.int .i64 d0).wf = true ∧ (Lit.int .u64 d1).wf = true ∧ (Lit.int .u64 d2).wf = true) ∧ w.cell? ⟨k, off + j * 4, none⟩ = some (.int .i64 d0) ∧ w.cell? ⟨k, off + j * 4 + 1, none⟩ = some (.int .u64 d1) ∧ w.cell? ⟨k, off + j * 4 + 2, none⟩ = some (.int .u64 d2) ∧ w.cell? ⟨k, off + j * 4 + 3, none⟩ = some (.bool d3)
theorem in_of {v : Option Addr} {n cap : Nat} {w : World} (h : Raw v n w) (hl : n ≤ cap) : ∃ C, In v n cap C w := by
  have H : ∀ j, ∃ c : Cd, j < n → c.Ok ∧ ∃ b off, v = some ⟨b, off, none⟩ ∧ b < w.heap.size ∧ w.cell? ⟨b, off + j * 4, none⟩ = some (.int .i64 c.id) ∧ w.cell? ⟨b, off + j * 4 + 1, none⟩ = some (.int .u64 c.wt) ∧ w.cell? ⟨b, off + j * 4 + 2, none⟩ = some (.int .u64 (c.ms : Int)) ∧ w.cell? ⟨b, off + j * 4 + 3, none⟩ = some (.bool c.rn) := fun j => by
    by_cases hj : j < n
    · obtain ⟨b, off, e, hb, d0, d1, d2, d3, ⟨w0, w1, w2⟩, x0, x1, x2, x3⟩ := h j hj
      have b0 := bounds_i64 w0
      have b1 := bounds_u64 w1
      have b2 := bounds_u64 w2
      have e2 : ((d2.toNat : Nat) : Int) = d2 := by omega
      refine ⟨⟨d0, d1, d2.toNat, d3⟩, fun _ => ⟨⟨by simp only; omega, by simp only; omega, by simp only; omega, by simp only; omega, by simp only; omega⟩, b, off, e, hb, x0, x1, ?_, x3⟩⟩
      simp only
      rw [e2]; exact x2
    · exact ⟨⟨0, 0, 0, false⟩, fun h => absurd h hj⟩
  refine ⟨fun j => Classical.choose (H j), fun j hj => ?_, fun j hj => (Classical.choose_spec (H j) hj).1, hl, fun e => ?_⟩
  · exact (Classical.choose_spec (H j) hj).2
  · by_cases h0 : 0 < n
    · obtain ⟨_, _, e2, _⟩ := h 0 h0
      rw [e] at e2; cases e2
    · omega
theorem nearsAt (v : Option Addr) (n cap : Nat) (f t p : Int) (w : World) (hf : (Lit.int .u64 f).wf = true) (ht : (Lit.int .u64 t).wf = true) (hn : n ≤ 9223372036854775807) (hl : n ≤ cap) (h : Raw v n w) :
    Calls Try.prog 4 #[.slice v n cap, .int .u64 f, .int .u64 t, .int .i64 p] w (Yes w) := by
  obtain ⟨C, hI⟩ := in_of h hl
  exact nearsLaw v n cap C f t p w (u64_of hf) (u64_of ht) hn hI
theorem mayAt (v : Option Addr) (n cap : Nat) (f t p : Int) (w : World) (hf : (Lit.int .u64 f).wf = true) (ht : (Lit.int .u64 t).wf = true) (hn : n ≤ 9223372036854775807) (hl : n ≤ cap) (h : Raw v n w) :
    Calls Try.prog 5 #[.slice v n cap, .int .u64 f, .int .u64 t, .int .i64 p] w (Yes w) := by
  obtain ⟨C, hI⟩ := in_of h hl
  exact mayLaw v n cap C f t p w (u64_of hf) (u64_of ht) hn hI
theorem bestAt (v : Option Addr) (n cap : Nat) (f t p : Int) (w : World) (hf : (Lit.int .u64 f).wf = true) (ht : (Lit.int .u64 t).wf = true) (hn : n ≤ 9223372036854775807) (hl : n ≤ cap) (h : Raw v n w) :
    Calls Try.prog 6 #[.slice v n cap, .int .u64 f, .int .u64 t, .int .i64 p] w (Yes w) := by
  obtain ⟨C, hI⟩ := in_of h hl
  exact bestLaw v n cap C f t p w (u64_of hf) (u64_of ht) hn hI
theorem noneAt (v : Option Addr) (n cap : Nat) (f t p : Int) (w : World) (hf : (Lit.int .u64 f).wf = true) (ht : (Lit.int .u64 t).wf = true) (hn : n ≤ 9223372036854775807) (hl : n ≤ cap) (h : Raw v n w) :
    Calls Try.prog 7 #[.slice v n cap, .int .u64 f, .int .u64 t, .int .i64 p] w (Yes w) := by
  obtain ⟨C, hI⟩ := in_of h hl
  exact noneLaw v n cap C f t p w (u64_of hf) (u64_of ht) hn hI
theorem orderAt (v : Option Addr) (n cap : Nat) (f t p : Int) (w : World) (hf : (Lit.int .u64 f).wf = true) (ht : (Lit.int .u64 t).wf = true) (hn : n ≤ 9223372036854775807) (hl : n ≤ cap) (h : Raw v n w) :
    Calls Try.prog 8 #[.slice v n cap, .int .u64 f, .int .u64 t, .int .i64 p] w (Yes w) := by
  obtain ⟨C, hI⟩ := in_of h hl
  exact orderLaw v n cap C f t p w (u64_of hf) (u64_of ht) hn hI
theorem choosesAt (v : Option Addr) (n cap : Nat) (f t p x : Int) (w : World) (hf : (Lit.int .u64 f).wf = true) (ht : (Lit.int .u64 t).wf = true) (hx : (Lit.int .u64 x).wf = true) (hn : n ≤ 9223372036854775807) (hl : n ≤ cap) (h : Raw v n w) :
    Calls Try.prog 3 #[.slice v n cap, .int .u64 f, .int .u64 t, .int .i64 p, .int .u64 x] w (Yes w) := by
  obtain ⟨C, hI⟩ := in_of h hl
  exact choosesLaw v n cap C f t p x w (u64_of hf) (u64_of ht) (u64_of hx) hn hI
end Go.Proofs.Ytjbhighfajdfhaa.Pull
