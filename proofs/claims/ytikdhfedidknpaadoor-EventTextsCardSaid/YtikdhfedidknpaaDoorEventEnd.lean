/- The walks of layer 19's laws over arguments as they come in: a slice of events is a list of events. Conditions: the listed variables hold what they are listed with. -/
import Derived.Test.YtikdhfedidknpaaDoorEventManyW
namespace Go.Proofs.YtikdhfedidknpaaDoor.Event
open Go.ChangeShapes Go.WideShapes Go.ChangeAt Go.RowKit
set_option linter.unusedVariables false
set_option linter.unusedSimpArgs false

theorem i64_wf {a : Int} (h : (Lit.int .i64 a).wf = true) : I64 a := by
  have : -9223372036854775808 ≤ a ∧ a ≤ 9223372036854775807 := by simpa [Lit.wf, IntKind.min, IntKind.max, IntKind.signed, IntKind.bits] using h
  exact this
theorem u64_wf {a : Int} (h : (Lit.int .u64 a).wf = true) : 0 ≤ a ∧ a ≤ 18446744073709551615 := by
  simpa [Lit.wf, IntKind.min, IntKind.max, IntKind.signed, IntKind.bits] using h
theorem u8_wf {a : Int} (h : (Lit.int .u8 a).wf = true) : 0 ≤ a ∧ a ≤ 255 := by
  simpa [Lit.wf, IntKind.min, IntKind.max, IntKind.signed, IntKind.bits] using h
/-- A slice that came in, as the shell opens it. -/
def Came (a : Option Addr) (len : Nat) (W : World) : Prop := ∀ j, j < len → ∃ k off, a = some ⟨k, off, none⟩ ∧ k < W.heap.size ∧ ∃ d0 d1 d2 d3 d4 d5 : Int, ((Lit.int .i64 d0).wf = true ∧ (Lit.int .i64 d1).wf = true ∧ (Lit.int .i64 d2).wf = true ∧ (Lit.int .i64 d3).wf = true ∧ (Lit.int .i64 d4).wf = true ∧ (Lit.int .u64 d5).wf = true) ∧ W.cell? ⟨k, off + j * 6, none⟩ = some (.int .i64 d0) ∧ W.cell? ⟨k, off + j * 6 + 1, none⟩ = some (.int .i64 d1) ∧ W.cell? ⟨k, off + j * 6 + 2, none⟩ = some (.int .i64 d2) ∧ W.cell? ⟨k, off + j * 6 + 3, none⟩ = some (.int .i64 d3) ∧ W.cell? ⟨k, off + j * 6 + 4, none⟩ = some (.int .i64 d4) ∧ W.cell? ⟨k, off + j * 6 + 5, none⟩ = some (.int .u64 d5)
theorem came_list {a : Option Addr} {W : World} : ∀ (n : Nat), Came a n W → ∃ l : List Ev, l.length = n ∧ Evs a l W ∧ ∀ e ∈ l, e.Ok
  | 0, _ => ⟨[], rfl, fun j e h => by simp at h, fun e h => by cases h⟩
  | n + 1, h => by
    obtain ⟨l, h1, h2, h3⟩ := came_list n (fun j hj => h j (by omega))
    obtain ⟨k, off, e1, e2, d0, d1, d2, d3, d4, d5, ⟨w0, w1, w2, w3, w4, w5⟩, c0, c1, c2, c3, c4, c5⟩ := h n (by omega)
    have h5 := u64_wf w5
    refine ⟨l ++ [⟨d0, d1, d2, d3, d4, d5.toNat⟩], by simp [h1], fun j e he => ?_, fun e he => ?_⟩
    · by_cases hj : j < l.length
      · rw [List.getElem?_append_left hj] at he
        exact h2 j e he
      · rw [List.getElem?_append_right (by omega)] at he
        have hj0 : j - l.length = 0 := by
          have := (List.getElem?_eq_some_iff.1 he).1
          simp at this
          omega
        rw [hj0] at he
        simp at he
        subst he
        obtain rfl : j = n := by omega
        exact ⟨k, off, e1, e2, c0, c1, c2, c3, c4, by rw [c5]; simp only [Option.some.injEq, Value.int.injEq, true_and]; omega⟩
    · rcases List.mem_append.1 he with he | he
      · exact h3 e he
      · rw [List.mem_singleton] at he
        subst he
        exact ⟨i64_wf w0, i64_wf w1, i64_wf w2, i64_wf w3, i64_wf w4, by simp only; omega⟩
theorem back' (a : Option Addr) (len cap : Nat) (W : World) (hT : Tab W) (hl : len ≤ 9223372036854775807) (h : Came a len W) : Calls Tryd.prog 5 #[.slice a len cap] W (IsYes W) := by
  obtain ⟨l, rfl, h2, h3⟩ := came_list len h
  exact back_ a l cap W hT h2 h3 hl
theorem again' (s : ByteArray) (W : World) (hT : Tab W) : Calls Tryd.prog 6 #[.string s] W (IsYes W) := by
  rw [str_data s]
  exact again_ s.data.toList W hT
theorem joins' (s t : ByteArray) (W : World) (hT : Tab W) : Calls Tryd.prog 7 #[.string s, .string t] W (IsYes W) := by
  rw [str_data s, str_data t]
  exact joins_ s.data.toList t.data.toList W hT
theorem many' (kd a : Int) (w0 : (Lit.int .u8 kd).wf = true) (w1 : (Lit.int .u8 a).wf = true) (W : World) (hT : Tab W) : Calls Tryd.prog 8 #[.int .u8 kd, .int .u8 a] W (IsYes W) := many_ kd a (u8_wf w0) (u8_wf w1) W hT
end Go.Proofs.YtikdhfedidknpaaDoor.Event
