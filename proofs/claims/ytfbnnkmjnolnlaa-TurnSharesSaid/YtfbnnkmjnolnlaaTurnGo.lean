/- How a clock's times go on. Conditions: as each fact states them. -/
import Derived.Test.YtfbnnkmjnolnlaaTurnPlain
import Derived.Test.YtfbnnkmjnolnlaaMem
import Derived.Laws.Externs
import Derived.Handy
import Derived.IntWalk
import Derived.LoopTactic
import Derived.LoopN
import Derived.Lib.Hide
namespace Go.Proofs.Ytfbnnkmjnolnlaa.Turn
open Go.ChangeShapes Go.WideShapes Go.ChangeAt Go.RowKit Mem
set_option linter.unusedVariables false
set_option linter.unusedSimpArgs false

def Went (w1 w : World) (e : Ending) (w' : World) : Prop := e = .returned (.tuple #[]) ∧ w' = w1

theorem add64 (x y : Int) (hx : U64 x) (hy : U64 y) (w : World) :
    (callFunc 34 #[.int .u64 x, .int .u64 y, .int .u64 0]).run Try.prog w = .ok (.value (.tuple #[.int .u64 ((x + y) % 18446744073709551616), .int .u64 ((x + y) / 18446744073709551616)])) w := by
  have h1 := hx.1
  have h2 := hy.1
  rw [run_callFunc_extern Try.func34 (by kernel_rfl) (by kernel_rfl) (by kernel_rfl) (e := add64Entry) (by kernel_rfl), run_add64 x y 0 h1 h2 (by omega) (by omega)]
  simp only [Result.andThen, Int.add_zero]

theorem goOn (w : World) (b j : Nat) (x n : Int) (hx : U64 x) (hn : U64 n) (hc : w.cell? ⟨b, j, none⟩ = some (.int .u64 x)) (hf : w.frozen? ⟨b, j, none⟩ = false) :
    Calls Try.prog 26 #[.pointer (some ⟨b, j, none⟩), .int .u64 n] w (Went (w.setCell ⟨b, j, none⟩ (.int .u64 (top (x + n)))) w) := by
  have A := fun W => add64 x n hx hn W
  unfold U64 at hx hn
  by_cases h : 18446744073709551615 < x + n
  · rw [show (x + n) / 18446744073709551616 = 1 by omega] at A
    rw [show top (x + n) = 18446744073709551615 by unfold top; rw [if_pos h]]
    go_enter Try.func26, Try.ntmps26
    go_wp2_with (simp only [A])
    go_end0; exact ⟨rfl, rfl⟩
  · rw [show (x + n) / 18446744073709551616 = 0 by omega, show (x + n) % 18446744073709551616 = x + n by omega] at A
    rw [show top (x + n) = x + n by unfold top; rw [if_neg h]]
    go_enter Try.func26, Try.ntmps26
    go_wp2_with (simp only [A])
    go_end0; exact ⟨rfl, rfl⟩
end Go.Proofs.Ytfbnnkmjnolnlaa.Turn
