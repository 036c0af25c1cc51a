/- What strconv.AppendInt makes of a row of bytes and a number below 100: the number's text behind it. Conditions: the row is the caller's own, and short. -/
import Derived.Test.YtikdhfedidknpaaDoorMaskRuns
import Derived.Test.YtikdhfedidknpaaDoorShelf
import Derived.WalkKit
import Derived.OwnWalk
import Derived.Lib.AppendStr
import Derived.Lib.UnsafeStr
import Derived.Lib.ItoaNum
namespace Go.Proofs.YtikdhfedidknpaaDoor.Mask
open Go.ChangeShapes Go.WideShapes Go.ChangeAt Go.RowKit
set_option linter.unusedVariables false
set_option linter.unusedSimpArgs false
set_option maxRecDepth 100000

/-- A row of bytes of the call's own. -/
def Out (B : Nat) (v : Value) (l : List UInt8) (w : World) : Prop := w.ownsRow B 5 1 v l.length (Lib.byteCells l)
/-- A row of bytes told. -/
def Put (B : Nat) (l : List UInt8) (w : World) (e : Ending) (w' : World) : Prop := ∃ v, e = .returned v ∧ Out B v l w' ∧ Below B w w'

theorem dig_eq (n : Nat) (h : n < 100) : Lib.decDigits n = dig n := by
  unfold dig
  split
  · rename_i h1
    rw [Lib.decDigits, dif_pos h1]
  · rename_i h1
    rw [Lib.decDigits, dif_neg h1, Lib.decDigits, dif_pos (by omega)]
    rfl

theorem infoU8 : (Tryd.prog.info? 5).map (fun i => (i.zero, i.size, i.bytes)) = some (some (.int .u8 0), 1, 1) := by kernel_rfl

theorem byteCells_append (a b : List UInt8) : Lib.byteCells (a ++ b) = Lib.byteCells a ++ Lib.byteCells b := by simp [Lib.byteCells]

theorem appUint (B u : Nat) (hu : u < 100) (v : Value) (l : List UInt8) (w : World) (h : Out B v l w) (hB : B ≤ w.heap.size) (hl : l.length ≤ 1000000000000) :
    Calls Tryd.prog 99 #[v, .int .u64 u, .int .i64 10] w (Put B (l ++ dig u) w) := by
  obtain ⟨i0, hi, hz0, hz1, hz2⟩ := info_parts infoU8
  have hlen : (dig u).length ≤ 2 := (dig_len u).2
  have hsm : ∀ w, Calls Tryd.prog 81 #[.int .i64 u] w fun e w' => e = .returned (.string ⟨(dig u).toArray⟩) ∧ w' = w := by
    intro w
    rw [← dig_eq u hu]
    exact Tryd.internal_strconv_small u hu w
  have hsz : (⟨(dig u).toArray⟩ : ByteArray).size = (dig u).length := by simp [ByteArray.size]
  go_enter Tryd.func99, Tryd.ntmps99
  go_wp2_with (first
    | (go_at_call 81; refine (hsm _).mono ?_; rintro e w' ⟨rfl, rfl⟩)
    | (at_builtin; refine Lib.wpList_append_own_string _ rfl _ _ 54 9 rfl B 5 i0 Tryd.underlying54 Tryd.underlying9 hi hz0 hz1 hz2 _ _ _ rfl h ⟨(dig u).toArray⟩ rfl (by rw [hsz]; unfold maxLen; omega) (by rw [hsz]; omega) hB ?_))
  intro v' w1 hown' hgrow _
  go_wp2
  go_ret
  refine ⟨v', rfl, ?_, (Below.refl B _).grown hgrow hB (fun k hk => (h.lt k hk).1)⟩
  unfold Out
  rw [byteCells_append, List.length_append]
  try rw [hsz] at hown'
  exact hown'

theorem appInt (B u : Nat) (hu : u < 100) (v : Value) (l : List UInt8) (w : World) (h : Out B v l w) (hB : B ≤ w.heap.size) (hl : l.length ≤ 1000000000000) :
    Calls Tryd.prog 70 #[v, .int .i64 u, .int .i64 10] w (Put B (l ++ dig u) w) := by
  have C := Lib.hid (appUint B u hu v l w h hB hl)
  have D : Hid (Calls Tryd.prog 85 #[v, .int .i64 u, .int .i64 10] w (Put B (l ++ dig u) w)) := by
    refine Lib.hid ?_
    clear h
    go_enter Tryd.func85, Tryd.ntmps85
    go_wp2_with (go_at_call 99; refine C.out.mono ?_; rintro e w1 ⟨v1, rfl, h1, h2⟩)
    go_ret
    exact ⟨v1, rfl, h1, h2⟩
  clear h C
  go_enter Tryd.func70, Tryd.ntmps70
  go_wp2_with (go_at_call 85; refine D.out.mono ?_; rintro e w1 ⟨v1, rfl, h1, h2⟩)
  go_ret
  exact ⟨v1, rfl, h1, h2⟩
end Go.Proofs.YtikdhfedidknpaaDoor.Mask
