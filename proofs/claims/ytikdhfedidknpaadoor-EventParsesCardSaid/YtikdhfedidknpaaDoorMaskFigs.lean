/- What the document's figures tell of a number below 100: its text. Conditions: the number is below 100. -/
import Derived.Test.YtikdhfedidknpaaDoorMaskText
namespace Go.Proofs.YtikdhfedidknpaaDoor.Mask
open Go.ChangeShapes Go.WideShapes Go.ChangeAt Go.RowKit
set_option linter.unusedVariables false
set_option linter.unusedSimpArgs false
set_option maxRecDepth 100000

theorem new_string (w : World) (l : List UInt8) (h : l.length ≤ 100) (cs : Array Value) (hcs : cs.toList = Lib.byteCells l) (k : Nat) (hk : k = l.length) :
    (convert 54 9 (.slice (some ⟨w.heap.size, 0, none⟩) k k)).run Tryd.prog (w.alloc (.cells cs 5)) = .ok (.string ⟨l.toArray⟩) (w.alloc (.cells cs 5)) := by
  subst hk
  refine Out.string (B := w.heap.size) ⟨by simp [Lib.byteCells], .inr ⟨w.heap.size, l.length, cs, rfl, Nat.le_refl _, ?_, Nat.le_refl _, by unfold maxLen; omega, ?_, ?_⟩⟩
  · show (w.heap.push _)[w.heap.size]? = _
    rw [Array.getElem?_push, if_pos rfl]
  · rw [← Array.length_toList, hcs]
    simp [Lib.byteCells]
  · rw [hcs]
    exact List.take_of_length_le (by simp [Lib.byteCells])

theorem alloc_below (w : World) (o : Obj) : Below w.heap.size w (w.alloc o) := (Below.refl _ w).alloc (Nat.le_refl _) _

theorem byte_nat (k : Nat) (h : k < 256) : (UInt8.ofNat k).toNat = k := by rw [UInt8.toNat_ofNat']; omega
theorem dig_new1 (n : Nat) (h : n < 10) (w : World) : (convert 54 9 (.slice (some ⟨w.heap.size, 0, none⟩) 1 1)).run Tryd.prog (w.alloc (.cells #[.int .u8 (48 + (n : Int))] 5)) = .ok (.string ⟨(dig n).toArray⟩) (w.alloc (.cells #[.int .u8 (48 + (n : Int))] 5)) := by
  have e : dig n = [UInt8.ofNat (48 + n)] := by rw [dig, if_pos h]
  rw [e]
  refine new_string w _ (by simp) _ ?_ 1 rfl
  show [Value.int .u8 (48 + (n : Int))] = [Value.int .u8 ((UInt8.ofNat (48 + n)).toNat : Int)]
  rw [byte_nat _ (by omega)]
  rfl
theorem dig_new2 (n : Nat) (h1 : ¬ n < 10) (h : n < 100) (w : World) : (convert 54 9 (.slice (some ⟨w.heap.size, 0, none⟩) 2 2)).run Tryd.prog (w.alloc (.cells #[.int .u8 (48 + (n : Int) / 10), .int .u8 (48 + (n : Int) % 10)] 5)) = .ok (.string ⟨(dig n).toArray⟩) (w.alloc (.cells #[.int .u8 (48 + (n : Int) / 10), .int .u8 (48 + (n : Int) % 10)] 5)) := by
  have e : dig n = [UInt8.ofNat (48 + n / 10), UInt8.ofNat (48 + n % 10)] := by rw [dig, if_neg h1]
  rw [e]
  refine new_string w _ (by simp) _ ?_ 2 rfl
  show [Value.int .u8 (48 + (n : Int) / 10), Value.int .u8 (48 + (n : Int) % 10)] = [Value.int .u8 ((UInt8.ofNat (48 + n / 10)).toNat : Int), Value.int .u8 ((UInt8.ofNat (48 + n % 10)).toNat : Int)]
  rw [byte_nat _ (by omega), byte_nat _ (by omega)]
  rfl

theorem docFigs_as (n : Nat) (h : n < 100) (S : ByteArray) (w : World) (h1 : n < 10 → (convert 54 9 (.slice (some ⟨w.heap.size, 0, none⟩) 1 1)).run Tryd.prog (w.alloc (.cells #[.int .u8 (48 + (n : Int))] 5)) = .ok (.string S) (w.alloc (.cells #[.int .u8 (48 + (n : Int))] 5)))
    (h2 : ¬ n < 10 → (convert 54 9 (.slice (some ⟨w.heap.size, 0, none⟩) 2 2)).run Tryd.prog (w.alloc (.cells #[.int .u8 (48 + (n : Int) / 10), .int .u8 (48 + (n : Int) % 10)] 5)) = .ok (.string S) (w.alloc (.cells #[.int .u8 (48 + (n : Int) / 10), .int .u8 (48 + (n : Int) % 10)] 5))) :
    Calls Tryd.prog 54 #[.int .i64 n] w (fun e w' => e = .returned (.string S) ∧ Below w.heap.size w w') := by
  by_cases hn : n < 10
  · have hc := h1 hn
    have hb := alloc_below w (.cells #[.int .u8 (48 + (n : Int))] 5)
    clear h1 h2
    go_enter Tryd.func54, Tryd.ntmps54
    go_wp2
    go_ret
    exact ⟨rfl, hb⟩
  · have hc := h2 hn
    have hb := alloc_below w (.cells #[.int .u8 (48 + (n : Int) / 10), .int .u8 (48 + (n : Int) % 10)] 5)
    clear h1 h2
    go_enter Tryd.func54, Tryd.ntmps54
    go_wp2
    go_ret
    exact ⟨rfl, hb⟩
theorem docFigs (n : Nat) (h : n < 100) (w : World) : Calls Tryd.prog 54 #[.int .i64 n] w (IsStr (dig n) w) :=
  docFigs_as n h _ w (fun hn => dig_new1 n hn w) (fun hn => dig_new2 n hn h w)
end Go.Proofs.YtikdhfedidknpaaDoor.Mask
