/- What math/bits' count of ones, and mask.Count, return: the number that its masks and sums make. Conditions: the argument is a word. -/
import Derived.Test.YtmeojplfphmpnaaDoorMaskBits
import Derived.Laws.Bits128
namespace Go.Proofs.YtmeojplfphmpnaaDoor.Mask
open Go.ChangeShapes Go.WideShapes Go.ChangeAt Go.RowKit
set_option linter.unusedVariables false
set_option linter.unusedSimpArgs false
set_option maxRecDepth 100000

def oa (m : Nat) : Nat := (m / 2 &&& 6148914691236517205) + (m &&& 6148914691236517205)
def ob (a : Nat) : Nat := (a / 4 &&& 3689348814741910323) + (a &&& 3689348814741910323)
def oc (b : Nat) : Nat := (b / 16 + b) &&& 1085102592571150095
def od (c : Nat) : Nat := c + c / 256
def oe (d : Nat) : Nat := d + d / 65536
def og (e : Nat) : Nat := e + e / 4294967296
/-- How many ones, as math/bits reckons it. -/
def ones (m : Nat) : Nat := og (oe (od (oc (ob (oa m))))) % 128

theorem oa_le (m : Nat) : oa m ≤ 12297829382473034410 := by
  have h1 : m / 2 &&& 6148914691236517205 ≤ 6148914691236517205 := Nat.and_le_right
  have h2 : m &&& 6148914691236517205 ≤ 6148914691236517205 := Nat.and_le_right
  unfold oa; omega
theorem ob_le (m : Nat) : ob m ≤ 7378697629483820646 := by
  have h1 : m / 4 &&& 3689348814741910323 ≤ 3689348814741910323 := Nat.and_le_right
  have h2 : m &&& 3689348814741910323 ≤ 3689348814741910323 := Nat.and_le_right
  unfold ob; omega
theorem oc_le (m : Nat) : oc m ≤ 1085102592571150095 := Nat.and_le_right

theorem ones_core (m a1 a2 x1 b1 b2 x2 y x3 x4 x5 x6 r : Int) (w : World)
    (h1 : bits .and .u64 (m / 2) 6148914691236517205 = a1) (h2 : bits .and .u64 m 6148914691236517205 = a2) (h3 : IntKind.u64.wrap (a1 + a2) = x1)
    (h4 : bits .and .u64 (x1 / 4) 3689348814741910323 = b1) (h5 : bits .and .u64 x1 3689348814741910323 = b2) (h6 : IntKind.u64.wrap (b1 + b2) = x2)
    (h7 : IntKind.u64.wrap (x2 / 16 + x2) = y) (h8 : bits .and .u64 y 1085102592571150095 = x3) (h9 : IntKind.u64.wrap (x3 + x3 / 256) = x4) (h10 : IntKind.u64.wrap (x4 + x4 / 65536) = x5) (h11 : IntKind.u64.wrap (x5 + x5 / 4294967296) = x6)
    (h12 : IntKind.i64.wrap x6 = x6) (h13 : bits .and .i64 x6 127 = r) :
    Calls Tryd.prog 35 #[.int .u64 m] w (IsI r w) := by
  go_enter Tryd.func35, Tryd.ntmps35
  go_wp2
  go_ret
  exact ⟨rfl, rfl⟩

theorem onesCount (m : Nat) (hm : m < 18446744073709551616) (w : World) : Calls Tryd.prog 35 #[.int .u64 m] w (IsI (ones m) w) := by
  have l1 := oa_le m
  have l2 := ob_le (oa m)
  have l3 := oc_le (ob (oa m))
  have e1 : bits .and .u64 ((m : Int) / 2) 6148914691236517205 = ((m / 2 &&& 6148914691236517205 : Nat) : Int) := by
    have := bits_and_u64_nat (m / 2) 6148914691236517205 (by omega) (by decide)
    simpa using this
  have e2 : bits .and .u64 (m : Int) 6148914691236517205 = ((m &&& 6148914691236517205 : Nat) : Int) := bits_and_u64_nat m 6148914691236517205 hm (by decide)
  have e4 : bits .and .u64 ((oa m : Int) / 4) 3689348814741910323 = ((oa m / 4 &&& 3689348814741910323 : Nat) : Int) := by
    have := bits_and_u64_nat (oa m / 4) 3689348814741910323 (by omega) (by decide)
    simpa using this
  have e5 : bits .and .u64 (oa m : Int) 3689348814741910323 = ((oa m &&& 3689348814741910323 : Nat) : Int) := bits_and_u64_nat (oa m) 3689348814741910323 (by omega) (by decide)
  have e8 : bits .and .u64 ((ob (oa m) / 16 + ob (oa m) : Nat) : Int) 1085102592571150095 = (oc (ob (oa m)) : Int) := bits_and_u64_nat (ob (oa m) / 16 + ob (oa m)) 1085102592571150095 (by omega) (by decide)
  refine ones_core m _ _ (oa m) _ _ (ob (oa m)) _ _ (od (oc (ob (oa m)))) (oe (od (oc (ob (oa m))))) (og (oe (od (oc (ob (oa m)))))) _ w e1 e2 ?_ e4 e5 ?_ ?_ e8 ?_ ?_ ?_ ?_ ?_
  · rw [IntKind.wrap_u64]; unfold oa at *; omega
  · rw [IntKind.wrap_u64]; generalize oa m = a at *; unfold ob at *; omega
  · rw [IntKind.wrap_u64]; omega
  · rw [IntKind.wrap_u64]; generalize oc (ob (oa m)) = a at *; unfold od; omega
  · rw [IntKind.wrap_u64]; generalize oc (ob (oa m)) = a at *; unfold oe od; omega
  · rw [IntKind.wrap_u64]; generalize oc (ob (oa m)) = a at *; unfold og oe od; omega
  · rw [IntKind.wrap_i64]; generalize oc (ob (oa m)) = a at *; unfold og oe od; omega
  · rw [i64_and127]; unfold ones; omega

theorem count (m : Nat) (hm : m < 18446744073709551616) (w : World) : Calls Tryd.prog 22 #[.int .u64 m] w (IsI (ones m) w) := by
  have C := fun w => onesCount m hm w
  go_enter Tryd.func22, Tryd.ntmps22
  go_wp2_with (go_at_call 35; refine (C _).mono ?_; rintro e w1 ⟨rfl, rfl⟩)
  go_ret
  exact ⟨rfl, rfl⟩
end Go.Proofs.YtmeojplfphmpnaaDoor.Mask
