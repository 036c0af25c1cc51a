/- What the document's Idle returns. Conditions: each argument is a number of its kind. -/
import Derived.Test.YtijocgpbifgifaaLoadRef
namespace Go.Proofs.Ytijocgpbifgifaa.Load
open Go.ChangeShapes Go.WideShapes Go.ChangeAt Go.RowKit
set_option linter.unusedVariables false
set_option linter.unusedSimpArgs false
attribute [local irreducible] Go.wpQuiet

def IdI (z : Nat → Int) (m n : Nat) (w : World) (left : Nat) (t : Value) (wr : World) : Prop :=
  ∃ k : Nat, left + k = n ∧ t = .int .i64 k ∧ Hid (∀ q, q < k → ¬ (may m q = true ∧ z q = 0)) ∧ Below w.heap.size w wr
theorem idl_first {z : Nat → Int} {m n k : Nat} (hk : k < n) (hm : may m k = true) (h0 : z k = 0) (hb : ∀ q, q < k → ¬ (may m q = true ∧ z q = 0)) : (k : Int) = idl z n m := by
  refine best_only ?_ (pick_best _ _ _)
  refine .inr ⟨k, rfl, hk, by simp [hm, h0], fun q hq hS => .inr ⟨rfl, ?_⟩⟩
  simp at hS
  by_cases h : q < k
  · exact absurd hS (hb q h)
  · omega
theorem idl_no {z : Nat → Int} {m n : Nat} (hb : ∀ q, q < n → ¬ (may m q = true ∧ z q = 0)) : (-1 : Int) = idl z n m := by
  refine best_only ?_ (pick_best _ _ _)
  refine .inl ⟨rfl, fun j hj => ?_⟩
  have := hb j hj
  cases hm : may m j
  · simp [hm]
  · simp [hm] at this ⊢
    exact this
set_option maxRecDepth 100000 in
set_option maxHeartbeats 4000000 in
theorem refIdle (v : Option Addr) (n cap m : Nat) (z : Nat → Int) (w : World) (hm : m < 18446744073709551616) (hn : n ≤ 9223372036854775807) (HL : Hid (Lies v n z w)) :
    Calls Try.prog 16 #[.slice v n cap, .int .u64 m] w (OneB .i64 (idl z n m) w) := by
  have MY : Hid (∀ (p : Nat) (w : World), p < n → Calls Try.prog 21 #[.slice v n cap, .int .i64 p, .int .u64 m] w (IsBool (may m p) w)) := Lib.hid fun p w hp => by
    have := refMay v n cap m p w hm
    rwa [can_in hp] at this
  have FP : Hid (∀ k, k < n → may m k = true → z k = 0 → (∀ q, q < k → ¬ (may m q = true ∧ z q = 0)) → (k : Int) = idl z n m) := Lib.hid fun k h1 h2 h3 h4 => idl_first h1 h2 h3 h4
  have FN : Hid ((∀ q, q < n → ¬ (may m q = true ∧ z q = 0)) → (-1 : Int) = idl z n m) := Lib.hid idl_no
  generalize idl z n m = R at *
  go_enter Try.func16, Try.ntmps16
  go_wp2
  go_loopg [5] n (fun left t wr => IdI z m n w left t wr)
  case atStart => exact ⟨0, by omega, rfl, Lib.hid (fun q hq => by omega), Below.refl _ _⟩
  case round =>
    obtain ⟨k, hk, rfl, HB, hb⟩ := hrel
    by_cases hlt : k < n
    · have h3 : (k : Int) < n := by omega
      have MK := Lib.hid (fun w => MY.out k w hlt)
      have q0 : (0 : Int) ≤ k := by omega
      obtain ⟨b1, o1, rfl, l1, d1⟩ := HL.out k hlt
      have d2 := (hb.cell (p := ⟨b1, o1 + k, none⟩) l1).trans d1
      clear d1
      have NX : Hid (¬ (may m k = true ∧ z k = 0) → IdI z m n w (gk - 1) (.int .i64 ((k : Int) + 1)) wr) := Lib.hid fun h => ⟨k + 1, by omega, by go_num, Lib.hid (fun q hq => by rcases (by omega : q < k ∨ q = k) with h1 | rfl; exact HB.out q h1; exact h), hb⟩
      cases hM : may m k
      · rw [hM] at MK
        have N1 := Lib.hid (NX.out (by simp [hM]))
        generalize z k = y at *
        go_wp2_with (go_at_call 21; refine (MK.out _).mono ?_; rintro e w1 ⟨rfl, hw⟩; replace hw := hw.symm; subst hw)
        go_roundg (gk - 1)
        case measure => omega
        case rel => exact N1.out
      · rw [hM] at MK
        by_cases h0 : z k = 0
        · have FE := Lib.hid (FP.out k hlt hM h0 HB.out)
          rw [h0] at d2
          go_wp2_with (go_at_call 21; refine (MK.out _).mono ?_; rintro e w1 ⟨rfl, hw⟩; replace hw := hw.symm; subst hw)
          go_ret
          exact oneB_of FE.out hb
        · have N1 := Lib.hid (NX.out (fun h => h0 h.2))
          have h0' : (z k == 0) = false := by simpa using h0
          generalize z k = y at *
          go_wp2_with (go_at_call 21; refine (MK.out _).mono ?_; rintro e w1 ⟨rfl, hw⟩; replace hw := hw.symm; subst hw)
          go_roundg (gk - 1)
          case measure => omega
          case rel => exact N1.out
    · have h3 : ¬ (k : Int) < n := by omega
      obtain rfl : k = n := by omega
      go_wp2
      go_ret
      exact oneB_of (FN.out HB.out) hb
end Go.Proofs.Ytijocgpbifgifaa.Load
