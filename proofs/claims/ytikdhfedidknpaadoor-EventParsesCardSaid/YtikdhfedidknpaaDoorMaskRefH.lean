/- What the document's Has tells of a set. Conditions: the set is a word. -/
import Derived.Test.YtikdhfedidknpaaDoorMaskRefN
namespace Go.Proofs.YtikdhfedidknpaaDoor.Mask
open Go.ChangeShapes Go.WideShapes Go.ChangeAt Go.RowKit
set_option linter.unusedVariables false
set_option linter.unusedSimpArgs false
set_option maxRecDepth 100000

theorem has_hi (m : Nat) (hm : m < 18446744073709551616) (i : Nat) (h : 64 ≤ i) : m.testBit i = false :=
  Nat.testBit_lt_two_pow (Nat.lt_of_lt_of_le (show m < 2 ^ 64 from hm) (Nat.pow_le_pow_right (by decide) h))

theorem docHas (m : Nat) (p : Int) (hm : m < 18446744073709551616) (w : World) : Calls Tryd.prog 53 #[.int .u64 m, .int .i64 p] w (IsB (has' m p) w) := by
  go_enter Tryd.func53, Tryd.ntmps53
  go_wp2
  go_loop [0, 5] (fun x i => ∃ (k y : Nat), k ≤ 64 ∧ ((k : Int) ≤ p ∨ k = 0) ∧ i = .int .i64 k ∧ x = .int .u64 y ∧ y < 18446744073709551616 ∧ Hid (y = m / 2 ^ k)) (fun _ i => match i with | .int _ z => 64 - z.toNat | _ => 0)
  case atStart => exact ⟨0, m, by omega, .inr rfl, rfl, rfl, hm, Lib.hid (by simp)⟩
  case round =>
    obtain ⟨k, y, hk, hkp, rfl, rfl, hy, hY⟩ := hrel
    by_cases h1 : (k : Int) < p
    · by_cases h2 : k < 64
      · have h2' : (k : Int) < 64 := by omega
        go_wp2_with fail
        refine ⟨⟨k + 1, y / 2, by omega, .inl (by omega), by simp, by simp, by omega, Lib.hid ?_⟩, by simp; omega⟩
        rw [hY.out, Nat.pow_succ, Nat.div_div_eq_div_mul]
      · obtain rfl : k = 64 := by omega
        have e : has' m p = false := by
          unfold has'
          rw [has_hi m hm _ (by omega)]
          simp
        have hp1 : ¬ p < 64 := by omega
        have hp0 : 0 ≤ p := by omega
        have E := Lib.hid e
        clear e
        go_wp2_with fail
        go_ret
        exact ⟨by rw [E.out]; rfl, rfl⟩
    · by_cases h0 : 0 ≤ p
      · have hkp' : p = (k : Int) := by omega
        subst hkp'
        by_cases h2 : k < 64
        · have e : has' m (k : Int) = (((y : Int) % 2) == 1) := by
            unfold has'
            rw [show (k : Int).toNat = k by omega, Nat.testBit_eq_decide_div_mod_eq, ← hY.out]
            rcases Nat.mod_two_eq_zero_or_one y with h | h
            · simp [h]; omega
            · simp [h]; omega
          have E := Lib.hid e
          have h2' : (k : Int) < 64 := by omega
          clear e
          go_wp2_with fail
          go_ret
          exact ⟨by rw [E.out]; rfl, rfl⟩
        · have e : has' m (k : Int) = false := by
            unfold has'
            rw [has_hi m hm _ (by omega)]
            simp
          have h2' : ¬ (k : Int) < 64 := by omega
          have E := Lib.hid e
          clear e
          go_wp2_with fail
          go_ret
          exact ⟨by rw [E.out]; rfl, rfl⟩
      · have e : has' m p = false := by simp [has', h0]
        have E := Lib.hid e
        clear e
        go_wp2_with fail
        go_ret
        exact ⟨by rw [E.out]; rfl, rfl⟩
end Go.Proofs.YtikdhfedidknpaaDoor.Mask
