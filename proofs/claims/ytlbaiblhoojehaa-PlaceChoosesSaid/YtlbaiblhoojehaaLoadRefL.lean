/- What the document's Least returns. Conditions: each argument is a number of its kind. -/
import Derived.Test.YtlbaiblhoojehaaLoadMay
namespace Go.Proofs.Ytlbaiblhoojehaa.Load
open Go.ChangeShapes Go.WideShapes Go.ChangeAt Go.RowKit
set_option linter.unusedVariables false
set_option linter.unusedSimpArgs false
attribute [local irreducible] Go.wpQuiet

def OutI (S : Nat → Bool) (z : Nat → Int) (n : Nat) (w : World) (left : Nat) (t : Value) (wr : World) : Prop :=
  ∃ k : Nat, left + k = n ∧ t = .int .i64 k ∧ Hid (∀ q, q < k → ¬ IsB S z n q) ∧ Below w.heap.size w wr
def InI (S : Nat → Bool) (z : Nat → Int) (n k : Nat) (w : World) (left : Nat) (t8 t9 : Value) (wr : World) : Prop :=
  ∃ (j : Nat) (c : Bool), left + j = n ∧ t9 = .int .i64 j ∧ t8 = .bool c ∧ Hid (c = true → S k = true ∧ ∀ q, q < j → S q = true → z q ≤ z k) ∧ Hid (c = false → ¬ IsB S z n k) ∧ Below w.heap.size w wr

set_option maxRecDepth 100000 in
set_option maxHeartbeats 4000000 in
theorem refLeast (v : Option Addr) (n cap m : Nat) (z : Nat → Int) (w : World) (hm : m < 18446744073709551616) (hn : n ≤ 9223372036854775807) (HL : Hid (Lies v n z w)) :
    Calls Try.prog 21 #[.slice v n cap, .int .u64 m] w (OneB .i64 (lea z n m) w) := by
  have MY : Hid (∀ (p : Nat) (w : World), p < n → Calls Try.prog 15 #[.slice v n cap, .int .i64 p, .int .u64 m] w (IsBool (may m p) w)) := Lib.hid fun p w hp => by
    have := refMay v n cap m p w hm
    rwa [can_in hp] at this
  have FN := Lib.hid (fun h => isB_none (S := may m) (z := fun j => - z j) (n := n) h)
  have FP : Hid (∀ k, k < n → IsB (may m) (fun j => - z j) n k → (∀ q, q < k → ¬ IsB (may m) (fun j => - z j) n q) → (k : Int) = lea z n m) := Lib.hid fun k hk h1 h2 => isB_pick hk h1 h2
  have FN' : Hid ((∀ q, q < n → ¬ IsB (may m) (fun j => - z j) n q) → (-1 : Int) = lea z n m) := FN
  clear FN
  have FS : Hid (∀ j : Nat, may m j = may m j) := Lib.hid fun _ => rfl
  generalize lea z n m = R at *
  go_enter Try.func21, Try.ntmps21
  go_wp2
  go_loopg [5] n (fun left t wr => OutI (may m) (fun j => - z j) n w left t wr)
  case atStart => exact ⟨0, by omega, rfl, Lib.hid (fun q hq => by omega), Below.refl _ _⟩
  case round =>
    obtain ⟨k, hk, rfl, HB, hb⟩ := hrel
    by_cases hlt : k < n
    · have h3 : (k : Int) < n := by omega
      have MK := Lib.hid (fun w => MY.out k w hlt)
      have q0 : (0 : Int) ≤ k := by omega
      obtain ⟨b1, o1, rfl, l1, d1⟩ := HL.out k hlt
      have D1 := Lib.hid (fun wx (h : Below w.heap.size w wx) => (h.cell (p := ⟨b1, o1 + k, none⟩) l1).trans d1)
      clear d1
      cases hM : may m k
      · rw [hM] at MK
        have E := hM
        go_wp2_with (go_at_call 15; refine (MK.out _).mono ?_; rintro e w1 ⟨rfl, hw⟩; replace hw := hw.symm; subst hw)
        go_loopg [6, 7] n (fun left t8 t9 wr => InI (may m) (fun j => - z j) n k w left t8 t9 wr)
        case atStart => exact ⟨0, false, by omega, rfl, rfl, Lib.hid (fun h => by cases h), Lib.hid (fun _ hI => by have := hI.1; rw [E] at this; cases this), hb⟩
        case round =>
          clear hb
          obtain ⟨j, c, hj, rfl, rfl, HT, HF, hb⟩ := hrel
          have q1 : (0 : Int) ≤ j := by omega
          by_cases hlj : j < n
          · have h5 : (j : Int) < n := by omega
            cases c
            · have HX := Lib.hid (fun wx (h : Below w.heap.size w wx) => (show OutI (may m) (fun j => - z j) n w (n - (k + 1)) (.int .i64 ((k : Int) + 1)) wx from ⟨k + 1, by omega, by go_num, Lib.hid (fun q hq => by rcases (by omega : q < k ∨ q = k) with h | rfl; exact HB.out q h; exact HF.out rfl), h⟩))
              go_wp2_with fail
              go_roundg (n - (k + 1))
              case measure => omega
              case rel => exact HX.out _ hb
            · have MJ := Lib.hid (fun w => MY.out j w hlj)
              skip
              obtain ⟨b2, o2, e2, l2, d2⟩ := HL.out j hlj
              cases e2
              have D2 := (hb.cell (p := ⟨b1, o1 + j, none⟩) l2).trans d2
              have D0 := D1.out _ hb
              have NX : Hid ((may m j = true → z k ≤ z j) → ∀ m', InI (may m) (fun j => - z j) n k w (gk - 1) (.bool true) (.int .i64 ((j : Int) + 1)) (wr.drewN m')) := Lib.hid fun h m' => ⟨j + 1, true, by omega, by go_num, rfl, Lib.hid (fun _ => ⟨(HT.out rfl).1, fun q hq hS => by rcases (by omega : q < j ∨ q = j) with h1 | rfl; exact (HT.out rfl).2 q h1 hS; have := h hS; show - z q ≤ - z k; omega⟩), Lib.hid (fun h => by cases h), drawn hb m'⟩
              have NF : Hid (may m j = true → z j < z k → ∀ m', InI (may m) (fun j => - z j) n k w (gk - 1) (.bool false) (.int .i64 ((j : Int) + 1)) (wr.drewN m')) := Lib.hid fun hS hz m' => ⟨j + 1, false, by omega, by go_num, rfl, Lib.hid (fun h => by cases h), Lib.hid (fun _ hI => by have := hI.2 j hlj hS; simp only [] at this; omega), drawn hb m'⟩
              cases hMj : may m j
              · (rw [hMj] at MJ; have EJ := hMj)
                have N1 := Lib.hid (NX.out (fun h => by rw [EJ] at h; cases h))
                generalize z j = y at *
                generalize z k = x at *
                clear NX NF HT HF EJ hb hMj d2 D1 HB FP FN' MY FS MK
                go_wp2_with fail
                go_quiet (first | (go_at_call 15; exact Calls.quiet_of_same (MJ.out _)))
                go_wp2_with fail
                go_roundg (gk - 1)
                case measure => omega
                case rel => exact N1.out _
              · (rw [hMj] at MJ; have EJ := hMj)
                have EJ' : may m j = true := EJ
                by_cases hzz : z j < z k
                · have N1 := Lib.hid (NF.out EJ' hzz)
                  generalize z j = y at *
                  generalize z k = x at *
                  clear NX NF HT HF EJ hb EJ' hMj d2 D1 HB FP FN' MY FS MK
                  have hz2 : decide (y < x) = true := by simpa using hzz
                  go_wp2_with fail
                  go_quiet (first | (go_at_call 15; exact Calls.quiet_of_same (MJ.out _)))
                  go_wp2_with fail
                  go_roundg (gk - 1)
                  case measure => omega
                  case rel => exact N1.out _
                · have N1 := Lib.hid (NX.out (fun _ => by omega))
                  generalize z j = y at *
                  generalize z k = x at *
                  clear NX NF HT HF EJ hb EJ' hMj d2 D1 HB FP FN' MY FS MK
                  have hz2 : decide (y < x) = false := by simpa using hzz
                  go_wp2_with fail
                  go_quiet (first | (go_at_call 15; exact Calls.quiet_of_same (MJ.out _)))
                  go_wp2_with fail
                  go_roundg (gk - 1)
                  case measure => omega
                  case rel => exact N1.out _
          · have h5 : ¬ (j : Int) < n := by omega
            obtain rfl : j = n := by omega
            cases c
            · have HX := Lib.hid (fun wx (h : Below w.heap.size w wx) => (show OutI (may m) (fun j => - z j) j w (j - (k + 1)) (.int .i64 ((k : Int) + 1)) wx from ⟨k + 1, by omega, by go_num, Lib.hid (fun q hq => by rcases (by omega : q < k ∨ q = k) with h | rfl; exact HB.out q h; exact HF.out rfl), h⟩))
              go_wp2_with fail
              go_roundg (j - (k + 1))
              case measure => omega
              case rel => exact HX.out _ hb
            · have FE := Lib.hid (FP.out k hlt ⟨(HT.out rfl).1, (HT.out rfl).2⟩ HB.out)
              go_wp2_with fail
              go_ret
              exact oneB_of FE.out hb
      · rw [hM] at MK
        have E := hM
        have E2 : may m k = true := hM
        go_wp2_with (go_at_call 15; refine (MK.out _).mono ?_; rintro e w1 ⟨rfl, hw⟩; replace hw := hw.symm; subst hw)
        go_loopg [6, 7] n (fun left t8 t9 wr => InI (may m) (fun j => - z j) n k w left t8 t9 wr)
        case atStart => exact ⟨0, true, by omega, rfl, rfl, Lib.hid (fun _ => ⟨E2, fun q hq => by omega⟩), Lib.hid (fun h => by cases h), hb⟩
        case round =>
          clear hb
          obtain ⟨j, c, hj, rfl, rfl, HT, HF, hb⟩ := hrel
          have q1 : (0 : Int) ≤ j := by omega
          by_cases hlj : j < n
          · have h5 : (j : Int) < n := by omega
            cases c
            · have HX := Lib.hid (fun wx (h : Below w.heap.size w wx) => (show OutI (may m) (fun j => - z j) n w (n - (k + 1)) (.int .i64 ((k : Int) + 1)) wx from ⟨k + 1, by omega, by go_num, Lib.hid (fun q hq => by rcases (by omega : q < k ∨ q = k) with h | rfl; exact HB.out q h; exact HF.out rfl), h⟩))
              go_wp2_with fail
              go_roundg (n - (k + 1))
              case measure => omega
              case rel => exact HX.out _ hb
            · have MJ := Lib.hid (fun w => MY.out j w hlj)
              skip
              obtain ⟨b2, o2, e2, l2, d2⟩ := HL.out j hlj
              cases e2
              have D2 := (hb.cell (p := ⟨b1, o1 + j, none⟩) l2).trans d2
              have D0 := D1.out _ hb
              have NX : Hid ((may m j = true → z k ≤ z j) → ∀ m', InI (may m) (fun j => - z j) n k w (gk - 1) (.bool true) (.int .i64 ((j : Int) + 1)) (wr.drewN m')) := Lib.hid fun h m' => ⟨j + 1, true, by omega, by go_num, rfl, Lib.hid (fun _ => ⟨(HT.out rfl).1, fun q hq hS => by rcases (by omega : q < j ∨ q = j) with h1 | rfl; exact (HT.out rfl).2 q h1 hS; have := h hS; show - z q ≤ - z k; omega⟩), Lib.hid (fun h => by cases h), drawn hb m'⟩
              have NF : Hid (may m j = true → z j < z k → ∀ m', InI (may m) (fun j => - z j) n k w (gk - 1) (.bool false) (.int .i64 ((j : Int) + 1)) (wr.drewN m')) := Lib.hid fun hS hz m' => ⟨j + 1, false, by omega, by go_num, rfl, Lib.hid (fun h => by cases h), Lib.hid (fun _ hI => by have := hI.2 j hlj hS; simp only [] at this; omega), drawn hb m'⟩
              cases hMj : may m j
              · (rw [hMj] at MJ; have EJ := hMj)
                have N1 := Lib.hid (NX.out (fun h => by rw [EJ] at h; cases h))
                generalize z j = y at *
                generalize z k = x at *
                clear NX NF HT HF EJ hb hMj d2 D1 HB FP FN' MY FS MK
                go_wp2_with fail
                go_quiet (first | (go_at_call 15; exact Calls.quiet_of_same (MJ.out _)))
                go_wp2_with fail
                go_roundg (gk - 1)
                case measure => omega
                case rel => exact N1.out _
              · (rw [hMj] at MJ; have EJ := hMj)
                have EJ' : may m j = true := EJ
                by_cases hzz : z j < z k
                · have N1 := Lib.hid (NF.out EJ' hzz)
                  generalize z j = y at *
                  generalize z k = x at *
                  clear NX NF HT HF EJ hb EJ' hMj d2 D1 HB FP FN' MY FS MK
                  have hz2 : decide (y < x) = true := by simpa using hzz
                  go_wp2_with fail
                  go_quiet (first | (go_at_call 15; exact Calls.quiet_of_same (MJ.out _)))
                  go_wp2_with fail
                  go_roundg (gk - 1)
                  case measure => omega
                  case rel => exact N1.out _
                · have N1 := Lib.hid (NX.out (fun _ => by omega))
                  generalize z j = y at *
                  generalize z k = x at *
                  clear NX NF HT HF EJ hb EJ' hMj d2 D1 HB FP FN' MY FS MK
                  have hz2 : decide (y < x) = false := by simpa using hzz
                  go_wp2_with fail
                  go_quiet (first | (go_at_call 15; exact Calls.quiet_of_same (MJ.out _)))
                  go_wp2_with fail
                  go_roundg (gk - 1)
                  case measure => omega
                  case rel => exact N1.out _
          · have h5 : ¬ (j : Int) < n := by omega
            obtain rfl : j = n := by omega
            cases c
            · have HX := Lib.hid (fun wx (h : Below w.heap.size w wx) => (show OutI (may m) (fun j => - z j) j w (j - (k + 1)) (.int .i64 ((k : Int) + 1)) wx from ⟨k + 1, by omega, by go_num, Lib.hid (fun q hq => by rcases (by omega : q < k ∨ q = k) with h | rfl; exact HB.out q h; exact HF.out rfl), h⟩))
              go_wp2_with fail
              go_roundg (j - (k + 1))
              case measure => omega
              case rel => exact HX.out _ hb
            · have FE := Lib.hid (FP.out k hlt ⟨(HT.out rfl).1, (HT.out rfl).2⟩ HB.out)
              go_wp2_with fail
              go_ret
              exact oneB_of FE.out hb
    · have h3 : ¬ (k : Int) < n := by omega
      obtain rfl : k = n := by omega
      go_wp2
      go_ret
      exact oneB_of (FN'.out HB.out) hb
end Go.Proofs.Ytlbaiblhoojehaa.Load
