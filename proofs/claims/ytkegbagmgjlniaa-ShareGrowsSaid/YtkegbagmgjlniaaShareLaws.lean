/- The walks of stage 11's laws that ask nothing of the document's answer but whether two lists are the same. Conditions: each argument is a number of its kind. -/
import Derived.Test.YtkegbagmgjlniaaShareCalls
namespace Go.Proofs.Ytkegbagmgjlniaa.Share
open Go.ChangeShapes Go.WideShapes Go.ChangeAt Go.RowKit Wide
set_option linter.unusedVariables false
set_option linter.unusedSimpArgs false

def Yes (w : World) (e : Ending) (w' : World) : Prop := e = .returned (.bool true) ∧ Below w.heap.size w w'
theorem yes_of {b : Bool} {w w' : World} (h : b = true) (g : Below w.heap.size w w') : Yes w (.returned (.bool b)) w' := by subst h; exact ⟨rfl, g⟩

theorem drawn {w w' : World} {n : Nat} (h : Below n w w') (k : Nat) : Below n w (w'.drewN k) := h.trans ⟨rfl, rfl, rfl, Nat.le_refl _, fun _ _ => rfl⟩
def SameI (n : Nat) (w : World) (t : Value) (wr : World) : Prop := ∃ k : Nat, k ≤ n ∧ t = .int .i64 k ∧ Below w.heap.size w wr
theorem same (a b : Option Addr) (n c d : Nat) (y z : Nat → Int) (w : World) (hn : n ≤ 9223372036854775807) (HA : Hid (Lies .u64 a n y w)) (HB : Hid (Lies .u64 b n z w)) (HE : Hid (∀ j, j < n → y j = z j)) :
    Calls Try.prog 14 #[.slice a n c, .slice b n d] w (Yes w) := by
  go_enter Try.func14, Try.ntmps14
  go_wp2
  go_loopw [5] (fun t5 wr => SameI n w t5 wr) (fun i _ => n - (intOf i).toNat)
  case atStart => exact ⟨0, by omega, rfl, Below.refl _ _⟩
  case round =>
    obtain ⟨k, hk, rfl, hB⟩ := hrel
    by_cases hlt : k < n
    · have h3 : (k : Int) < n := by omega
      obtain ⟨b1, o1, rfl, l1, c1⟩ := HA.out k hlt
      obtain ⟨b2, o2, rfl, l2, c2⟩ := HB.out k hlt
      have e1 := (hB.cell (p := ⟨b1, o1 + k, none⟩) l1).trans c1
      have e2 := (hB.cell (p := ⟨b2, o2 + k, none⟩) l2).trans c2
      rw [HE.out k hlt] at e1
      generalize z k = x at *
      clear c1 c2 l1 l2
      go_wp2
      go_quiet (fail)
      go_wp2
      go_roundw
      case rel => exact ⟨k + 1, hlt, by go_num, drawn hB _⟩
      case measure => simp [intOf]; omega
    · have h3 : ¬ (k : Int) < n := by omega
      go_wp2
      go_ret
      exact ⟨rfl, hB⟩

def duo (a b : Int) : Nat → Int := fun j => if j = 0 then a else b
theorem duo_lies {w : World} {g : Nat} {a b : Int} (h : w.heap[g]? = some (.cells #[.int .u64 a, .int .u64 b] 22 (0, 0))) : Lies .u64 (some ⟨g, 0, none⟩) 2 (duo a b) w := by
  intro j hj
  refine ⟨g, 0, rfl, lt_of h, ?_⟩
  rw [cell_of_row w g _ _ _ _ h]
  rcases (by omega : j = 0 ∨ j = 1) with rfl | rfl <;> rfl

theorem shown (w : World) : Calls Try.prog 9 #[] w (Yes w) := by
  have S : Hid (∀ w : World, Lies .u64 (some ⟨w.heap.size, 0, none⟩) 2 (duo 1 3) (w.alloc (.cells #[.int .u64 1, .int .u64 3] 22)) → Calls Try.prog 15 #[.int .u64 1024, .slice (some ⟨w.heap.size, 0, none⟩) 2 2] (w.alloc (.cells #[.int .u64 1, .int .u64 3] 22)) (Rowed 2 (duo 256 768) (w.alloc (.cells #[.int .u64 1, .int .u64 3] 22)))) := by
    refine Lib.hid fun w h => (splits 1024 _ 2 2 (duo 1 3) _ (by unfold U64; omega) (by omega) (Lib.hid fun j hj => by unfold U64 duo; split <;> omega) (Lib.hid h)).mono ?_
    rintro e w1 ⟨ao, cap, rfl, hl, hg⟩
    refine ⟨ao, cap, rfl, hl.congr fun j hj => ?_, hg⟩
    rcases (by omega : j = 0 ∨ j = 1) with rfl | rfl <;> decide
  have hd := Lib.hid (fun w => holds 0 w)
  rw [show hold 0 = 2 from rfl] at hd
  go_enter Try.func9, Try.ntmps9
  go_wp2_with (first
    | (go_at_call 15; refine (S.out _ (duo_lies (heap_alloc_new _ _))).mono ?_; rintro e w1 ⟨ao, cap, rfl, hl, hg⟩; replace hl := Lib.hid hl; replace hg := fresh_trans (alloc1 _ _) hg)
    | (go_at_call 14; refine (same ao _ 2 cap _ (duo 256 768) (duo 256 768) _ (by omega) (Lib.hid (hl.out.fresh (alloc1 _ _))) (Lib.hid (duo_lies (heap_alloc_new _ _))) (Lib.hid fun _ _ => rfl)).mono ?_; rintro e w2 ⟨rfl, hg2⟩; replace hg := fresh_trans hg (fresh_trans (alloc1 _ _) hg2); clear hg2)
    | (go_at_call 12; refine (hd.out _).mono ?_; rintro e w3 ⟨rfl, rfl⟩))
  go_ret
  exact ⟨rfl, hg⟩

theorem holdsLaw (x a : Int) (w : World) (hx : U64 x) (ha : U64 a) : Calls Try.prog 6 #[.int .u64 x, .int .u64 a] w (Yes w) := by
  have S := Lib.hid (fun w => shown w)
  have h1 := Lib.hid (fun w => holds x w)
  have h2 := Lib.hid (fun w => holds (hold x) w)
  obtain ⟨b1, b2⟩ := hold_bd x
  rw [hold_in b1 b2] at h2
  have w1 := Lib.hid (fun w => weights x 0 a w hx (by unfold U64; omega) ha)
  have w2 := Lib.hid (fun w => weights x a 0 w hx ha (by unfold U64; omega))
  have w3 := Lib.hid (fun w => weights x a a w hx ha ha)
  rw [wt_zero] at w1
  rw [wt_none] at w2
  have hg := Below.refl w.heap.size w
  have hw : Hid (a ≠ 0 → wt x a a = hold x) := Lib.hid wt_whole
  have hin : 2 ≤ x → x ≤ 262144 → hold x = x := fun h1 h2 => hold_in h1 h2
  unfold U64 at hx ha
  generalize hold x = y at *
  have k1 : decide (y < 2) = false := by simp; omega
  have k2 : decide (262144 < y) = false := by simp; omega
  by_cases hm : 2 ≤ x ∧ x ≤ 262144
  · obtain ⟨m1, m2⟩ := hm
    obtain rfl := hin m1 m2
    by_cases h0 : a = 0
    · subst h0
      clear w3 hw hin
      go_enter Try.func6, Try.ntmps6
      go_wp2_with (first
        | (go_at_call 9; refine (S.out _).mono ?_; rintro e w' ⟨rfl, hg1⟩; replace hg := fresh_trans hg hg1; clear hg1)
        | (go_at_call 12; first | ((with_reducible refine (h1.out _).mono ?_); rintro e w' ⟨rfl, rfl⟩) | ((with_reducible refine (h2.out _).mono ?_); rintro e w' ⟨rfl, rfl⟩))
        | (go_at_call 10; first | ((with_reducible refine (w1.out _).mono ?_); rintro e w' ⟨rfl, hg1⟩; replace hg := fresh_trans hg hg1; clear hg1) | ((with_reducible refine (w2.out _).mono ?_); rintro e w' ⟨rfl, hg1⟩; replace hg := fresh_trans hg hg1; clear hg1) | ((with_reducible refine (w3.out _).mono ?_); rintro e w' ⟨rfl, hg1⟩; replace hg := fresh_trans hg hg1; clear hg1)))
      go_ret
      exact yes_of (by simp) hg
    · rw [hw.out h0] at w3
      have h0' : (a == 0) = false := by simpa using h0
      clear hw hin
      go_enter Try.func6, Try.ntmps6
      go_wp2_with (first
        | (go_at_call 9; refine (S.out _).mono ?_; rintro e w' ⟨rfl, hg1⟩; replace hg := fresh_trans hg hg1; clear hg1)
        | (go_at_call 12; first | ((with_reducible refine (h1.out _).mono ?_); rintro e w' ⟨rfl, rfl⟩) | ((with_reducible refine (h2.out _).mono ?_); rintro e w' ⟨rfl, rfl⟩))
        | (go_at_call 10; first | ((with_reducible refine (w1.out _).mono ?_); rintro e w' ⟨rfl, hg1⟩; replace hg := fresh_trans hg hg1; clear hg1) | ((with_reducible refine (w2.out _).mono ?_); rintro e w' ⟨rfl, hg1⟩; replace hg := fresh_trans hg hg1; clear hg1) | ((with_reducible refine (w3.out _).mono ?_); rintro e w' ⟨rfl, hg1⟩; replace hg := fresh_trans hg hg1; clear hg1)))
      go_ret
      exact yes_of (by simp) hg
  · have hm' : (decide (2 ≤ x) && decide (x ≤ 262144)) = false := by simp; omega
    by_cases h0 : a = 0
    · subst h0
      clear w3 hw hin
      by_cases m1 : 2 ≤ x
      · have m2 : ¬ x ≤ 262144 := fun h => hm ⟨m1, h⟩
        go_enter Try.func6, Try.ntmps6
        go_wp2_with (first
          | (go_at_call 9; refine (S.out _).mono ?_; rintro e w' ⟨rfl, hg1⟩; replace hg := fresh_trans hg hg1; clear hg1)
          | (go_at_call 12; first | ((with_reducible refine (h1.out _).mono ?_); rintro e w' ⟨rfl, rfl⟩) | ((with_reducible refine (h2.out _).mono ?_); rintro e w' ⟨rfl, rfl⟩))
          | (go_at_call 10; first | ((with_reducible refine (w1.out _).mono ?_); rintro e w' ⟨rfl, hg1⟩; replace hg := fresh_trans hg hg1; clear hg1) | ((with_reducible refine (w2.out _).mono ?_); rintro e w' ⟨rfl, hg1⟩; replace hg := fresh_trans hg hg1; clear hg1) | ((with_reducible refine (w3.out _).mono ?_); rintro e w' ⟨rfl, hg1⟩; replace hg := fresh_trans hg hg1; clear hg1)))
        go_ret
        exact yes_of (by simp) hg
      · clear hm
        go_enter Try.func6, Try.ntmps6
        go_wp2_with (first
          | (go_at_call 9; refine (S.out _).mono ?_; rintro e w' ⟨rfl, hg1⟩; replace hg := fresh_trans hg hg1; clear hg1)
          | (go_at_call 12; first | ((with_reducible refine (h1.out _).mono ?_); rintro e w' ⟨rfl, rfl⟩) | ((with_reducible refine (h2.out _).mono ?_); rintro e w' ⟨rfl, rfl⟩))
          | (go_at_call 10; first | ((with_reducible refine (w1.out _).mono ?_); rintro e w' ⟨rfl, hg1⟩; replace hg := fresh_trans hg hg1; clear hg1) | ((with_reducible refine (w2.out _).mono ?_); rintro e w' ⟨rfl, hg1⟩; replace hg := fresh_trans hg hg1; clear hg1) | ((with_reducible refine (w3.out _).mono ?_); rintro e w' ⟨rfl, hg1⟩; replace hg := fresh_trans hg hg1; clear hg1)))
        go_ret
        exact yes_of (by simp) hg
    · rw [hw.out h0] at w3
      have h0' : (a == 0) = false := by simpa using h0
      clear hw hin
      by_cases m1 : 2 ≤ x
      · have m2 : ¬ x ≤ 262144 := fun h => hm ⟨m1, h⟩
        go_enter Try.func6, Try.ntmps6
        go_wp2_with (first
          | (go_at_call 9; refine (S.out _).mono ?_; rintro e w' ⟨rfl, hg1⟩; replace hg := fresh_trans hg hg1; clear hg1)
          | (go_at_call 12; first | ((with_reducible refine (h1.out _).mono ?_); rintro e w' ⟨rfl, rfl⟩) | ((with_reducible refine (h2.out _).mono ?_); rintro e w' ⟨rfl, rfl⟩))
          | (go_at_call 10; first | ((with_reducible refine (w1.out _).mono ?_); rintro e w' ⟨rfl, hg1⟩; replace hg := fresh_trans hg hg1; clear hg1) | ((with_reducible refine (w2.out _).mono ?_); rintro e w' ⟨rfl, hg1⟩; replace hg := fresh_trans hg hg1; clear hg1) | ((with_reducible refine (w3.out _).mono ?_); rintro e w' ⟨rfl, hg1⟩; replace hg := fresh_trans hg hg1; clear hg1)))
        go_ret
        exact yes_of (by simp) hg
      · clear hm
        go_enter Try.func6, Try.ntmps6
        go_wp2_with (first
          | (go_at_call 9; refine (S.out _).mono ?_; rintro e w' ⟨rfl, hg1⟩; replace hg := fresh_trans hg hg1; clear hg1)
          | (go_at_call 12; first | ((with_reducible refine (h1.out _).mono ?_); rintro e w' ⟨rfl, rfl⟩) | ((with_reducible refine (h2.out _).mono ?_); rintro e w' ⟨rfl, rfl⟩))
          | (go_at_call 10; first | ((with_reducible refine (w1.out _).mono ?_); rintro e w' ⟨rfl, hg1⟩; replace hg := fresh_trans hg hg1; clear hg1) | ((with_reducible refine (w2.out _).mono ?_); rintro e w' ⟨rfl, hg1⟩; replace hg := fresh_trans hg hg1; clear hg1) | ((with_reducible refine (w3.out _).mono ?_); rintro e w' ⟨rfl, hg1⟩; replace hg := fresh_trans hg hg1; clear hg1)))
        go_ret
        exact yes_of (by simp) hg
end Go.Proofs.Ytkegbagmgjlniaa.Share
