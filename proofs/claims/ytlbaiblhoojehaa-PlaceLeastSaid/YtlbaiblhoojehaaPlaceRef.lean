/- Which P the document chooses. Conditions: each argument is a number of its kind. -/
import Derived.Test.YtlbaiblhoojehaaPlaceChoose
namespace Go.Proofs.Ytlbaiblhoojehaa.Place
open Go.ChangeShapes Go.WideShapes Go.ChangeAt Go.RowKit Load
set_option linter.unusedVariables false
set_option linter.unusedSimpArgs false
attribute [local irreducible] Go.wpQuiet

theorem refMays (v : Option Addr) (n cap m : Nat) (p : Int) (w : World) (hm : m < 18446744073709551616) :
    Calls Try.prog 15 #[.slice v n cap, .int .i64 p, .int .u64 m] w (Is (.bool (over (can n m) p)) w) := by
  by_cases h0 : 0 ≤ p
  · obtain ⟨k, rfl⟩ : ∃ k : Nat, p = k := ⟨p.toNat, by omega⟩
    rw [over_nat]
    exact refMay v n cap m k w hm
  · rw [over_neg (by omega)]
    go_enter Try.func15, Try.ntmps15
    go_wp2
    go_ret
    exact ⟨rfl, rfl⟩

set_option maxHeartbeats 1000000 in
theorem refIs (v : Option Addr) (n cap : Nat) (u : Option Addr) (r rc m : Nat) (z : Nat → Int) (R : Nat → Bool) (p : Int) (w : World) (hm : m < 18446744073709551616) (hn : n ≤ 9223372036854775807) (hr : r ≤ 9223372036854775807) (h : Cell v n cap u r z R w) :
    Calls Try.prog 16 #[.slice v n cap, .slice u r rc, .int .i64 p, .int .u64 m] w (Is (.bool (over (rest z n r R m) p)) w) := by
  have MY := Lib.hid (refMays v n cap m p w hm)
  have hC := Lib.hid h
  clear h
  cases hc : over (can n m) p
  · rw [hc] at MY
    have e : over (rest z n r R m) p = false := by
      cases h : over (rest z n r R m) p
      · rfl
      · obtain ⟨j, rfl, hj⟩ := over_yes h
        rw [over_nat, (rest_can hj).1] at hc
        cases hc
    rw [e]
    clear e hc
    go_enter Try.func16, Try.ntmps16
    go_wp2_with (go_at_call 15; refine MY.out.mono ?_; rintro e w1 ⟨rfl, hw⟩; replace hw := hw.symm; subst hw)
    go_ret
    exact ⟨rfl, rfl⟩
  · rw [hc] at MY
    obtain ⟨j, rfl, hj⟩ := over_yes hc
    rw [over_nat]
    obtain ⟨hjn, -, -⟩ := can_lt hj
    have hjn' : (j : Int) < n := by omega
    have E : Hid (rest z n r R m j = ((z j == 0) && !busy r R j)) := Lib.hid (by unfold rest; rw [hj]; rfl)
    obtain ⟨b, o, rfl, hb, hcell⟩ := hC.out.1.lies j hjn
    by_cases h0 : z j = 0
    · rw [h0] at hcell
      by_cases hjr : j < r
      · have hjr' : (j : Int) < r := by omega
        obtain ⟨b2, o2, rfl, hb2, hcell2⟩ := hC.out.2 j hjr
        have E2 := Lib.hid (E.out.trans (show ((z j == 0) && !busy r R j) = !R j by unfold busy; simp [h0, hjr]))
        rw [E2.out]
        generalize R j = c at *
        clear hj E E2 hc h0
        cases c
        all_goals
          go_enter Try.func16, Try.ntmps16
          go_wp2_with (go_at_call 15; refine MY.out.mono ?_; rintro e w1 ⟨rfl, hw⟩; replace hw := hw.symm; subst hw)
          go_ret
          exact ⟨rfl, rfl⟩
      · have hjr' : ¬ (j : Int) < r := by omega
        rw [E.out.trans (show ((z j == 0) && !busy r R j) = true by unfold busy; simp [h0, hjr])]
        clear hj E hc h0
        go_enter Try.func16, Try.ntmps16
        go_wp2_with (go_at_call 15; refine MY.out.mono ?_; rintro e w1 ⟨rfl, hw⟩; replace hw := hw.symm; subst hw)
        go_ret
        exact ⟨rfl, rfl⟩
    · have h0' : (z j == 0) = false := by simpa using h0
      rw [E.out.trans (show ((z j == 0) && !busy r R j) = false by simp [h0'])]
      generalize z j = zj at *
      have h0n : (zj != 0) = true := by simpa using h0
      clear hj E hc
      go_enter Try.func16, Try.ntmps16
      go_wp2_with (go_at_call 15; refine MY.out.mono ?_; rintro e w1 ⟨rfl, hw⟩; replace hw := hw.symm; subst hw)
      go_ret
      exact ⟨rfl, rfl⟩

theorem refIdles (v : Option Addr) (n cap : Nat) (u : Option Addr) (r rc m : Nat) (z : Nat → Int) (R : Nat → Bool) (w : World) (hm : m < 18446744073709551616) (hn : n ≤ 9223372036854775807) (hr : r ≤ 9223372036854775807) (h : Cell v n cap u r z R w) :
    Calls Try.prog 14 #[.slice v n cap, .slice u r rc, .int .u64 m] w (Is (.int .i64 (low (rest z n r R m) n)) w) := by
  have IS : Hid (∀ p : Nat, Calls Try.prog 16 #[.slice v n cap, .slice u r rc, .int .i64 p, .int .u64 m] w (Is (.bool (rest z n r R m p)) w)) := Lib.hid fun p => by
    have := refIs v n cap u r rc m z R p w hm hn hr h
    rwa [over_nat] at this
  clear h
  generalize rest z n r R m = S at *
  go_enter Try.func14, Try.ntmps14
  go_wp2
  go_loopw [7] (fun t wr => ∃ k : Nat, k ≤ n ∧ t = .int .i64 k ∧ (∀ j, j < k → S j = false) ∧ wr = w) (fun i _ => n - (intOf i).toNat)
  case atStart => exact ⟨0, by omega, rfl, fun j hj => by omega, rfl⟩
  case round =>
    obtain ⟨k, hk, rfl, hS, rfl⟩ := hrel
    replace hS := Lib.hid hS
    by_cases hlt : k < n
    · have h3 : (k : Int) < n := by omega
      have C := Lib.hid (IS.out k)
      cases hc : S k
      · rw [hc] at C
        go_wp2_with (go_at_call 16; refine C.out.mono ?_; rintro e w1 ⟨rfl, hw⟩; replace hw := hw.symm; subst hw)
        go_roundw
        case rel => exact ⟨k + 1, by omega, by go_num, fun j hj => by rcases (by omega : j < k ∨ j = k) with h | rfl; exact hS.out j h; exact hc, by first | rfl | trivial⟩
        case measure => simp [intOf]; omega
      · rw [hc] at C
        have E := Lib.hid (low_first (n := n) hlt hc hS.out)
        go_wp2_with (go_at_call 16; refine C.out.mono ?_; rintro e w1 ⟨rfl, hw⟩; replace hw := hw.symm; subst hw)
        go_ret
        exact is_of (by rw [E.out]; rfl)
    · have h3 : ¬ (k : Int) < n := by omega
      obtain rfl : k = n := by omega
      have E := Lib.hid (low_none hS.out)
      go_wp2
      go_ret
      exact is_of (by rw [E.out]; rfl)

/-- Whether S lets any of the first n. -/
def anyOf (S : Nat → Bool) : Nat → Bool
  | 0 => false
  | n + 1 => anyOf S n || S n
theorem any_no {S : Nat → Bool} {n : Nat} (h : ∀ j, j < n → S j = false) : anyOf S n = false := by
  induction n with
  | zero => rfl
  | succ n ih => rw [anyOf, ih (fun j hj => h j (by omega)), h n (by omega)]; rfl
theorem any_yes {S : Nat → Bool} {n k : Nat} (hk : k < n) (h : S k = true) : anyOf S n = true := by
  induction n with
  | zero => omega
  | succ n ih =>
    rcases (by omega : k < n ∨ k = n) with h1 | rfl
    · rw [anyOf, ih h1]; rfl
    · rw [anyOf, h]; simp

set_option maxHeartbeats 2000000 in
theorem refChooses (v : Option Addr) (n cap : Nat) (u : Option Addr) (r rc m : Nat) (z : Nat → Int) (R : Nat → Bool) (prev : Int) (w : World) (hm : m < 18446744073709551616) (hn : n ≤ 9223372036854775807) (hr : r ≤ 9223372036854775807) (h : Cell v n cap u r z R w) :
    Calls Try.prog 12 #[.slice v n cap, .slice u r rc, .int .i64 prev, .int .u64 m] w (Two (cho z n r R m prev) w) := by
  have MK : Hid (∀ p : Nat, ∀ w, Calls Try.prog 15 #[.slice v n cap, .int .i64 p, .int .u64 m] w (Is (.bool (can n m p)) w)) := Lib.hid fun p w => refMay v n cap m p w hm
  have MP := Lib.hid (fun w => refMays v n cap m prev w hm)
  have IS := Lib.hid (fun w (h : Cell v n cap u r z R w) => refIs v n cap u r rc m z R prev w hm hn hr h)
  have ID := Lib.hid (fun w (h : Cell v n cap u r z R w) => refIdles v n cap u r rc m z R w hm hn hr h)
  have LE := Lib.hid (fun w (h : Cell v n cap u r z R w) => refLeast v n cap m z w hm hn (Lib.hid h.1.lies))
  have hC := Lib.hid h
  clear h
  have hg := Below.refl w.heap.size w
  go_enter Try.func12, Try.ntmps12
  go_wp2
  go_loopw [10, 11] (fun t10 t11 wr => ∃ k : Nat, k ≤ n ∧ t10 = .bool (anyOf (can n m) k) ∧ t11 = .int .i64 k ∧ wr = w) (fun _ i _ => n - (intOf i).toNat)
  case atStart => exact ⟨0, by omega, rfl, rfl, rfl⟩
  case round =>
    obtain ⟨k, hk, rfl, rfl, rfl⟩ := hrel
    by_cases hlt : k < n
    · have h3 : (k : Int) < n := by omega
      have C := Lib.hid (MK.out k)
      have E : Hid (anyOf (can n m) (k + 1) = (anyOf (can n m) k || can n m k)) := Lib.hid rfl
      generalize anyOf (can n m) k = c at *
      generalize can n m k = d at *
      cases c <;> cases d
      all_goals
        go_wp2_with (go_at_call 15; refine (C.out _).mono ?_; rintro e w1 ⟨rfl, hw⟩; replace hw := hw.symm; subst hw)
        go_roundw
        case rel => exact ⟨k + 1, by omega, by rw [E.out]; rfl, by go_num, by first | rfl | trivial⟩
        case measure => simp [intOf]; omega
    have h3 : ¬ (k : Int) < n := by omega
    obtain rfl : k = n := by omega
    clear hlt h3 hk
    rcases lea_bd z k m with ⟨hl, hno⟩ | ⟨l, hl, hln, hlm, -⟩
    · have E := Lib.hid (cho_none (r := r) (R := R) (p := prev) hl)
      rw [any_no (S := can k m) (fun j hj => by rw [can_in hj]; exact hno j hj)]
      rw [hl] at LE
      clear hl hno
      go_wp2_with (first
        | (go_at_call 16; refine (IS.out _ hC.out).mono ?_; rintro e w1 ⟨rfl, hw⟩; replace hw := hw.symm; subst hw)
        | (go_at_call 14; refine (ID.out _ hC.out).mono ?_; rintro e w1 ⟨rfl, hw⟩; replace hw := hw.symm; subst hw)
        | (go_at_call 21; refine (LE.out _ hC.out).mono ?_; rintro e w4 ⟨rfl, hg1⟩; replace hC := Lib.hid (hC.out.fresh hg1); replace hg := fresh_trans hg hg1; clear hg1))
      go_ret2
      exact two_of E.out hg
    rw [any_yes (S := can k m) hln (by rw [can_in hln]; exact hlm)]
    have hl1 : lea z k m ≠ -1 := by omega
    have hln' : (l : Int) < k := by omega
    cases ho : over (rest z k r R m) prev
    rotate_left
    · have E := Lib.hid (cho_prev hl1 ho)
      rw [ho] at IS
      rw [hl] at LE
      clear hl ho hl1
      go_wp2_with (first
        | (go_at_call 16; refine (IS.out _ hC.out).mono ?_; rintro e w1 ⟨rfl, hw⟩; replace hw := hw.symm; subst hw)
        | (go_at_call 14; refine (ID.out _ hC.out).mono ?_; rintro e w1 ⟨rfl, hw⟩; replace hw := hw.symm; subst hw)
        | (go_at_call 21; refine (LE.out _ hC.out).mono ?_; rintro e w4 ⟨rfl, hg1⟩; replace hC := Lib.hid (hC.out.fresh hg1); replace hg := fresh_trans hg hg1; clear hg1))
      go_ret2
      exact two_of E.out hg
    rw [ho] at IS
    rcases low_bd (rest z k r R m) k with ⟨hw, -⟩ | ⟨j, hw, -, -, -⟩
    rotate_left
    · have E := Lib.hid (cho_low hl1 ho (by omega))
      rw [hw] at ID E
      rw [hl] at LE
      have hj0 : (0 : Int) ≤ j := by omega
      clear hl ho hl1 hw
      go_wp2_with (first
        | (go_at_call 16; refine (IS.out _ hC.out).mono ?_; rintro e w1 ⟨rfl, hw⟩; replace hw := hw.symm; subst hw)
        | (go_at_call 14; refine (ID.out _ hC.out).mono ?_; rintro e w1 ⟨rfl, hw⟩; replace hw := hw.symm; subst hw)
        | (go_at_call 21; refine (LE.out _ hC.out).mono ?_; rintro e w4 ⟨rfl, hg1⟩; replace hC := Lib.hid (hC.out.fresh hg1); replace hg := fresh_trans hg hg1; clear hg1))
      go_ret2
      exact two_of E.out hg
    rw [hw] at ID
    cases hc : over (can k m) prev
    · have E := Lib.hid ((cho_lea hl1 ho hw (fun h => by rw [h.1] at hc; cases hc)).trans (by rw [hl]))
      rw [hc] at MP
      rw [hl] at LE
      clear hl ho hl1 hw hc
      go_wp2_with (first
        | (go_at_call 16; refine (IS.out _ hC.out).mono ?_; rintro e w1 ⟨rfl, hw⟩; replace hw := hw.symm; subst hw)
        | (go_at_call 14; refine (ID.out _ hC.out).mono ?_; rintro e w1 ⟨rfl, hw⟩; replace hw := hw.symm; subst hw)
        | (go_at_call 21; refine (LE.out _ hC.out).mono ?_; rintro e w4 ⟨rfl, hg1⟩; replace hC := Lib.hid (hC.out.fresh hg1); replace hg := fresh_trans hg hg1; clear hg1))
      go_quiet (first | (go_at_call 15; exact Calls.quiet_of_same (MP.out _)))
      go_wp2_with fail
      go_ret2
      exact two_of E.out (drawn hg _)
    rw [hc] at MP
    obtain ⟨p, rfl, hp⟩ := over_yes hc
    obtain ⟨hpn, -, -⟩ := can_lt hp
    have hpn' : (p : Int) < k := by omega
    obtain ⟨b, o, rfl, hb, d1⟩ := hC.out.1.lies p hpn
    obtain ⟨b', o', e', hb', d2⟩ := hC.out.1.lies l hln
    obtain ⟨rfl, rfl⟩ : b' = b ∧ o' = o := by cases e'; exact ⟨rfl, rfl⟩
    clear e'
    have D1 := Lib.hid (fun wx (h : Below wr.heap.size wr wx) => cell_fresh d1 h)
    have D2 := Lib.hid (fun wx (h : Below wr.heap.size wr wx) => cell_fresh d2 h)
    clear d1 d2
    by_cases hz : z p ≤ z l
    · have E := Lib.hid (cho_stay hl1 ho hw hc (by rw [hl]; simpa using hz))
      rw [hl] at LE
      clear hl ho hl1 hw hc hp
      generalize z p = zp at *
      generalize z l = zl at *
      have hz2 : decide (zp ≤ zl) = true := by simpa using hz
      go_wp2_with (first
        | (go_at_call 16; refine (IS.out _ hC.out).mono ?_; rintro e w1 ⟨rfl, hw⟩; replace hw := hw.symm; subst hw)
        | (go_at_call 14; refine (ID.out _ hC.out).mono ?_; rintro e w1 ⟨rfl, hw⟩; replace hw := hw.symm; subst hw)
        | (go_at_call 21; refine (LE.out _ hC.out).mono ?_; rintro e w4 ⟨rfl, hg1⟩; replace hC := Lib.hid (hC.out.fresh hg1); replace hg := fresh_trans hg hg1; clear hg1; have q1 := D1.out _ hg; have q2 := D2.out _ hg))
      go_quiet (first | (go_at_call 15; exact Calls.quiet_of_same (MP.out _)))
      go_wp2_with fail
      go_ret2
      exact two_of E.out (drawn hg _)
    · have E := Lib.hid ((cho_lea hl1 ho hw (fun h => hz (by have := h.2; rw [hl] at this; simpa using this))).trans (by rw [hl]))
      rw [hl] at LE
      clear hl ho hl1 hw hc hp
      generalize z p = zp at *
      generalize z l = zl at *
      have hz2 : decide (zp ≤ zl) = false := by simpa using hz
      go_wp2_with (first
        | (go_at_call 16; refine (IS.out _ hC.out).mono ?_; rintro e w1 ⟨rfl, hw⟩; replace hw := hw.symm; subst hw)
        | (go_at_call 14; refine (ID.out _ hC.out).mono ?_; rintro e w1 ⟨rfl, hw⟩; replace hw := hw.symm; subst hw)
        | (go_at_call 21; refine (LE.out _ hC.out).mono ?_; rintro e w4 ⟨rfl, hg1⟩; replace hC := Lib.hid (hC.out.fresh hg1); replace hg := fresh_trans hg hg1; clear hg1; have q1 := D1.out _ hg; have q2 := D2.out _ hg))
      go_quiet (first | (go_at_call 15; exact Calls.quiet_of_same (MP.out _)))
      go_wp2_with fail
      go_ret2
      exact two_of E.out (drawn hg _)
end Go.Proofs.Ytlbaiblhoojehaa.Place
