/- The walks of three more of stage 17's laws. Conditions: each argument is a number of its kind; a slice has room for what it holds. -/
import Derived.Test.YtlbaiblhoojehaaPlaceLaws
namespace Go.Proofs.Ytlbaiblhoojehaa.Place
open Go.ChangeShapes Go.WideShapes Go.ChangeAt Go.RowKit Load
set_option linter.unusedVariables false
set_option linter.unusedSimpArgs false
attribute [local irreducible] Go.wpQuiet

theorem any_iff {S : Nat → Bool} {n : Nat} (h : anyOf S n = true) : ∃ j, j < n ∧ S j = true := by
  induction n with
  | zero => cases h
  | succ n ih =>
    rw [anyOf] at h
    cases h1 : anyOf S n
    · rw [h1] at h; exact ⟨n, by omega, by simpa using h⟩
    · obtain ⟨j, hj, hS⟩ := ih h1; exact ⟨j, by omega, hS⟩
theorem any_off {S : Nat → Bool} {n : Nat} (h : anyOf S n = false) {j : Nat} (hj : j < n) : S j = false := by
  cases hc : S j with
  | false => rfl
  | true => rw [any_yes hj hc] at h; cases h

set_option maxHeartbeats 1000000 in
theorem leastLaw (v : Option Addr) (n cap : Nat) (u : Option Addr) (r rc : Nat) (z : Nat → Int) (R : Nat → Bool) (m : Nat) (prev : Int) (w : World) (hm : m < 18446744073709551616) (hn : n ≤ 9223372036854775807) (hr : r ≤ 9223372036854775807) (h : Cell v n cap u r z R w) :
    Calls Try.prog 5 #[.slice v n cap, .slice u r rc, .int .i64 prev, .int .u64 m] w (Yes w) := by
  have S := Lib.hid (fun w => shown w)
  have hC := Lib.hid h
  have FW := Lib.hid (fun w (h : Cell v n cap u r z R w) => few v n cap w hn h.1.room h.1.nils)
  have IL : Hid (∀ w, Cell v n cap u r z R w → Cell v (min n 100) cap u r z R w) := Lib.hid fun w h => ⟨h.1.less (by omega), h.2⟩
  have hl : min n 100 ≤ 100 := by omega
  have hz := (h.1.less (k := min n 100) (by omega)).nums
  generalize min n 100 = l at *
  have hz0 : ∀ j, j < l → 0 ≤ z j := fun j hj => (hz j hj).1
  clear hz h
  have hg := Below.refl w.heap.size w
  have PC := Lib.hid (fun w (h : Cell v l cap u r z R w) => chooses v l cap u r rc m z R prev w hm (by omega) hr h)
  have MY0 := Lib.hid (fun (p : Nat) w => refMay v l cap m p w hm)
  have IS0 : Hid (∀ (p : Nat) w, Cell v l cap u r z R w → Calls Try.prog 16 #[.slice v l cap, .slice u r rc, .int .i64 p, .int .u64 m] w (Is (.bool (rest z l r R m p)) w)) := Lib.hid fun p w h => by
    have := refIs v l cap u r rc m z R p w hm (by omega) hr h
    rwa [over_nat] at this
  have hc := cho_all (r := r) (R := R) (m := m) (prev := prev) hz0
  have HLT := Lib.hid (fun p (h : can l m p = true) => (can_lt h).1)
  generalize hQ : can l m = Q at *
  clear hQ
  generalize hT : rest z l r R m = T at *
  clear hT
  rcases hc with ⟨hc, -⟩ | ⟨p, hc, hcan, hmin, hidle⟩
  · rw [hc] at PC
    clear hc hz0
    go_enter Try.func5, Try.ntmps5
    go_wp2_with (first
      | (go_at_call 9; refine (S.out _).mono ?_; rintro e ws ⟨rfl, hg1⟩; replace hC := Lib.hid (hC.out.fresh hg1); replace hg := fresh_trans hg hg1; clear hg1)
      | (go_at_call 10; refine (FW.out _ hC.out).mono ?_; rintro e wf ⟨rfl, hw⟩; subst hw; replace hC := Lib.hid (IL.out _ hC.out))
      | (go_at_call 11; refine (PC.out _ hC.out).mono ?_; rintro e wc ⟨rfl, hg1⟩; replace hC := Lib.hid (hC.out.fresh hg1); replace hg := fresh_trans hg hg1; clear hg1))
    go_ret
    exact yes_of (by simp) hg
  · rw [hc] at PC
    clear hc hz0
    have hpl := HLT.out p hcan
    have p0 : ¬ (p : Int) < 0 := by omega
    have p1 : ¬ (p : Int) ≥ l := by omega
    have p2 : ¬ l ≤ p := by omega
    have p3 : decide (l ≤ p) = false := by simpa using p2
    replace hmin := Lib.hid hmin
    replace hidle := Lib.hid hidle
    clear hcan
    go_enter Try.func5, Try.ntmps5
    go_wp2_with (first
      | (go_at_call 9; refine (S.out _).mono ?_; rintro e ws ⟨rfl, hg1⟩; replace hC := Lib.hid (hC.out.fresh hg1); replace hg := fresh_trans hg hg1; clear hg1)
      | (go_at_call 10; refine (FW.out _ hC.out).mono ?_; rintro e wf ⟨rfl, hw⟩; subst hw; replace hC := Lib.hid (IL.out _ hC.out))
      | (go_at_call 11; refine (PC.out _ hC.out).mono ?_; rintro e wc ⟨rfl, hg1⟩; replace hC := Lib.hid (hC.out.fresh hg1); replace hg := fresh_trans hg hg1; clear hg1))
    go_loopw [13, 14] (fun t13 t14 wr => ∃ k : Nat, k ≤ l ∧ t13 = .bool (anyOf T k) ∧ t14 = .int .i64 k ∧ Below wc.heap.size wc wr) (fun _ i _ => l - (intOf i).toNat)
    case atStart => exact ⟨0, by omega, rfl, rfl, Below.refl _ _⟩
    case round =>
      obtain ⟨k, hk, rfl, rfl, hb⟩ := hrel
      have hC2 := Lib.hid (hC.out.fresh hb)
      have hg2 := fresh_trans hg hb
      by_cases hlt : k < l
      · have h3 : (k : Int) < l := by omega
        have MY := Lib.hid (MY0.out k)
        have IS : Hid (∀ wx, Below wr.heap.size wr wx → Calls Try.prog 16 #[.slice v l cap, .slice u r rc, .int .i64 k, .int .u64 m] wx (Is (.bool (T k)) wx)) := Lib.hid fun wx h => IS0.out k wx (hC2.out.fresh h)
        have E : Hid (anyOf T (k + 1) = (anyOf T k || T k)) := Lib.hid rfl
        have HD : Hid (∀ nq, Below wc.heap.size wc (wr.drewN nq)) := Lib.hid fun nq => drawn hb nq
        have HX : Hid (∀ nq, Below wr.heap.size wr (wr.drewN nq)) := Lib.hid fun nq => drawn (Below.refl _ _) nq
        obtain ⟨b, o, rfl, hb1, d1⟩ := hC2.out.1.lies k hlt
        obtain ⟨b', o', e', hb', d2⟩ := hC2.out.1.lies p hpl
        obtain ⟨rfl, rfl⟩ : b' = b ∧ o' = o := by cases e'; exact ⟨rfl, rfl⟩
        clear e'
        cases hck : Q k
        · rw [hck] at MY
          clear hck
          generalize z k = zk at *
          generalize z p = zp at *
          go_wp2_with fail
          go_quiet (first | (go_at_call 15; exact Calls.quiet_of_same (MY.out _)))
          generalize hac : anyOf T k = c at *
          generalize hd : T k = d at *
          clear hac hd
          cases c <;> cases d
          all_goals
            go_wp2_with (go_at_call 16; refine (IS.out _ (HX.out _)).mono ?_; rintro e w1 ⟨rfl, hw⟩; replace hw := hw.symm; subst hw)
            go_roundw
            case rel => exact ⟨k + 1, by omega, by rw [E.out]; rfl, by go_num, HD.out _⟩
            case measure => simp [intOf]; omega
        · rw [hck] at MY
          have hz2 : decide (z k < z p) = false := by have := hmin.out k hck; simp; omega
          clear hck
          generalize z k = zk at *
          generalize z p = zp at *
          go_wp2_with fail
          go_quiet (first | (go_at_call 15; exact Calls.quiet_of_same (MY.out _)))
          generalize hac : anyOf T k = c at *
          generalize hd : T k = d at *
          clear hac hd
          cases c <;> cases d
          all_goals
            go_wp2_with (go_at_call 16; refine (IS.out _ (HX.out _)).mono ?_; rintro e w1 ⟨rfl, hw⟩; replace hw := hw.symm; subst hw)
            go_roundw
            case rel => exact ⟨k + 1, by omega, by rw [E.out]; rfl, by go_num, HD.out _⟩
            case measure => simp [intOf]; omega
      · have h3 : ¬ (k : Int) < l := by omega
        obtain rfl : k = l := by omega
        have IS : Hid (Calls Try.prog 16 #[.slice v k cap, .slice u r rc, .int .i64 p, .int .u64 m] wr (Is (.bool (T p)) wr)) := Lib.hid (IS0.out p wr hC2.out)
        cases ha : anyOf T k
        · clear ha
          go_wp2_with fail
          go_ret
          exact yes_of (by simp) hg2
        · obtain ⟨j, hj, hT⟩ := any_iff ha
          rw [hidle.out j hT] at IS
          clear ha hT
          go_wp2_with (go_at_call 16; refine IS.out.mono ?_; rintro e w1 ⟨rfl, hw⟩; replace hw := hw.symm; subst hw)
          go_ret
          exact yes_of (by simp) hg2
end Go.Proofs.Ytlbaiblhoojehaa.Place
