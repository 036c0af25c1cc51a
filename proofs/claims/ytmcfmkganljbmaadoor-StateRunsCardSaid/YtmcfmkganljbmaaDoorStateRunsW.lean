/- The walk of StateRuns. Conditions: as each fact states them. -/
import Derived.Test.YtmcfmkganljbmaaDoorStateScript
namespace Go.Proofs.YtmcfmkganljbmaaDoor.State
open Go.ChangeShapes Go.WideShapes Go.ChangeAt Go.RowKit
set_option linter.unusedVariables false
set_option linter.unusedSimpArgs false
set_option maxRecDepth 100000

theorem drawn (w : World) (n : Nat) : Below w.heap.size w (w.drewN n) := ⟨rfl, rfl, rfl, Nat.le_refl _, fun _ _ => rfl⟩
def CntI (z : Nat → Int) (n : Nat) (w : World) (lf : Nat) (t u v : Value) (wr : World) : Prop :=
  ∃ k : Nat, k ≤ n ∧ lf = n - k ∧ t = .int .i64 (pick z k) ∧ u = .int .i64 (stop z k) ∧ v = .int .i64 k ∧ wr = w
set_option maxHeartbeats 4000000 in
theorem runsLaw (v : Option Addr) (n cap : Nat) (z : Nat → Int) (w : World) (hn : n ≤ 9223372036854775807) (hT : Tab w) (hc : Lies v n z w) :
    Calls Tryd.prog 5 #[.slice v n cap] w (Yes w) := by
  have hg := Below.refl w.heap.size w
  have S := Lib.hid (shown w hT)
  have R := Lib.hid (fun w' (h : Below w.heap.size w w') => runs_to v n cap z w' hn (hT.fresh h) (hc.fresh h))
  have CC := Lib.hid (fun w' (h : Below w.heap.size w w') => hc.fresh h)
  clear hT hc
  unfold IsRun at R
  have OK1 := Lib.hid (script_ok z n)
  have RU : Hid ((script z n).2.2 = 0 → ∀ k : Nat, k ≤ n → ((script z k).1 = 3 ∧ pick z k = stop z k + 1) ∨ (¬ (script z k).1 = 3 ∧ pick z k = stop z k)) := Lib.hid (fun h k hk => runs (script_pre h hk))
  generalize hs : (script z n).1 = s at *
  generalize hm : (script z n).2.1 = m at *
  generalize he : (script z n).2.2 = e at *
  replace hs := Lib.hid hs
  clear hm he
  by_cases h0 : e = 0
  · subst h0
    have hm := OK1.out.1 rfl
    subst hm
    replace RU := Lib.hid (RU.out rfl)
    clear OK1
    go_enter Tryd.func5, Tryd.ntmps5
    go_wp2_with (first
      | (go_at_call 6; refine S.out.mono ?_; rintro e w1 ⟨rfl, hg1⟩; replace hg := fresh_trans hg hg1; clear hg1)
      | (go_at_call 7; refine (R.out _ hg).mono ?_; rintro e w2 ⟨rfl, hg1⟩; replace hg := fresh_trans hg hg1; clear hg1))
    have HC := Lib.hid (CC.out _ hg)
    clear S R CC
    go_loopg [7, 8, 9] n (fun lf t u v wr => CntI z n w2 lf t u v wr)
    case atStart => exact ⟨0, by omega, rfl, rfl, rfl, rfl, rfl⟩
    case round =>
      obtain ⟨k, hk, rfl, rfl, rfl, rfl, hw⟩ := hrel
      replace hw := hw.symm
      subst hw
      obtain ⟨p0, q0, q1⟩ := pick_bd z k
      by_cases hlt : k < n
      · have h1 : (k : Int) < n := by omega
        obtain ⟨b, o, rfl, hb, hcell⟩ := HC.out k hlt
        have NX : Hid (CntI z n w2 (n - (k + 1)) (.int .i64 (pick z (k + 1))) (.int .i64 (stop z (k + 1))) (.int .i64 ((k : Int) + 1)) w2) := Lib.hid ⟨k + 1, by omega, rfl, rfl, rfl, by go_num, rfl⟩
        have RK := RU.out (k + 1) (by omega)
        have RP := RU.out k (by omega)
        have e1 : pick z (k + 1) = if z k = 101 then pick z k + 1 else pick z k := rfl
        have e2 : stop z (k + 1) = if isStop (z k) = true then stop z k + 1 else stop z k := rfl
        have hps : pick z (k + 1) = stop z (k + 1) + 1 ∨ pick z (k + 1) = stop z (k + 1) := by rcases RK with h | h <;> omega
        clear RK RP RU HC hb
        rw [e1, e2] at hps NX
        clear e1 e2
        generalize pick z k = p at *
        generalize stop z k = q at *
        generalize z k = x at *
        have hx : x = 101 ∨ x = 8 ∨ x = 9 ∨ x = 10 ∨ x = 102 ∨ (¬ x = 101 ∧ ¬ x = 8 ∧ ¬ x = 9 ∧ ¬ x = 10 ∧ ¬ x = 102) := by omega
        rcases hx with rfl | rfl | rfl | rfl | rfl | ⟨x1, x2, x3, x4, x5⟩
        all_goals simp only [isStop, if_true, if_false, reduceIte, Int.reduceEq, or_true, true_or, or_self, or_false, false_or, decide_true, decide_false, reduceCtorEq, Bool.false_eq_true] at hps NX
        · have f1 : decide (p + 1 < q) = false := by simp; omega
          have f2 : decide (q + 1 < p + 1) = false := by simp; omega
          have f3 : ¬ q < p := by omega
          have f4 : ¬ p + 1 < q := by omega
          clear hps
          go_wp2_with fail
          go_roundg (n - (k + 1))
          case measure => omega
          case rel => exact NX.out
        · have f1 : decide (p < q + 1) = false := by simp; omega
          have f2 : decide (q + 1 + 1 < p) = false := by simp; omega
          have f3 : ¬ p ≤ q := by omega
          have f4 : ¬ p < q + 1 := by omega
          have f5 : ¬ q + 1 + 1 < p := by omega
          clear hps
          go_wp2_with fail
          go_roundg (n - (k + 1))
          case measure => omega
          case rel => exact NX.out
        · have f1 : decide (p < q + 1) = false := by simp; omega
          have f2 : decide (q + 1 + 1 < p) = false := by simp; omega
          have f3 : ¬ p ≤ q := by omega
          have f4 : ¬ p < q + 1 := by omega
          have f5 : ¬ q + 1 + 1 < p := by omega
          clear hps
          go_wp2_with fail
          go_roundg (n - (k + 1))
          case measure => omega
          case rel => exact NX.out
        · have f1 : decide (p < q + 1) = false := by simp; omega
          have f2 : decide (q + 1 + 1 < p) = false := by simp; omega
          have f3 : ¬ p ≤ q := by omega
          have f4 : ¬ p < q + 1 := by omega
          have f5 : ¬ q + 1 + 1 < p := by omega
          clear hps
          go_wp2_with fail
          go_roundg (n - (k + 1))
          case measure => omega
          case rel => exact NX.out
        · have f1 : decide (p < q + 1) = false := by simp; omega
          have f2 : decide (q + 1 + 1 < p) = false := by simp; omega
          have f3 : ¬ p ≤ q := by omega
          have f4 : ¬ p < q + 1 := by omega
          have f5 : ¬ q + 1 + 1 < p := by omega
          clear hps
          go_wp2_with fail
          go_roundg (n - (k + 1))
          case measure => omega
          case rel => exact NX.out
        · have e3 : decide (x = 8 ∨ x = 9 ∨ x = 10 ∨ x = 102) = false := by simp; omega
          simp only [x1, e3, if_false, Bool.false_eq_true, reduceIte] at hps NX
          have f1 : decide (p < q) = false := by simp; omega
          have f2 : decide (q + 1 < p) = false := by simp; omega
          have f3 : ¬ p < q := by omega
          have f4 : ¬ q + 1 < p := by omega
          have g1 : (x == 101) = false := by simpa using x1
          have g2 : (x == 8) = false := by simpa using x2
          have g3 : (x == 9) = false := by simpa using x3
          have g4 : (x == 10) = false := by simpa using x4
          have g5 : (x == 102) = false := by simpa using x5
          clear hps e3 x1 x2 x3 x4 x5
          go_wp2_with fail
          go_roundg (n - (k + 1))
          case measure => omega
          case rel => exact NX.out
      · obtain rfl : k = n := by omega
        have RK := RU.out k (Nat.le_refl _)
        have f4 : ¬ (k : Int) < k := by omega
        clear RU HC
        rw [hs.out] at RK
        clear hs
        generalize pick z k = p at *
        generalize stop z k = q at *
        rcases RK with ⟨rfl, rfl⟩ | ⟨s3, rfl⟩
        · go_wp2_with fail
          go_ret
          exact yes_of (by simp; try omega) hg
        · have s3' : (s == 3) = false := by simpa using s3
          have f5 : (p == p + 1) = false := by simp; omega
          clear s3
          go_wp2_with fail
          go_ret
          exact yes_of (by simp; try omega) hg
  · have h1 : (e == 0) = false := by simpa using h0
    have hs0 : s = 0 := OK1.out.2 h0
    subst hs0
    clear OK1 h0
    go_enter Tryd.func5, Tryd.ntmps5
    go_wp2_with (first
      | (go_at_call 6; refine S.out.mono ?_; rintro e w1 ⟨rfl, hg1⟩; replace hg := fresh_trans hg hg1; clear hg1)
      | (go_at_call 7; refine (R.out _ hg).mono ?_; rintro e w2 ⟨rfl, hg1⟩; replace hg := fresh_trans hg hg1; clear hg1))
    go_ret
    exact yes_of rfl hg
end Go.Proofs.YtmcfmkganljbmaaDoor.State
