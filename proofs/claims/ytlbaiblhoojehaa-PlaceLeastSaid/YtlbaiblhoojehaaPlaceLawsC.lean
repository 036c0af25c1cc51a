/- The walks of PlaceStays and PlaceOnes. Conditions: each argument is a number of its kind; a slice has room for what it holds. -/
import Derived.Test.YtlbaiblhoojehaaPlaceLawsB
namespace Go.Proofs.Ytlbaiblhoojehaa.Place
open Go.ChangeShapes Go.WideShapes Go.ChangeAt Go.RowKit Load
set_option linter.unusedVariables false
set_option linter.unusedSimpArgs false
attribute [local irreducible] Go.wpQuiet

/-- Whether any of the first j that may be has less. -/
def lessOf (z : Nat → Int) (n m k : Nat) : Nat → Bool := anyOf (fun i => can n m i && decide (z i < z k))
theorem stays {z : Nat → Int} {n r m k : Nat} {R : Nat → Bool} (hc : can n m k = true) :
    ((rest z n r R m k = true ∨ (low (rest z n r R m) n = -1 ∧ lessOf z n m k n = false)) → cho z n r R m k = ((k : Int), 0)) ∧
    (¬ (rest z n r R m k = true ∨ (low (rest z n r R m) n = -1 ∧ lessOf z n m k n = false)) → ∃ p : Nat, cho z n r R m k = ((p : Int), 0) ∧ p ≠ k) := by
  rcases lea_bd z n m with ⟨hl, hno⟩ | ⟨l, hl, hln, hlm, hle⟩
  · have := can_lt hc; rw [hno k this.1] at this; simp at this
  have hl1 : lea z n m ≠ -1 := by omega
  cases hr : rest z n r R m k
  · have ho : over (rest z n r R m) k = false := by rw [over_nat]; exact hr
    rcases low_bd (rest z n r R m) n with ⟨hw, -⟩ | ⟨p, hw, hp, hrp, -⟩
    · have hk := can_lt hc
      by_cases hz : z k ≤ z l
      · have e := cho_stay hl1 ho hw (by rw [over_nat]; exact hc) (show z (k : Int).toNat ≤ z (lea z n m).toNat by rw [hl]; simpa using hz)
        refine ⟨fun _ => e, fun h => absurd (.inr ⟨hw, any_no fun j hj => ?_⟩) h⟩
        cases hcj : can n m j
        · rfl
        · have := hle j hj (can_lt hcj).2.2; simp; omega
      · have e := (cho_lea hl1 ho hw (fun h => hz (by have := h.2; rw [hl] at this; simpa using this))).trans (by rw [hl])
        refine ⟨fun h => ?_, fun _ => ⟨l, e, fun hx => by subst hx; omega⟩⟩
        rcases h with h | ⟨-, h⟩
        · cases h
        · have := any_off h hln
          simp only [can_in hln, hlm, Bool.true_and, decide_eq_false_iff_not] at this
          omega
    · refine ⟨fun h => ?_, fun _ => ⟨p, (cho_low hl1 ho (by omega)).trans (by rw [hw]), fun hx => by subst hx; rw [hrp] at hr; cases hr⟩⟩
      rcases h with h | ⟨h, -⟩
      · cases h
      · omega
  · exact ⟨fun _ => cho_prev hl1 (by rw [over_nat]; exact hr), fun h => absurd (.inl rfl) h⟩

theorem may_none (j : Nat) : may 0 j = false := by unfold may; simp
theorem may_one {k j : Nat} (hk : k < 64) : may (2 ^ k) j = decide (k = j) := by
  unfold may
  rw [Nat.testBit_two_pow]
  by_cases h : k = j
  · subst h; simp [hk]
  · simp [h]
theorem cho_zero {z : Nat → Int} {n r : Nat} {R : Nat → Bool} {prev : Int} (hz : ∀ j, j < n → 0 ≤ z j) : cho z n r R 0 prev = (0, 9) := by
  rcases cho_all (r := r) (R := R) (m := 0) (prev := prev) hz with ⟨h, -⟩ | ⟨p, -, h, -, -⟩
  · exact h
  · have := can_lt h; rw [may_none] at this; simp at this
theorem cho_one {z : Nat → Int} {n r k : Nat} {R : Nat → Bool} {prev : Int} (hz : ∀ j, j < n → 0 ≤ z j) (hk : k < 64) : cho z n r R (2 ^ k) prev = if k < n then ((k : Int), 0) else (0, 9) := by
  rcases cho_all (r := r) (R := R) (m := 2 ^ k) (prev := prev) hz with ⟨h, hno⟩ | ⟨p, h, hp, -, -⟩
  · by_cases h1 : k < n
    · have := hno k; rw [can_in h1, may_one hk] at this; simp at this
    · rw [if_neg h1]; exact h
  · obtain ⟨h1, -, h2⟩ := can_lt hp
    rw [may_one hk] at h2
    obtain rfl : k = p := by simpa using h2
    rw [if_pos h1]; exact h

set_option maxHeartbeats 1000000 in
theorem onesLaw (v : Option Addr) (n cap : Nat) (u : Option Addr) (r rc : Nat) (z : Nat → Int) (R : Nat → Bool) (prev p : Int) (w : World) (p0 : 0 ≤ p) (p1 : p ≤ 255) (hn : n ≤ 9223372036854775807) (hr : r ≤ 9223372036854775807) (h : Cell v n cap u r z R w) :
    Calls Try.prog 7 #[.slice v n cap, .slice u r rc, .int .i64 prev, .int .u8 p] w (Yes w) := by
  have S := Lib.hid (fun w => shown w)
  have hC := Lib.hid h
  have FW := Lib.hid (fun w (h : Cell v n cap u r z R w) => few v n cap w hn h.1.room h.1.nils)
  have IL : Hid (∀ w, Cell v n cap u r z R w → Cell v (min n 100) cap u r z R w) := Lib.hid fun w h => ⟨h.1.less (by omega), h.2⟩
  have hl : min n 100 ≤ 100 := by omega
  have hz := (h.1.less (k := min n 100) (by omega)).nums
  generalize min n 100 = l at *
  have hz0 : ∀ j, j < l → 0 ≤ z j := fun j hj => (hz j hj).1
  clear hz h
  have hg := Below.refl w.heap.size w
  obtain ⟨k, hk1, hk2⟩ : ∃ k : Nat, p % 64 = k ∧ k < 64 := ⟨(p % 64).toNat, by omega, by omega⟩
  have hp2 : 2 ^ k < 18446744073709551616 := Nat.pow_lt_pow_right (by decide) (show k < 64 from hk2)
  have e2 : ((2 ^ k : Nat) : Int) = 2 ^ k := by simp
  have P0 : Hid (∀ w, Cell v l cap u r z R w → Calls Try.prog 11 #[.slice v l cap, .slice u r rc, .int .i64 prev, .int .u64 0] w (Two (0, 9) w)) := Lib.hid fun w h => by
    have := chooses v l cap u r rc 0 z R prev w (by decide) (by omega) hr h
    rwa [cho_zero hz0] at this
  have P1 : Hid (∀ w, Cell v l cap u r z R w → Calls Try.prog 11 #[.slice v l cap, .slice u r rc, .int .i64 prev, .int .u64 (2 ^ k)] w (Two (if k < l then ((k : Int), 0) else (0, 9)) w)) := Lib.hid fun w h => by
    have := chooses v l cap u r rc (2 ^ k) z R prev w hp2 (by omega) hr h
    rwa [cho_one hz0 hk2, e2] at this
  have hx : IntKind.u64.wrap (2 ^ k) = 2 ^ k := by rw [← e2, IntKind.wrap_u64]; exact Int.emod_eq_of_lt (Int.natCast_nonneg _) (by omega)
  clear hz0
  by_cases hkl : k < l
  · have hl' : (k : Int) < l := by omega
    rw [if_pos hkl] at P1
    go_enter Try.func7, Try.ntmps7
    go_wp2_with (first
      | (go_at_call 9; refine (S.out _).mono ?_; rintro e ws ⟨rfl, hg1⟩; replace hC := Lib.hid (hC.out.fresh hg1); replace hg := fresh_trans hg hg1; clear hg1)
      | (go_at_call 10; refine (FW.out _ hC.out).mono ?_; rintro e wf ⟨rfl, hw⟩; subst hw; replace hC := Lib.hid (IL.out _ hC.out))
      | (go_at_call 11; first | ((with_reducible refine (P0.out _ hC.out).mono ?_); rintro e wc ⟨rfl, hg1⟩; replace hC := Lib.hid (hC.out.fresh hg1); replace hg := fresh_trans hg hg1; clear hg1) | ((with_reducible refine (P1.out _ hC.out).mono ?_); rintro e wc ⟨rfl, hg1⟩; replace hC := Lib.hid (hC.out.fresh hg1); replace hg := fresh_trans hg hg1; clear hg1)))
    go_ret
    exact yes_of (by simp) hg
  · have hl' : ¬ (k : Int) < l := by omega
    rw [if_neg hkl] at P1
    go_enter Try.func7, Try.ntmps7
    go_wp2_with (first
      | (go_at_call 9; refine (S.out _).mono ?_; rintro e ws ⟨rfl, hg1⟩; replace hC := Lib.hid (hC.out.fresh hg1); replace hg := fresh_trans hg hg1; clear hg1)
      | (go_at_call 10; refine (FW.out _ hC.out).mono ?_; rintro e wf ⟨rfl, hw⟩; subst hw; replace hC := Lib.hid (IL.out _ hC.out))
      | (go_at_call 11; first | ((with_reducible refine (P0.out _ hC.out).mono ?_); rintro e wc ⟨rfl, hg1⟩; replace hC := Lib.hid (hC.out.fresh hg1); replace hg := fresh_trans hg hg1; clear hg1) | ((with_reducible refine (P1.out _ hC.out).mono ?_); rintro e wc ⟨rfl, hg1⟩; replace hC := Lib.hid (hC.out.fresh hg1); replace hg := fresh_trans hg hg1; clear hg1)))
    go_ret
    exact yes_of (by simp) hg

set_option maxHeartbeats 2000000 in
theorem staysLaw (v : Option Addr) (n cap : Nat) (u : Option Addr) (r rc : Nat) (z : Nat → Int) (R : Nat → Bool) (m : Nat) (p : Int) (w : World) (p0 : 0 ≤ p) (p1 : p ≤ 255) (hm : m < 18446744073709551616) (hn : n ≤ 9223372036854775807) (hr : r ≤ 9223372036854775807) (h : Cell v n cap u r z R w) :
    Calls Try.prog 6 #[.slice v n cap, .slice u r rc, .int .u8 p, .int .u64 m] w (Yes w) := by
  have S := Lib.hid (fun w => shown w)
  have hC := Lib.hid h
  have FW := Lib.hid (fun w (h : Cell v n cap u r z R w) => few v n cap w hn h.1.room h.1.nils)
  have IL : Hid (∀ w, Cell v n cap u r z R w → Cell v (min n 100) cap u r z R w) := Lib.hid fun w h => ⟨h.1.less (by omega), h.2⟩
  have hl : min n 100 ≤ 100 := by omega
  have hz := (h.1.less (k := min n 100) (by omega)).nums
  generalize min n 100 = l at *
  have hz0 : ∀ j, j < l → 0 ≤ z j := fun j hj => (hz j hj).1
  clear hz h
  have hg := Below.refl w.heap.size w
  obtain ⟨k, hk1, hk2⟩ : ∃ k : Nat, p % 64 = k ∧ k < 64 := ⟨(p % 64).toNat, by omega, by omega⟩
  have PC := Lib.hid (fun w (h : Cell v l cap u r z R w) => chooses v l cap u r rc m z R k w hm (by omega) hr h)
  have PI := Lib.hid (fun w (h : Cell v l cap u r z R w) => idles v l cap u r rc m z R w hm (by omega) hr h)
  have MY0 := Lib.hid (fun (p : Nat) w => refMay v l cap m p w hm)
  have IS : Hid (∀ w, Cell v l cap u r z R w → Calls Try.prog 16 #[.slice v l cap, .slice u r rc, .int .i64 k, .int .u64 m] w (Is (.bool (rest z l r R m k)) w)) := Lib.hid fun w h => by
    have := refIs v l cap u r rc m z R k w hm (by omega) hr h
    rwa [over_nat] at this
  cases hck : can l m k
  · have MY := Lib.hid (MY0.out k)
    rw [hck] at MY
    rcases cho_all (r := r) (R := R) (m := m) (prev := (k : Int)) hz0 with ⟨hc, -⟩ | ⟨q, hc, hcq, -, -⟩
    · rw [hc] at PC
      clear hc hz0 hck
      go_enter Try.func6, Try.ntmps6
      go_wp2_with (first
        | (go_at_call 9; refine (S.out _).mono ?_; rintro e ws ⟨rfl, hg1⟩; replace hC := Lib.hid (hC.out.fresh hg1); replace hg := fresh_trans hg hg1; clear hg1)
        | (go_at_call 10; refine (FW.out _ hC.out).mono ?_; rintro e wf ⟨rfl, hw⟩; subst hw; replace hC := Lib.hid (IL.out _ hC.out))
        | (go_at_call 11; refine (PC.out _ hC.out).mono ?_; rintro e wc ⟨rfl, hg1⟩; replace hC := Lib.hid (hC.out.fresh hg1); replace hg := fresh_trans hg hg1; clear hg1)
        | (go_at_call 15; refine (MY.out _).mono ?_; rintro e w1 ⟨rfl, hw⟩; replace hw := hw.symm; subst hw))
      go_ret
      exact yes_of (by simp) hg
    · rw [hc] at PC
      have n0 : ¬ q = k := fun h => by subst h; rw [hcq] at hck; cases hck
      have n1 : ¬ (q : Int) = k := by omega
      have n2 : ((q : Int) == k) = false := by simpa using n1
      have n3 : ((q : Int) != k) = true := by simpa using n1
      clear hc hz0 hck hcq
      go_enter Try.func6, Try.ntmps6
      go_wp2_with (first
        | (go_at_call 9; refine (S.out _).mono ?_; rintro e ws ⟨rfl, hg1⟩; replace hC := Lib.hid (hC.out.fresh hg1); replace hg := fresh_trans hg hg1; clear hg1)
        | (go_at_call 10; refine (FW.out _ hC.out).mono ?_; rintro e wf ⟨rfl, hw⟩; subst hw; replace hC := Lib.hid (IL.out _ hC.out))
        | (go_at_call 11; refine (PC.out _ hC.out).mono ?_; rintro e wc ⟨rfl, hg1⟩; replace hC := Lib.hid (hC.out.fresh hg1); replace hg := fresh_trans hg hg1; clear hg1)
        | (go_at_call 15; refine (MY.out _).mono ?_; rintro e w1 ⟨rfl, hw⟩; replace hw := hw.symm; subst hw))
      go_ret
      exact yes_of (by simp) hg
  · have MY := Lib.hid (MY0.out k)
    rw [hck] at MY
    have hkl := (can_lt hck).1
    obtain ⟨st1, st2⟩ := stays (z := z) (r := r) (R := R) hck
    replace st1 := Lib.hid st1
    replace st2 := Lib.hid st2
    generalize hc : cho z l r R m k = c at *
    clear hc hz0 hck
    go_enter Try.func6, Try.ntmps6
    go_wp2_with (first
      | (go_at_call 9; refine (S.out _).mono ?_; rintro e ws ⟨rfl, hg1⟩; replace hC := Lib.hid (hC.out.fresh hg1); replace hg := fresh_trans hg hg1; clear hg1)
      | (go_at_call 10; refine (FW.out _ hC.out).mono ?_; rintro e wf ⟨rfl, hw⟩; subst hw; replace hC := Lib.hid (IL.out _ hC.out))
      | (go_at_call 11; refine (PC.out _ hC.out).mono ?_; rintro e wc ⟨rfl, hg1⟩; replace hC := Lib.hid (hC.out.fresh hg1); replace hg := fresh_trans hg hg1; clear hg1)
      | (go_at_call 15; refine (MY.out _).mono ?_; rintro e w1 ⟨rfl, hw⟩; replace hw := hw.symm; subst hw))
    go_loopw [14, 15] (fun t14 t15 wr => ∃ j : Nat, j ≤ l ∧ t14 = .bool (!lessOf z l m k j) ∧ t15 = .int .i64 j ∧ Below wc.heap.size wc wr) (fun _ i _ => l - (intOf i).toNat)
    case atStart => exact ⟨0, by omega, rfl, rfl, Below.refl _ _⟩
    case round =>
      obtain ⟨j, hj, rfl, rfl, hb⟩ := hrel
      have hC2 := Lib.hid (hC.out.fresh hb)
      have hg2 := fresh_trans hg hb
      have j0 : (0 : Int) ≤ j := by omega
      by_cases hlt : j < l
      · have h3 : (j : Int) < l := by omega
        have MJ := Lib.hid (MY0.out j)
        have E : Hid (lessOf z l m k (j + 1) = (lessOf z l m k j || (can l m j && decide (z j < z k)))) := Lib.hid rfl
        have HD : Hid (∀ nq, Below wc.heap.size wc (wr.drewN nq)) := Lib.hid fun nq => drawn hb nq
        obtain ⟨b, o, rfl, hb1, d1⟩ := hC2.out.1.lies j hlt
        obtain ⟨b', o', e', hb', d2⟩ := hC2.out.1.lies k hkl
        obtain ⟨rfl, rfl⟩ : b' = b ∧ o' = o := by cases e'; exact ⟨rfl, rfl⟩
        clear e'
        cases hlo : lessOf z l m k j
        · rw [hlo] at E
          cases hcj : can l m j
          · rw [hcj] at MJ E
            clear hlo hcj
            generalize z j = zj at *
            generalize z k = zk at *
            go_wp2_with fail
            go_quiet (first | (go_at_call 15; exact Calls.quiet_of_same (MJ.out _)))
            go_wp2_with fail
            go_roundw
            case rel => exact ⟨j + 1, by omega, by rw [E.out]; rfl, by go_num, HD.out _⟩
            case measure => simp [intOf]; omega
          · rw [hcj] at MJ E
            by_cases hz : z j < z k
            · have hz2 : decide (z k ≤ z j) = false := by simp; omega
              rw [decide_eq_true hz] at E
              clear hlo hcj hz
              generalize z j = zj at *
              generalize z k = zk at *
              go_wp2_with fail
              go_quiet (first | (go_at_call 15; exact Calls.quiet_of_same (MJ.out _)))
              go_wp2_with fail
              go_roundw
              case rel => exact ⟨j + 1, by omega, by rw [E.out]; rfl, by go_num, HD.out _⟩
              case measure => simp [intOf]; omega
            · have hz2 : decide (z k ≤ z j) = true := by simp; omega
              rw [decide_eq_false hz] at E
              clear hlo hcj hz
              generalize z j = zj at *
              generalize z k = zk at *
              go_wp2_with fail
              go_quiet (first | (go_at_call 15; exact Calls.quiet_of_same (MJ.out _)))
              go_wp2_with fail
              go_roundw
              case rel => exact ⟨j + 1, by omega, by rw [E.out]; rfl, by go_num, HD.out _⟩
              case measure => simp [intOf]; omega
        · rw [hlo] at E
          clear hlo
          generalize z j = zj at *
          generalize z k = zk at *
          go_wp2_with fail
          go_quiet (first | (go_at_call 15; exact Calls.quiet_of_same (MJ.out _)))
          go_wp2_with fail
          go_roundw
          case rel => exact ⟨j + 1, by omega, by rw [E.out]; rfl, by go_num, HD.out _⟩
          case measure => simp [intOf]; omega
      · have h3 : ¬ (j : Int) < l := by omega
        obtain rfl : j = l := by omega
        have PI2 : Hid (∀ wx, Below wr.heap.size wr wx → Calls Try.prog 13 #[.slice v j cap, .slice u r rc, .int .u64 m] wx (IsG (.int .i64 (low (rest z j r R m) j)) wx)) := Lib.hid fun wx h => PI.out wx (hC2.out.fresh h)
        have IS2 : Hid (∀ wx, Below wr.heap.size wr wx → Calls Try.prog 16 #[.slice v j cap, .slice u r rc, .int .i64 k, .int .u64 m] wx (Is (.bool (rest z j r R m k)) wx)) := Lib.hid fun wx h => IS.out wx (hC2.out.fresh h)
        cases hrk : rest z j r R m k
        · rw [hrk] at IS2
          rcases low_bd (rest z j r R m) j with ⟨hw, -⟩ | ⟨q, hw, -, -, -⟩
          · rw [hw] at PI2
            cases hlo : lessOf z j m k j
            · obtain rfl := st1.out (.inr ⟨hw, hlo⟩)
              clear hlo hw hrk
              go_wp2_with (first
                          | (go_at_call 13; refine (PI2.out _ (Below.refl _ _)).mono ?_; rintro e wi ⟨rfl, hg1⟩; replace hg2 := fresh_trans hg2 hg1)
                          | (go_at_call 16; refine (IS2.out _ hg1).mono ?_; rintro e w1 ⟨rfl, hw⟩; replace hw := hw.symm; subst hw))
              go_ret
              exact yes_of (by simp) hg2
            · obtain ⟨p', rfl, hne⟩ := st2.out (fun h => by rcases h with h | ⟨-, h⟩; rw [hrk] at h; cases h; rw [hlo] at h; cases h)
              have n1 : ¬ (p' : Int) = k := by omega
              have n2 : ((p' : Int) == k) = false := by simpa using n1
              have n3 : ((p' : Int) != k) = true := by simpa using n1
              clear hlo hw hrk
              go_wp2_with (first
                          | (go_at_call 13; refine (PI2.out _ (Below.refl _ _)).mono ?_; rintro e wi ⟨rfl, hg1⟩; replace hg2 := fresh_trans hg2 hg1)
                          | (go_at_call 16; refine (IS2.out _ hg1).mono ?_; rintro e w1 ⟨rfl, hw⟩; replace hw := hw.symm; subst hw))
              go_ret
              exact yes_of (by simp) hg2
          · rw [hw] at PI2
            obtain ⟨p', rfl, hne⟩ := st2.out (fun h => by rcases h with h | ⟨h, -⟩; rw [hrk] at h; cases h; omega)
            have n1 : ¬ (p' : Int) = k := by omega
            have n2 : ((p' : Int) == k) = false := by simpa using n1
            have n3 : ((p' : Int) != k) = true := by simpa using n1
            have q0 : ¬ (q : Int) < 0 := by omega
            generalize lessOf z j m k j = lo at *
            clear hw hrk
            go_wp2_with (first
                        | (go_at_call 13; refine (PI2.out _ (Below.refl _ _)).mono ?_; rintro e wi ⟨rfl, hg1⟩; replace hg2 := fresh_trans hg2 hg1)
                        | (go_at_call 16; refine (IS2.out _ hg1).mono ?_; rintro e w1 ⟨rfl, hw⟩; replace hw := hw.symm; subst hw))
            go_ret
            exact yes_of (by simp) hg2
        · rw [hrk] at IS2
          obtain rfl := st1.out (.inl hrk)
          clear hrk
          generalize low (rest z j r R m) j = lw at *
          generalize lessOf z j m k j = lo at *
          go_wp2_with (first
                      | (go_at_call 13; refine (PI2.out _ (Below.refl _ _)).mono ?_; rintro e wi ⟨rfl, hg1⟩; replace hg2 := fresh_trans hg2 hg1)
                      | (go_at_call 16; refine (IS2.out _ hg1).mono ?_; rintro e w1 ⟨rfl, hw⟩; replace hw := hw.symm; subst hw))
          go_ret
          exact yes_of (by simp) hg2
end Go.Proofs.Ytlbaiblhoojehaa.Place
