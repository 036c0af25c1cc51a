/- The walks of three of stage 17's laws. Conditions: each argument is a number of its kind; a slice has room for what it holds. -/
import Derived.Test.YtlbaiblhoojehaaPlaceRef
namespace Go.Proofs.Ytlbaiblhoojehaa.Place
open Go.ChangeShapes Go.WideShapes Go.ChangeAt Go.RowKit Load
set_option linter.unusedVariables false
set_option linter.unusedSimpArgs false
attribute [local irreducible] Go.wpQuiet

theorem cho_all {z : Nat → Int} {n r m : Nat} {R : Nat → Bool} {prev : Int} (hz : ∀ j, j < n → 0 ≤ z j) : (cho z n r R m prev = (0, 9) ∧ ∀ j, can n m j = false) ∨
    ∃ p : Nat, cho z n r R m prev = ((p : Int), 0) ∧ can n m p = true ∧ (∀ q, can n m q = true → z p ≤ z q) ∧ (∀ q, rest z n r R m q = true → rest z n r R m p = true) := by
  rcases lea_bd z n m with ⟨hl, hno⟩ | ⟨l, hl, hln, hlm, hle⟩
  · refine .inl ⟨cho_none hl, fun j => ?_⟩
    by_cases h : j < n
    · rw [can_in h]; exact hno j h
    · exact can_out (by omega)
  · right
    have hcl : can n m l = true := by rw [can_in hln]; exact hlm
    have hmin : ∀ q, can n m q = true → z l ≤ z q := fun q hq => hle q (can_lt hq).1 (can_lt hq).2.2
    have hid : ∀ p, rest z n r R m p = true → ∀ q, can n m q = true → z p ≤ z q := fun p hp q hq => by rw [(rest_can hp).2.1]; exact hz q (can_lt hq).1
    have hl1 : lea z n m ≠ -1 := by omega
    cases ho : over (rest z n r R m) prev
    · rcases low_bd (rest z n r R m) n with ⟨hw, hno⟩ | ⟨k, hw, hk, hrk, -⟩
      · have hnone : ∀ q, rest z n r R m q = false := fun q => by
          by_cases h : q < n
          · exact hno q h
          · exact rest_no (can_out (by omega))
        by_cases hs : over (can n m) prev = true ∧ z prev.toNat ≤ z (lea z n m).toNat
        · obtain ⟨p, rfl, hp⟩ := over_yes hs.1
          refine ⟨p, cho_stay hl1 ho hw hs.1 hs.2, hp, fun q hq => ?_, fun q hq => by rw [hnone q] at hq; cases hq⟩
          have h1 := hs.2
          rw [hl] at h1
          have h2 := hmin q hq
          simp only [Int.toNat_natCast] at h1
          omega
        · exact ⟨l, (cho_lea hl1 ho hw hs).trans (by rw [hl]), hcl, hmin, fun q hq => by rw [hnone q] at hq; cases hq⟩
      · exact ⟨k, (cho_low hl1 ho (by omega)).trans (by rw [hw]), (rest_can hrk).1, hid k hrk, fun _ _ => hrk⟩
    · obtain ⟨p, rfl, hp⟩ := over_yes ho
      exact ⟨p, cho_prev hl1 ho, (rest_can hp).1, hid p hp, fun _ _ => hp⟩

def tri (a b c : Int) : Nat → Int := fun j => if j = 0 then a else if j = 1 then b else c
theorem tri_in {w : World} {g : Nat} (h : w.heap[g]? = some (.cells #[.int .u64 5, .int .u64 0, .int .u64 3] 24 (0, 0))) : In (some ⟨g, 0, none⟩) 3 3 (tri 5 0 3) w := by
  refine ⟨fun j hj => ⟨g, 0, rfl, lt_of h, ?_⟩, fun j hj => ?_, by omega, fun h => by cases h⟩
  · rw [cell_of_row w g _ _ _ _ h]
    rcases (by omega : j = 0 ∨ j = 1 ∨ j = 2) with rfl | rfl | rfl <;> rfl
  · unfold U64 tri; repeat' split <;> omega
theorem all_bs {w : World} {g : Nat} (h : w.heap[g]? = some (.cells #[.bool true, .bool true, .bool true] 4 (0, 0))) : Bs (some ⟨g, 0, none⟩) 3 (fun _ => true) w := by
  intro j hj
  refine ⟨g, 0, rfl, lt_of h, ?_⟩
  rw [cell_of_row w g _ _ _ _ h]
  rcases (by omega : j = 0 ∨ j = 1 ∨ j = 2) with rfl | rfl | rfl <;> rfl
theorem no_bs (w : World) : Bs none 0 (fun _ => false) w := fun j hj => by omega
theorem shown (w : World) : Calls Try.prog 9 #[] w (Yes w) := by
  have B1 : Hid (∀ w g g', Cell (some ⟨g, 0, none⟩) 3 3 (some ⟨g', 0, none⟩) 3 (tri 5 0 3) (fun _ => true) w → Calls Try.prog 11 #[.slice (some ⟨g, 0, none⟩) 3 3, .slice (some ⟨g', 0, none⟩) 3 3, .int .i64 2, .int .u64 7] w (Two (1, 0) w)) := Lib.hid fun w g g' h => by
    have := chooses (some ⟨g, 0, none⟩) 3 3 (some ⟨g', 0, none⟩) 3 3 7 (tri 5 0 3) (fun _ => true) 2 w (by decide) (by omega) (by omega) h
    rwa [show cho (tri 5 0 3) 3 3 (fun _ => true) 7 2 = (1, 0) by decide +kernel] at this
  have B2 : Hid (∀ w g, Cell (some ⟨g, 0, none⟩) 3 3 none 0 (tri 5 0 3) (fun _ => false) w → Calls Try.prog 11 #[.slice (some ⟨g, 0, none⟩) 3 3, .slice none 0 0, .int .i64 2, .int .u64 5] w (Two (2, 0) w)) := Lib.hid fun w g h => by
    have := chooses (some ⟨g, 0, none⟩) 3 3 none 0 0 5 (tri 5 0 3) (fun _ => false) 2 w (by decide) (by omega) (by omega) h
    rwa [show cho (tri 5 0 3) 3 0 (fun _ => false) 5 2 = (2, 0) by decide +kernel] at this
  have B3 : Hid (∀ w g, Cell (some ⟨g, 0, none⟩) 3 3 none 0 (tri 5 0 3) (fun _ => false) w → Calls Try.prog 13 #[.slice (some ⟨g, 0, none⟩) 3 3, .slice none 0 0, .int .u64 7] w (IsG (.int .i64 1) w)) := Lib.hid fun w g h => by
    have := idles (some ⟨g, 0, none⟩) 3 3 none 0 0 7 (tri 5 0 3) (fun _ => false) w (by decide) (by omega) (by omega) h
    rwa [show low (rest (tri 5 0 3) 3 0 (fun _ => false) 7) 3 = 1 by decide +kernel] at this
  have I0 : Hid (∀ w : World, Cell (some ⟨w.heap.size, 0, none⟩) 3 3 (some ⟨w.heap.size + 1, 0, none⟩) 3 (tri 5 0 3) (fun _ => true) ((w.alloc (.cells #[.int .u64 5, .int .u64 0, .int .u64 3] 24)).alloc (.cells #[.bool true, .bool true, .bool true] 4))) := Lib.hid fun w => ⟨(tri_in (heap_alloc_new _ _)).fresh (alloc1 _ _), by
    have := all_bs (heap_alloc_new (w.alloc (.cells #[.int .u64 5, .int .u64 0, .int .u64 3] 24)) (.cells #[.bool true, .bool true, .bool true] 4 (0, 0)))
    rwa [World.size_alloc] at this⟩
  have G0 : Hid (∀ w : World, Below w.heap.size w ((w.alloc (.cells #[.int .u64 5, .int .u64 0, .int .u64 3] 24)).alloc (.cells #[.bool true, .bool true, .bool true] 4))) := Lib.hid fun w => (alloc1 w _).alloc (by simp) _
  have N0 : Hid (∀ w, Bs none 0 (fun _ => false) w) := Lib.hid no_bs
  go_enter Try.func9, Try.ntmps9
  go_wp2_with fail
  refine (B1.out _ _ _ (I0.out w)).mono ?_
  rintro e w1 ⟨rfl, hg1⟩
  have hI := Lib.hid ((I0.out w).1.fresh hg1)
  have hg := fresh_trans (G0.out w) hg1
  clear hg1
  go_wp2_with fail
  refine (B2.out _ _ ⟨hI.out, N0.out _⟩).mono ?_
  rintro e w2 ⟨rfl, hg1⟩
  replace hI := Lib.hid (hI.out.fresh hg1)
  replace hg := fresh_trans hg hg1
  clear hg1
  go_wp2_with fail
  refine (B3.out _ _ ⟨hI.out, N0.out _⟩).mono ?_
  rintro e w3 ⟨rfl, hg1⟩
  replace hg := fresh_trans hg hg1
  clear hg1
  go_wp2_with fail
  go_ret
  exact yes_of (by simp) hg

set_option maxHeartbeats 1000000 in
theorem choosesLaw (v : Option Addr) (n cap : Nat) (u : Option Addr) (r rc : Nat) (z : Nat → Int) (R : Nat → Bool) (m : Nat) (prev : Int) (w : World) (hm : m < 18446744073709551616) (hn : n ≤ 9223372036854775807) (hr : r ≤ 9223372036854775807) (h : Cell v n cap u r z R w) :
    Calls Try.prog 3 #[.slice v n cap, .slice u r rc, .int .i64 prev, .int .u64 m] w (Yes w) := by
  have S := Lib.hid (fun w => shown w)
  have hC := Lib.hid h
  have FW := Lib.hid (fun w (h : Cell v n cap u r z R w) => few v n cap w hn h.1.room h.1.nils)
  have IL : Hid (∀ w, Cell v n cap u r z R w → Cell v (min n 100) cap u r z R w) := Lib.hid fun w h => ⟨h.1.less (by omega), h.2⟩
  have hl : min n 100 ≤ 100 := by omega
  have hz := (h.1.less (k := min n 100) (by omega)).nums
  generalize min n 100 = l at *
  have hz0 : ∀ j, j < l → 0 ≤ z j := fun j hj => (hz j hj).1
  clear hz h
  have hg := Below.refl w.heap.size w
  have PC := Lib.hid (fun w (h : Cell v l cap u r z R w) => chooses v l cap u r rc m z R prev w hm (by omega) hr h)
  have RC := Lib.hid (fun w (h : Cell v l cap u r z R w) => refChooses v l cap u r rc m z R prev w hm (by omega) hr h)
  have PI := Lib.hid (fun w (h : Cell v l cap u r z R w) => idles v l cap u r rc m z R w hm (by omega) hr h)
  have RI := Lib.hid (fun w (h : Cell v l cap u r z R w) => refIdles v l cap u r rc m z R w hm (by omega) hr h)
  have hc := cho_all (r := r) (R := R) (m := m) (prev := prev) hz0
  generalize low (rest z l r R m) l = a at *
  rcases hc with ⟨hc, -⟩ | ⟨p, hc, -, -, -⟩
  all_goals
    rw [hc] at PC RC
    clear hc hz0
    go_enter Try.func3, Try.ntmps3
    go_wp2_with (first
      | (go_at_call 9; refine (S.out _).mono ?_; rintro e ws ⟨rfl, hg1⟩; replace hC := Lib.hid (hC.out.fresh hg1); replace hg := fresh_trans hg hg1; clear hg1)
      | (go_at_call 10; refine (FW.out _ hC.out).mono ?_; rintro e wf ⟨rfl, hw⟩; subst hw; replace hC := Lib.hid (IL.out _ hC.out))
      | (go_at_call 11; refine (PC.out _ hC.out).mono ?_; rintro e wc ⟨rfl, hg1⟩; replace hC := Lib.hid (hC.out.fresh hg1); replace hg := fresh_trans hg hg1; clear hg1)
      | (go_at_call 12; refine (RC.out _ hC.out).mono ?_; rintro e wd ⟨rfl, hg1⟩; replace hC := Lib.hid (hC.out.fresh hg1); replace hg := fresh_trans hg hg1; clear hg1)
      | (go_at_call 13; refine (PI.out _ hC.out).mono ?_; rintro e wi ⟨rfl, hg1⟩; replace hC := Lib.hid (hC.out.fresh hg1); replace hg := fresh_trans hg hg1; clear hg1)
      | (go_at_call 14; refine (RI.out _ hC.out).mono ?_; rintro e w1 ⟨rfl, hw⟩; replace hw := hw.symm; subst hw))
    go_ret
    exact yes_of (by simp) hg

set_option maxHeartbeats 1000000 in
theorem mayLaw (v : Option Addr) (n cap : Nat) (u : Option Addr) (r rc : Nat) (z : Nat → Int) (R : Nat → Bool) (m : Nat) (prev : Int) (w : World) (hm : m < 18446744073709551616) (hn : n ≤ 9223372036854775807) (hr : r ≤ 9223372036854775807) (h : Cell v n cap u r z R w) :
    Calls Try.prog 4 #[.slice v n cap, .slice u r rc, .int .i64 prev, .int .u64 m] w (Yes w) := by
  have S := Lib.hid (fun w => shown w)
  have hC := Lib.hid h
  have FW := Lib.hid (fun w (h : Cell v n cap u r z R w) => few v n cap w hn h.1.room h.1.nils)
  have IL : Hid (∀ w, Cell v n cap u r z R w → Cell v (min n 100) cap u r z R w) := Lib.hid fun w h => ⟨h.1.less (by omega), h.2⟩
  have hl : min n 100 ≤ 100 := by omega
  have hz := (h.1.less (k := min n 100) (by omega)).nums
  generalize min n 100 = l at *
  have hz0 : ∀ j, j < l → 0 ≤ z j := fun j hj => (hz j hj).1
  clear hz h
  have hg := Below.refl w.heap.size w
  have PC := Lib.hid (fun w (h : Cell v l cap u r z R w) => chooses v l cap u r rc m z R prev w hm (by omega) hr h)
  have HB : Hid (∀ k : Nat, k < l → k < 64 → (bits .and .u64 ((m : Int) / 2 ^ k) 1 == 1) = can l m k) := Lib.hid fun k h1 h2 => by rw [can_in h1]; exact bit_may m k hm h2
  have HF : Hid (∀ k : Nat, ¬ (k < l ∧ k < 64) → can l m k = false) := Lib.hid fun k h => by
    by_cases h1 : l ≤ k
    · exact can_out h1
    · exact can_far (by omega)
  have MY0 := Lib.hid (fun (p : Nat) w => refMay v l cap m p w hm)
  have hc := cho_all (r := r) (R := R) (m := m) (prev := prev) hz0
  generalize hQ : can l m = Q at *
  clear hQ
  rcases hc with ⟨hc, hno⟩ | ⟨p, hc, hcan, -, -⟩
  · rw [hc] at PC
    clear hc hz0
    go_enter Try.func4, Try.ntmps4
    go_wp2_with (first
      | (go_at_call 9; refine (S.out _).mono ?_; rintro e ws ⟨rfl, hg1⟩; replace hC := Lib.hid (hC.out.fresh hg1); replace hg := fresh_trans hg hg1; clear hg1)
      | (go_at_call 10; refine (FW.out _ hC.out).mono ?_; rintro e wf ⟨rfl, hw⟩; subst hw; replace hC := Lib.hid (IL.out _ hC.out))
      | (go_at_call 11; refine (PC.out _ hC.out).mono ?_; rintro e wc ⟨rfl, hg1⟩; replace hC := Lib.hid (hC.out.fresh hg1); replace hg := fresh_trans hg hg1; clear hg1))
    go_loopw [13, 14] (fun t13 t14 wr => ∃ k : Nat, (k ≤ l ∧ k ≤ 64) ∧ t13 = .bool (anyOf Q k) ∧ t14 = .int .i64 k ∧ wr = wc) (fun _ i _ => 64 - (intOf i).toNat)
    case atStart => exact ⟨0, by omega, rfl, rfl, rfl⟩
    case round =>
      obtain ⟨k, hk, rfl, rfl, rfl⟩ := hrel
      by_cases hlt : k < l ∧ k < 64
      · have h3 : (k : Int) < l := by omega
        have h4 : (k : Int) < 64 := by omega
        have h5 : (0 : Int) ≤ k := by omega
        have HK := HB.out k hlt.1 hlt.2
        have E : Hid (anyOf Q (k + 1) = (anyOf Q k || Q k)) := Lib.hid rfl
        generalize anyOf Q k = c at *
        generalize Q k = d at *
        cases c <;> cases d
        all_goals
          go_wp2
          go_roundw
          case rel => exact ⟨k + 1, by omega, by rw [E.out]; rfl, by go_num, by first | rfl | trivial⟩
          case measure => simp [intOf]; omega
      · have hlt' : ¬ (k < l ∧ k < 64) := hlt
        rw [show anyOf Q k = false from any_no fun j _ => hno j]
        clear hno hlt'
        by_cases h1 : k < l
        · have h2 : (k : Int) < l := by omega
          have h3 : ¬ (k : Int) < 64 := by omega
          go_wp2
          go_ret
          exact yes_of (by simp) hg
        · have h2 : ¬ (k : Int) < l := by omega
          go_wp2
          go_ret
          exact yes_of (by simp) hg
  · rw [hc] at PC
    clear hc hz0
    go_enter Try.func4, Try.ntmps4
    go_wp2_with (first
      | (go_at_call 9; refine (S.out _).mono ?_; rintro e ws ⟨rfl, hg1⟩; replace hC := Lib.hid (hC.out.fresh hg1); replace hg := fresh_trans hg hg1; clear hg1)
      | (go_at_call 10; refine (FW.out _ hC.out).mono ?_; rintro e wf ⟨rfl, hw⟩; subst hw; replace hC := Lib.hid (IL.out _ hC.out))
      | (go_at_call 11; refine (PC.out _ hC.out).mono ?_; rintro e wc ⟨rfl, hg1⟩; replace hC := Lib.hid (hC.out.fresh hg1); replace hg := fresh_trans hg hg1; clear hg1))
    go_loopw [13, 14] (fun t13 t14 wr => ∃ k : Nat, (k ≤ l ∧ k ≤ 64) ∧ t13 = .bool (anyOf Q k) ∧ t14 = .int .i64 k ∧ wr = wc) (fun _ i _ => 64 - (intOf i).toNat)
    case atStart => exact ⟨0, by omega, rfl, rfl, rfl⟩
    case round =>
      obtain ⟨k, hk, rfl, rfl, rfl⟩ := hrel
      by_cases hlt : k < l ∧ k < 64
      · have h3 : (k : Int) < l := by omega
        have h4 : (k : Int) < 64 := by omega
        have h5 : (0 : Int) ≤ k := by omega
        have HK := HB.out k hlt.1 hlt.2
        have E : Hid (anyOf Q (k + 1) = (anyOf Q k || Q k)) := Lib.hid rfl
        generalize anyOf Q k = c at *
        generalize Q k = d at *
        cases c <;> cases d
        all_goals
          go_wp2
          go_roundw
          case rel => exact ⟨k + 1, by omega, by rw [E.out]; rfl, by go_num, by first | rfl | trivial⟩
          case measure => simp [intOf]; omega
      · have hlt' : ¬ (k < l ∧ k < 64) := hlt
        have hpk : p < k := by
          by_cases h1 : p < k
          · exact h1
          · have h2 := HF.out p (by omega)
            rw [hcan] at h2; cases h2
        rw [show anyOf Q k = true from any_yes hpk hcan]
        have MY := Lib.hid (MY0.out p)
        rw [hcan] at MY
        clear hcan hlt'
        by_cases h1 : k < l
        · have h2 : (k : Int) < l := by omega
          have h3 : ¬ (k : Int) < 64 := by omega
          go_wp2_with (go_at_call 15; refine (MY.out _).mono ?_; rintro e w1 ⟨rfl, hw⟩; replace hw := hw.symm; subst hw)
          go_ret
          exact yes_of (by simp) hg
        · have h2 : ¬ (k : Int) < l := by omega
          go_wp2_with (go_at_call 15; refine (MY.out _).mono ?_; rintro e w1 ⟨rfl, hw⟩; replace hw := hw.symm; subst hw)
          go_ret
          exact yes_of (by simp) hg
end Go.Proofs.Ytlbaiblhoojehaa.Place
