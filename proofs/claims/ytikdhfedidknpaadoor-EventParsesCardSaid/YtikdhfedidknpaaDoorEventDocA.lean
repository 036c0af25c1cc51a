/- What the document's Form, has and May tell. Conditions: none. -/
import Derived.Test.YtikdhfedidknpaaDoorEventLaws
import Derived.Test.YtikdhfedidknpaaDoorMaskRefT
import Derived.Test.YtikdhfedidknpaaDoorMaskRefP
namespace Go.Proofs.YtikdhfedidknpaaDoor.Event
open Go.ChangeShapes Go.WideShapes Go.ChangeAt Go.RowKit
open Mem (box_fresh owns_fresh)
set_option linter.unusedVariables false
set_option linter.unusedSimpArgs false
set_option maxRecDepth 100000

def IsS (l : List UInt8) (w : World) (e : Ending) (w' : World) : Prop := e = .returned (.string (str l)) ∧ w' = w
theorem form_ (k : Int) (w : World) : Calls Tryd.prog 29 #[.int .i64 k] w (IsS (form k) w) := by
  by_cases h1 : k = 1
  · subst h1
    go_enter Tryd.func29, Tryd.ntmps29
    go_wp2
    go_ret
    exact ⟨rfl, rfl⟩
  by_cases h2 : k = 4
  · subst h2
    go_enter Tryd.func29, Tryd.ntmps29
    go_wp2
    go_ret
    exact ⟨rfl, rfl⟩
  by_cases h3 : k = 11
  · subst h3
    go_enter Tryd.func29, Tryd.ntmps29
    go_wp2
    go_ret
    exact ⟨rfl, rfl⟩
  by_cases h4 : k = 14
  · subst h4
    go_enter Tryd.func29, Tryd.ntmps29
    go_wp2
    go_ret
    exact ⟨rfl, rfl⟩
  by_cases h5 : k = 3
  · subst h5
    go_enter Tryd.func29, Tryd.ntmps29
    go_wp2
    go_ret
    exact ⟨rfl, rfl⟩
  by_cases h6 : k = 5
  · subst h6
    go_enter Tryd.func29, Tryd.ntmps29
    go_wp2
    go_ret
    exact ⟨rfl, rfl⟩
  by_cases h7 : k = 6
  · subst h7
    go_enter Tryd.func29, Tryd.ntmps29
    go_wp2
    go_ret
    exact ⟨rfl, rfl⟩
  by_cases h8 : k = 15
  · subst h8
    go_enter Tryd.func29, Tryd.ntmps29
    go_wp2
    go_ret
    exact ⟨rfl, rfl⟩
  have hf : form k = [97] := by unfold form; rw [if_neg (by omega), if_neg (by omega), if_neg (by omega), if_neg (by omega), if_neg (by omega)]
  rw [hf]
  have e1 : (k == 1) = false := by simpa using h1
  have e2 : (k == 4) = false := by simpa using h2
  have e3 : (k == 11) = false := by simpa using h3
  have e4 : (k == 14) = false := by simpa using h4
  have e5 : (k == 3) = false := by simpa using h5
  have e6 : (k == 5) = false := by simpa using h6
  have e7 : (k == 6) = false := by simpa using h7
  have e8 : (k == 15) = false := by simpa using h8
  clear h1 h2 h3 h4 h5 h6 h7 h8 hf
  go_enter Tryd.func29, Tryd.ntmps29
  go_wp2
  go_ret
  exact ⟨rfl, rfl⟩
theorem has_ (l : List UInt8) (hl : l.length ≤ 140737488351232) (c : UInt8) (z : Int) (hz : z = (c.toNat : Int)) (w : World) : Calls Tryd.prog 30 #[.string (str l), .int .u8 z] w (fun e w' => e = .returned (.bool (decide (c ∈ l))) ∧ w' = w) := by
  have hs := str_size l
  obtain ⟨R, hR⟩ : ∃ R, R = decide (c ∈ l) := ⟨_, rfl⟩
  rw [← hR]
  have hR' := Lib.hid hR
  have hl' := Lib.hid (str_list l)
  have hz' := Lib.hid hz
  clear hz hR
  have hs2 : (str l).size ≤ 140737488351232 := by rw [hs]; exact hl
  generalize str l = s at *
  go_enter Tryd.func30, Tryd.ntmps30
  go_wp2
  go_loop [5] (fun i => ∃ k : Nat, k ≤ s.size ∧ i = .int .i64 k ∧ ∀ x ∈ l.take k, x ≠ c) (fun i => match i with | .int _ m => s.size - m.toNat | _ => 0)
  case atStart => exact ⟨0, Nat.zero_le _, rfl, by simp⟩
  case round =>
    obtain ⟨k, hk, rfl, hb⟩ := hrel
    by_cases hlt : k < s.size
    · have hlt' : (k : Int) < (s.size : Int) := by omega
      have hat : l[k]? = some s[k] := by rw [← hl'.out, Mask.data_at s k hlt]
      by_cases hc : s[k] = c
      · have hc' : ((c.toNat : Int) == z) = true := by rw [hz'.out]; simp
        have hm : R = true := by rw [hR'.out, decide_eq_true_eq]; rw [hc] at hat; exact List.mem_of_getElem? hat
        subst hm
        clear hb hat hs
        go_wp2_with fail
        go_ret
        exact ⟨rfl, rfl⟩
      · have hc' : ((s[k].toNat : Int) == z) = false := by
          rw [hz'.out]
          have := Mask.toNat_ne hc
          simpa using fun h => this (by omega)
        have hb' : ∀ x ∈ l.take (k + 1), x ≠ c := by
          rw [List.take_add_one, hat]
          intro x hx
          simp only [List.mem_append, Option.toList_some, List.mem_singleton] at hx
          rcases hx with hx | rfl
          · exact hb x hx
          · exact hc
        have B := Lib.hid hb'
        clear hb hb' hc hat hs
        go_wp2_with fail
        exact ⟨⟨k + 1, by omega, by simp, B.out⟩, by simp; omega⟩
    · have hlt' : ¬ (k : Int) < (s.size : Int) := by omega
      have hm : R = false := by
        rw [hR'.out, decide_eq_false_iff_not]
        intro h
        rw [List.take_of_length_le (by omega)] at hb
        exact hb c h rfl
      subst hm
      clear hb hs
      go_wp2_with fail
      go_ret
      exact ⟨rfl, rfl⟩

theorem form_short (k : Int) : (form k).length ≤ 3 := by rcases form_is k with h | h | h | h | h | h <;> (rw [h]; decide)
set_option maxHeartbeats 4000000 in
theorem docMay (e : Ev) (w : World) : Calls Tryd.prog 18 #[evV e] w (IsV (.bool (may e)) w) := by
  have hg := Mem.alloc1 w (.cells (evC e) 33)
  have FO := Lib.hid (fun (w : World) => form_ e.k w)
  have fl := form_short e.k
  have HB := Lib.hid (fun (w : World) => has_ (form e.k) (by omega) 98 98 rfl w)
  have HN := Lib.hid (fun (w : World) => has_ (form e.k) (by omega) 110 110 rfl w)
  have HM := Lib.hid (fun (w : World) => has_ (form e.k) (by omega) 109 109 rfl w)
  have HS := Lib.hid (fun (w : World) => has_ (form e.k) (by omega) 115 115 rfl w)
  obtain ⟨R, hR⟩ : ∃ R, R = may e := ⟨_, rfl⟩
  rw [← hR]
  unfold may at hR
  clear fl
  generalize decide (98 ∈ form e.k) = p1 at *
  generalize decide (110 ∈ form e.k) = p2 at *
  generalize decide (109 ∈ form e.k) = p3 at *
  generalize decide (115 ∈ form e.k) = p4 at *
  unfold IsS at FO
  generalize str (form e.k) = S at *
  obtain ⟨k, a, b, n, m, s⟩ := e
  simp only at hR FO
  have hR' := Lib.hid hR
  clear hR
  unfold evV evC at *
  simp only at hg
  by_cases h1 : k < 1
  · clear HB HN HM HS
    go_enter Tryd.func18, Tryd.ntmps18
    go_wp2_with (go_at_call 29; refine (FO.out _).mono ?_; rintro e w1 ⟨rfl, hw⟩; replace hw := hw.symm; subst hw)
    go_ret
    exact ⟨by rw [hR'.out]; simp [h1], hg⟩
  by_cases h2 : 15 < k
  · clear HB HN HM HS
    go_enter Tryd.func18, Tryd.ntmps18
    go_wp2_with (go_at_call 29; refine (FO.out _).mono ?_; rintro e w1 ⟨rfl, hw⟩; replace hw := hw.symm; subst hw)
    go_ret
    exact ⟨by rw [hR'.out]; simp [h2], hg⟩
  by_cases h3 : a < 0
  · clear HB HN HM HS
    go_enter Tryd.func18, Tryd.ntmps18
    go_wp2_with (go_at_call 29; refine (FO.out _).mono ?_; rintro e w1 ⟨rfl, hw⟩; replace hw := hw.symm; subst hw)
    go_ret
    exact ⟨by rw [hR'.out]; simp [h3], hg⟩
  by_cases h4 : b < 0
  · clear HB HN HM HS
    go_enter Tryd.func18, Tryd.ntmps18
    go_wp2_with (go_at_call 29; refine (FO.out _).mono ?_; rintro e w1 ⟨rfl, hw⟩; replace hw := hw.symm; subst hw)
    go_ret
    exact ⟨by rw [hR'.out]; simp [h4], hg⟩
  have hR2 := Lib.hid (show R = ((p1 || decide (b = 0)) && (p2 || decide (n = 0)) && (p3 || decide (m = 0)) && (p4 || decide (s = 0))) by
    rw [hR'.out]
    simp [h1, h2, h3, h4])
  clear hR'
  have K1 : (p1 = true) ∨ (p1 = false ∧ (b == 0) = true) ∨ (p1 = false ∧ (b == 0) = false) := by cases p1 <;> by_cases h : b = 0 <;> simp [h]
  have K2 : (p2 = true) ∨ (p2 = false ∧ (n == 0) = true) ∨ (p2 = false ∧ (n == 0) = false) := by cases p2 <;> by_cases h : n = 0 <;> simp [h]
  have K3 : (p3 = true) ∨ (p3 = false ∧ (m == 0) = true) ∨ (p3 = false ∧ (m == 0) = false) := by cases p3 <;> by_cases h : m = 0 <;> simp [h]
  have K4 : (p4 = true) ∨ (p4 = false ∧ ((s : Int) == 0) = true) ∨ (p4 = false ∧ ((s : Int) == 0) = false) := by cases p4 <;> by_cases h : s = 0 <;> simp [h]
  have H1 := Lib.hid K1
  have H2 := Lib.hid K2
  have H3 := Lib.hid K3
  have H4 := Lib.hid K4
  clear K1 K2 K3 K4
  go_enter Tryd.func18, Tryd.ntmps18
  go_upto_region 4 with (go_at_call 29; refine (FO.out _).mono ?_; rintro e w1 ⟨rfl, hw⟩; replace hw := hw.symm; subst hw)
  rcases H1.out with h1 | ⟨h1, q1⟩ | ⟨h1, q1⟩
  · subst h1
    rcases H2.out with h2 | ⟨h2, q2⟩ | ⟨h2, q2⟩
    · subst h2
      rcases H3.out with h3 | ⟨h3, q3⟩ | ⟨h3, q3⟩
      · subst h3
        rcases H4.out with h4 | ⟨h4, q4⟩ | ⟨h4, q4⟩
        · subst h4
          have hv := Lib.hid (show R = true by rw [hR2.out]; simp_all)
          clear hR2
          go_wp2_with (first
            | (go_at_call 30; (with_reducible refine (HB.out _).mono ?_); rintro e w2 ⟨rfl, hw⟩; replace hw := hw.symm; subst hw)
            | (go_at_call 30; (with_reducible refine (HN.out _).mono ?_); rintro e w2 ⟨rfl, hw⟩; replace hw := hw.symm; subst hw)
            | (go_at_call 30; (with_reducible refine (HM.out _).mono ?_); rintro e w2 ⟨rfl, hw⟩; replace hw := hw.symm; subst hw)
            | (go_at_call 30; (with_reducible refine (HS.out _).mono ?_); rintro e w2 ⟨rfl, hw⟩; replace hw := hw.symm; subst hw))
          go_ret
          exact ⟨by rw [hv.out]; try rfl, hg⟩
        · subst h4
          have hv := Lib.hid (show R = true by rw [hR2.out]; simp_all)
          clear hR2
          go_wp2_with (first
            | (go_at_call 30; (with_reducible refine (HB.out _).mono ?_); rintro e w2 ⟨rfl, hw⟩; replace hw := hw.symm; subst hw)
            | (go_at_call 30; (with_reducible refine (HN.out _).mono ?_); rintro e w2 ⟨rfl, hw⟩; replace hw := hw.symm; subst hw)
            | (go_at_call 30; (with_reducible refine (HM.out _).mono ?_); rintro e w2 ⟨rfl, hw⟩; replace hw := hw.symm; subst hw)
            | (go_at_call 30; (with_reducible refine (HS.out _).mono ?_); rintro e w2 ⟨rfl, hw⟩; replace hw := hw.symm; subst hw))
          go_ret
          exact ⟨by rw [hv.out]; try rfl, hg⟩
        · subst h4
          have hv := Lib.hid (show R = false by rw [hR2.out]; simp_all)
          clear hR2
          go_wp2_with (first
            | (go_at_call 30; (with_reducible refine (HB.out _).mono ?_); rintro e w2 ⟨rfl, hw⟩; replace hw := hw.symm; subst hw)
            | (go_at_call 30; (with_reducible refine (HN.out _).mono ?_); rintro e w2 ⟨rfl, hw⟩; replace hw := hw.symm; subst hw)
            | (go_at_call 30; (with_reducible refine (HM.out _).mono ?_); rintro e w2 ⟨rfl, hw⟩; replace hw := hw.symm; subst hw)
            | (go_at_call 30; (with_reducible refine (HS.out _).mono ?_); rintro e w2 ⟨rfl, hw⟩; replace hw := hw.symm; subst hw))
          go_ret
          exact ⟨by rw [hv.out]; try rfl, hg⟩
      · subst h3
        rcases H4.out with h4 | ⟨h4, q4⟩ | ⟨h4, q4⟩
        · subst h4
          have hv := Lib.hid (show R = true by rw [hR2.out]; simp_all)
          clear hR2
          go_wp2_with (first
            | (go_at_call 30; (with_reducible refine (HB.out _).mono ?_); rintro e w2 ⟨rfl, hw⟩; replace hw := hw.symm; subst hw)
            | (go_at_call 30; (with_reducible refine (HN.out _).mono ?_); rintro e w2 ⟨rfl, hw⟩; replace hw := hw.symm; subst hw)
            | (go_at_call 30; (with_reducible refine (HM.out _).mono ?_); rintro e w2 ⟨rfl, hw⟩; replace hw := hw.symm; subst hw)
            | (go_at_call 30; (with_reducible refine (HS.out _).mono ?_); rintro e w2 ⟨rfl, hw⟩; replace hw := hw.symm; subst hw))
          go_ret
          exact ⟨by rw [hv.out]; try rfl, hg⟩
        · subst h4
          have hv := Lib.hid (show R = true by rw [hR2.out]; simp_all)
          clear hR2
          go_wp2_with (first
            | (go_at_call 30; (with_reducible refine (HB.out _).mono ?_); rintro e w2 ⟨rfl, hw⟩; replace hw := hw.symm; subst hw)
            | (go_at_call 30; (with_reducible refine (HN.out _).mono ?_); rintro e w2 ⟨rfl, hw⟩; replace hw := hw.symm; subst hw)
            | (go_at_call 30; (with_reducible refine (HM.out _).mono ?_); rintro e w2 ⟨rfl, hw⟩; replace hw := hw.symm; subst hw)
            | (go_at_call 30; (with_reducible refine (HS.out _).mono ?_); rintro e w2 ⟨rfl, hw⟩; replace hw := hw.symm; subst hw))
          go_ret
          exact ⟨by rw [hv.out]; try rfl, hg⟩
        · subst h4
          have hv := Lib.hid (show R = false by rw [hR2.out]; simp_all)
          clear hR2
          go_wp2_with (first
            | (go_at_call 30; (with_reducible refine (HB.out _).mono ?_); rintro e w2 ⟨rfl, hw⟩; replace hw := hw.symm; subst hw)
            | (go_at_call 30; (with_reducible refine (HN.out _).mono ?_); rintro e w2 ⟨rfl, hw⟩; replace hw := hw.symm; subst hw)
            | (go_at_call 30; (with_reducible refine (HM.out _).mono ?_); rintro e w2 ⟨rfl, hw⟩; replace hw := hw.symm; subst hw)
            | (go_at_call 30; (with_reducible refine (HS.out _).mono ?_); rintro e w2 ⟨rfl, hw⟩; replace hw := hw.symm; subst hw))
          go_ret
          exact ⟨by rw [hv.out]; try rfl, hg⟩
      · subst h3
        have hv := Lib.hid (show R = false by rw [hR2.out]; simp_all)
        clear hR2
        go_wp2_with (first
          | (go_at_call 30; (with_reducible refine (HB.out _).mono ?_); rintro e w2 ⟨rfl, hw⟩; replace hw := hw.symm; subst hw)
          | (go_at_call 30; (with_reducible refine (HN.out _).mono ?_); rintro e w2 ⟨rfl, hw⟩; replace hw := hw.symm; subst hw)
          | (go_at_call 30; (with_reducible refine (HM.out _).mono ?_); rintro e w2 ⟨rfl, hw⟩; replace hw := hw.symm; subst hw)
          | (go_at_call 30; (with_reducible refine (HS.out _).mono ?_); rintro e w2 ⟨rfl, hw⟩; replace hw := hw.symm; subst hw))
        go_ret
        exact ⟨by rw [hv.out]; try rfl, hg⟩
    · subst h2
      rcases H3.out with h3 | ⟨h3, q3⟩ | ⟨h3, q3⟩
      · subst h3
        rcases H4.out with h4 | ⟨h4, q4⟩ | ⟨h4, q4⟩
        · subst h4
          have hv := Lib.hid (show R = true by rw [hR2.out]; simp_all)
          clear hR2
          go_wp2_with (first
            | (go_at_call 30; (with_reducible refine (HB.out _).mono ?_); rintro e w2 ⟨rfl, hw⟩; replace hw := hw.symm; subst hw)
            | (go_at_call 30; (with_reducible refine (HN.out _).mono ?_); rintro e w2 ⟨rfl, hw⟩; replace hw := hw.symm; subst hw)
            | (go_at_call 30; (with_reducible refine (HM.out _).mono ?_); rintro e w2 ⟨rfl, hw⟩; replace hw := hw.symm; subst hw)
            | (go_at_call 30; (with_reducible refine (HS.out _).mono ?_); rintro e w2 ⟨rfl, hw⟩; replace hw := hw.symm; subst hw))
          go_ret
          exact ⟨by rw [hv.out]; try rfl, hg⟩
        · subst h4
          have hv := Lib.hid (show R = true by rw [hR2.out]; simp_all)
          clear hR2
          go_wp2_with (first
            | (go_at_call 30; (with_reducible refine (HB.out _).mono ?_); rintro e w2 ⟨rfl, hw⟩; replace hw := hw.symm; subst hw)
            | (go_at_call 30; (with_reducible refine (HN.out _).mono ?_); rintro e w2 ⟨rfl, hw⟩; replace hw := hw.symm; subst hw)
            | (go_at_call 30; (with_reducible refine (HM.out _).mono ?_); rintro e w2 ⟨rfl, hw⟩; replace hw := hw.symm; subst hw)
            | (go_at_call 30; (with_reducible refine (HS.out _).mono ?_); rintro e w2 ⟨rfl, hw⟩; replace hw := hw.symm; subst hw))
          go_ret
          exact ⟨by rw [hv.out]; try rfl, hg⟩
        · subst h4
          have hv := Lib.hid (show R = false by rw [hR2.out]; simp_all)
          clear hR2
          go_wp2_with (first
            | (go_at_call 30; (with_reducible refine (HB.out _).mono ?_); rintro e w2 ⟨rfl, hw⟩; replace hw := hw.symm; subst hw)
            | (go_at_call 30; (with_reducible refine (HN.out _).mono ?_); rintro e w2 ⟨rfl, hw⟩; replace hw := hw.symm; subst hw)
            | (go_at_call 30; (with_reducible refine (HM.out _).mono ?_); rintro e w2 ⟨rfl, hw⟩; replace hw := hw.symm; subst hw)
            | (go_at_call 30; (with_reducible refine (HS.out _).mono ?_); rintro e w2 ⟨rfl, hw⟩; replace hw := hw.symm; subst hw))
          go_ret
          exact ⟨by rw [hv.out]; try rfl, hg⟩
      · subst h3
        rcases H4.out with h4 | ⟨h4, q4⟩ | ⟨h4, q4⟩
        · subst h4
          have hv := Lib.hid (show R = true by rw [hR2.out]; simp_all)
          clear hR2
          go_wp2_with (first
            | (go_at_call 30; (with_reducible refine (HB.out _).mono ?_); rintro e w2 ⟨rfl, hw⟩; replace hw := hw.symm; subst hw)
            | (go_at_call 30; (with_reducible refine (HN.out _).mono ?_); rintro e w2 ⟨rfl, hw⟩; replace hw := hw.symm; subst hw)
            | (go_at_call 30; (with_reducible refine (HM.out _).mono ?_); rintro e w2 ⟨rfl, hw⟩; replace hw := hw.symm; subst hw)
            | (go_at_call 30; (with_reducible refine (HS.out _).mono ?_); rintro e w2 ⟨rfl, hw⟩; replace hw := hw.symm; subst hw))
          go_ret
          exact ⟨by rw [hv.out]; try rfl, hg⟩
        · subst h4
          have hv := Lib.hid (show R = true by rw [hR2.out]; simp_all)
          clear hR2
          go_wp2_with (first
            | (go_at_call 30; (with_reducible refine (HB.out _).mono ?_); rintro e w2 ⟨rfl, hw⟩; replace hw := hw.symm; subst hw)
            | (go_at_call 30; (with_reducible refine (HN.out _).mono ?_); rintro e w2 ⟨rfl, hw⟩; replace hw := hw.symm; subst hw)
            | (go_at_call 30; (with_reducible refine (HM.out _).mono ?_); rintro e w2 ⟨rfl, hw⟩; replace hw := hw.symm; subst hw)
            | (go_at_call 30; (with_reducible refine (HS.out _).mono ?_); rintro e w2 ⟨rfl, hw⟩; replace hw := hw.symm; subst hw))
          go_ret
          exact ⟨by rw [hv.out]; try rfl, hg⟩
        · subst h4
          have hv := Lib.hid (show R = false by rw [hR2.out]; simp_all)
          clear hR2
          go_wp2_with (first
            | (go_at_call 30; (with_reducible refine (HB.out _).mono ?_); rintro e w2 ⟨rfl, hw⟩; replace hw := hw.symm; subst hw)
            | (go_at_call 30; (with_reducible refine (HN.out _).mono ?_); rintro e w2 ⟨rfl, hw⟩; replace hw := hw.symm; subst hw)
            | (go_at_call 30; (with_reducible refine (HM.out _).mono ?_); rintro e w2 ⟨rfl, hw⟩; replace hw := hw.symm; subst hw)
            | (go_at_call 30; (with_reducible refine (HS.out _).mono ?_); rintro e w2 ⟨rfl, hw⟩; replace hw := hw.symm; subst hw))
          go_ret
          exact ⟨by rw [hv.out]; try rfl, hg⟩
      · subst h3
        have hv := Lib.hid (show R = false by rw [hR2.out]; simp_all)
        clear hR2
        go_wp2_with (first
          | (go_at_call 30; (with_reducible refine (HB.out _).mono ?_); rintro e w2 ⟨rfl, hw⟩; replace hw := hw.symm; subst hw)
          | (go_at_call 30; (with_reducible refine (HN.out _).mono ?_); rintro e w2 ⟨rfl, hw⟩; replace hw := hw.symm; subst hw)
          | (go_at_call 30; (with_reducible refine (HM.out _).mono ?_); rintro e w2 ⟨rfl, hw⟩; replace hw := hw.symm; subst hw)
          | (go_at_call 30; (with_reducible refine (HS.out _).mono ?_); rintro e w2 ⟨rfl, hw⟩; replace hw := hw.symm; subst hw))
        go_ret
        exact ⟨by rw [hv.out]; try rfl, hg⟩
    · subst h2
      have hv := Lib.hid (show R = false by rw [hR2.out]; simp_all)
      clear hR2
      go_wp2_with (first
        | (go_at_call 30; (with_reducible refine (HB.out _).mono ?_); rintro e w2 ⟨rfl, hw⟩; replace hw := hw.symm; subst hw)
        | (go_at_call 30; (with_reducible refine (HN.out _).mono ?_); rintro e w2 ⟨rfl, hw⟩; replace hw := hw.symm; subst hw)
        | (go_at_call 30; (with_reducible refine (HM.out _).mono ?_); rintro e w2 ⟨rfl, hw⟩; replace hw := hw.symm; subst hw)
        | (go_at_call 30; (with_reducible refine (HS.out _).mono ?_); rintro e w2 ⟨rfl, hw⟩; replace hw := hw.symm; subst hw))
      go_ret
      exact ⟨by rw [hv.out]; try rfl, hg⟩
  · subst h1
    rcases H2.out with h2 | ⟨h2, q2⟩ | ⟨h2, q2⟩
    · subst h2
      rcases H3.out with h3 | ⟨h3, q3⟩ | ⟨h3, q3⟩
      · subst h3
        rcases H4.out with h4 | ⟨h4, q4⟩ | ⟨h4, q4⟩
        · subst h4
          have hv := Lib.hid (show R = true by rw [hR2.out]; simp_all)
          clear hR2
          go_wp2_with (first
            | (go_at_call 30; (with_reducible refine (HB.out _).mono ?_); rintro e w2 ⟨rfl, hw⟩; replace hw := hw.symm; subst hw)
            | (go_at_call 30; (with_reducible refine (HN.out _).mono ?_); rintro e w2 ⟨rfl, hw⟩; replace hw := hw.symm; subst hw)
            | (go_at_call 30; (with_reducible refine (HM.out _).mono ?_); rintro e w2 ⟨rfl, hw⟩; replace hw := hw.symm; subst hw)
            | (go_at_call 30; (with_reducible refine (HS.out _).mono ?_); rintro e w2 ⟨rfl, hw⟩; replace hw := hw.symm; subst hw))
          go_ret
          exact ⟨by rw [hv.out]; try rfl, hg⟩
        · subst h4
          have hv := Lib.hid (show R = true by rw [hR2.out]; simp_all)
          clear hR2
          go_wp2_with (first
            | (go_at_call 30; (with_reducible refine (HB.out _).mono ?_); rintro e w2 ⟨rfl, hw⟩; replace hw := hw.symm; subst hw)
            | (go_at_call 30; (with_reducible refine (HN.out _).mono ?_); rintro e w2 ⟨rfl, hw⟩; replace hw := hw.symm; subst hw)
            | (go_at_call 30; (with_reducible refine (HM.out _).mono ?_); rintro e w2 ⟨rfl, hw⟩; replace hw := hw.symm; subst hw)
            | (go_at_call 30; (with_reducible refine (HS.out _).mono ?_); rintro e w2 ⟨rfl, hw⟩; replace hw := hw.symm; subst hw))
          go_ret
          exact ⟨by rw [hv.out]; try rfl, hg⟩
        · subst h4
          have hv := Lib.hid (show R = false by rw [hR2.out]; simp_all)
          clear hR2
          go_wp2_with (first
            | (go_at_call 30; (with_reducible refine (HB.out _).mono ?_); rintro e w2 ⟨rfl, hw⟩; replace hw := hw.symm; subst hw)
            | (go_at_call 30; (with_reducible refine (HN.out _).mono ?_); rintro e w2 ⟨rfl, hw⟩; replace hw := hw.symm; subst hw)
            | (go_at_call 30; (with_reducible refine (HM.out _).mono ?_); rintro e w2 ⟨rfl, hw⟩; replace hw := hw.symm; subst hw)
            | (go_at_call 30; (with_reducible refine (HS.out _).mono ?_); rintro e w2 ⟨rfl, hw⟩; replace hw := hw.symm; subst hw))
          go_ret
          exact ⟨by rw [hv.out]; try rfl, hg⟩
      · subst h3
        rcases H4.out with h4 | ⟨h4, q4⟩ | ⟨h4, q4⟩
        · subst h4
          have hv := Lib.hid (show R = true by rw [hR2.out]; simp_all)
          clear hR2
          go_wp2_with (first
            | (go_at_call 30; (with_reducible refine (HB.out _).mono ?_); rintro e w2 ⟨rfl, hw⟩; replace hw := hw.symm; subst hw)
            | (go_at_call 30; (with_reducible refine (HN.out _).mono ?_); rintro e w2 ⟨rfl, hw⟩; replace hw := hw.symm; subst hw)
            | (go_at_call 30; (with_reducible refine (HM.out _).mono ?_); rintro e w2 ⟨rfl, hw⟩; replace hw := hw.symm; subst hw)
            | (go_at_call 30; (with_reducible refine (HS.out _).mono ?_); rintro e w2 ⟨rfl, hw⟩; replace hw := hw.symm; subst hw))
          go_ret
          exact ⟨by rw [hv.out]; try rfl, hg⟩
        · subst h4
          have hv := Lib.hid (show R = true by rw [hR2.out]; simp_all)
          clear hR2
          go_wp2_with (first
            | (go_at_call 30; (with_reducible refine (HB.out _).mono ?_); rintro e w2 ⟨rfl, hw⟩; replace hw := hw.symm; subst hw)
            | (go_at_call 30; (with_reducible refine (HN.out _).mono ?_); rintro e w2 ⟨rfl, hw⟩; replace hw := hw.symm; subst hw)
            | (go_at_call 30; (with_reducible refine (HM.out _).mono ?_); rintro e w2 ⟨rfl, hw⟩; replace hw := hw.symm; subst hw)
            | (go_at_call 30; (with_reducible refine (HS.out _).mono ?_); rintro e w2 ⟨rfl, hw⟩; replace hw := hw.symm; subst hw))
          go_ret
          exact ⟨by rw [hv.out]; try rfl, hg⟩
        · subst h4
          have hv := Lib.hid (show R = false by rw [hR2.out]; simp_all)
          clear hR2
          go_wp2_with (first
            | (go_at_call 30; (with_reducible refine (HB.out _).mono ?_); rintro e w2 ⟨rfl, hw⟩; replace hw := hw.symm; subst hw)
            | (go_at_call 30; (with_reducible refine (HN.out _).mono ?_); rintro e w2 ⟨rfl, hw⟩; replace hw := hw.symm; subst hw)
            | (go_at_call 30; (with_reducible refine (HM.out _).mono ?_); rintro e w2 ⟨rfl, hw⟩; replace hw := hw.symm; subst hw)
            | (go_at_call 30; (with_reducible refine (HS.out _).mono ?_); rintro e w2 ⟨rfl, hw⟩; replace hw := hw.symm; subst hw))
          go_ret
          exact ⟨by rw [hv.out]; try rfl, hg⟩
      · subst h3
        have hv := Lib.hid (show R = false by rw [hR2.out]; simp_all)
        clear hR2
        go_wp2_with (first
          | (go_at_call 30; (with_reducible refine (HB.out _).mono ?_); rintro e w2 ⟨rfl, hw⟩; replace hw := hw.symm; subst hw)
          | (go_at_call 30; (with_reducible refine (HN.out _).mono ?_); rintro e w2 ⟨rfl, hw⟩; replace hw := hw.symm; subst hw)
          | (go_at_call 30; (with_reducible refine (HM.out _).mono ?_); rintro e w2 ⟨rfl, hw⟩; replace hw := hw.symm; subst hw)
          | (go_at_call 30; (with_reducible refine (HS.out _).mono ?_); rintro e w2 ⟨rfl, hw⟩; replace hw := hw.symm; subst hw))
        go_ret
        exact ⟨by rw [hv.out]; try rfl, hg⟩
    · subst h2
      rcases H3.out with h3 | ⟨h3, q3⟩ | ⟨h3, q3⟩
      · subst h3
        rcases H4.out with h4 | ⟨h4, q4⟩ | ⟨h4, q4⟩
        · subst h4
          have hv := Lib.hid (show R = true by rw [hR2.out]; simp_all)
          clear hR2
          go_wp2_with (first
            | (go_at_call 30; (with_reducible refine (HB.out _).mono ?_); rintro e w2 ⟨rfl, hw⟩; replace hw := hw.symm; subst hw)
            | (go_at_call 30; (with_reducible refine (HN.out _).mono ?_); rintro e w2 ⟨rfl, hw⟩; replace hw := hw.symm; subst hw)
            | (go_at_call 30; (with_reducible refine (HM.out _).mono ?_); rintro e w2 ⟨rfl, hw⟩; replace hw := hw.symm; subst hw)
            | (go_at_call 30; (with_reducible refine (HS.out _).mono ?_); rintro e w2 ⟨rfl, hw⟩; replace hw := hw.symm; subst hw))
          go_ret
          exact ⟨by rw [hv.out]; try rfl, hg⟩
        · subst h4
          have hv := Lib.hid (show R = true by rw [hR2.out]; simp_all)
          clear hR2
          go_wp2_with (first
            | (go_at_call 30; (with_reducible refine (HB.out _).mono ?_); rintro e w2 ⟨rfl, hw⟩; replace hw := hw.symm; subst hw)
            | (go_at_call 30; (with_reducible refine (HN.out _).mono ?_); rintro e w2 ⟨rfl, hw⟩; replace hw := hw.symm; subst hw)
            | (go_at_call 30; (with_reducible refine (HM.out _).mono ?_); rintro e w2 ⟨rfl, hw⟩; replace hw := hw.symm; subst hw)
            | (go_at_call 30; (with_reducible refine (HS.out _).mono ?_); rintro e w2 ⟨rfl, hw⟩; replace hw := hw.symm; subst hw))
          go_ret
          exact ⟨by rw [hv.out]; try rfl, hg⟩
        · subst h4
          have hv := Lib.hid (show R = false by rw [hR2.out]; simp_all)
          clear hR2
          go_wp2_with (first
            | (go_at_call 30; (with_reducible refine (HB.out _).mono ?_); rintro e w2 ⟨rfl, hw⟩; replace hw := hw.symm; subst hw)
            | (go_at_call 30; (with_reducible refine (HN.out _).mono ?_); rintro e w2 ⟨rfl, hw⟩; replace hw := hw.symm; subst hw)
            | (go_at_call 30; (with_reducible refine (HM.out _).mono ?_); rintro e w2 ⟨rfl, hw⟩; replace hw := hw.symm; subst hw)
            | (go_at_call 30; (with_reducible refine (HS.out _).mono ?_); rintro e w2 ⟨rfl, hw⟩; replace hw := hw.symm; subst hw))
          go_ret
          exact ⟨by rw [hv.out]; try rfl, hg⟩
      · subst h3
        rcases H4.out with h4 | ⟨h4, q4⟩ | ⟨h4, q4⟩
        · subst h4
          have hv := Lib.hid (show R = true by rw [hR2.out]; simp_all)
          clear hR2
          go_wp2_with (first
            | (go_at_call 30; (with_reducible refine (HB.out _).mono ?_); rintro e w2 ⟨rfl, hw⟩; replace hw := hw.symm; subst hw)
            | (go_at_call 30; (with_reducible refine (HN.out _).mono ?_); rintro e w2 ⟨rfl, hw⟩; replace hw := hw.symm; subst hw)
            | (go_at_call 30; (with_reducible refine (HM.out _).mono ?_); rintro e w2 ⟨rfl, hw⟩; replace hw := hw.symm; subst hw)
            | (go_at_call 30; (with_reducible refine (HS.out _).mono ?_); rintro e w2 ⟨rfl, hw⟩; replace hw := hw.symm; subst hw))
          go_ret
          exact ⟨by rw [hv.out]; try rfl, hg⟩
        · subst h4
          have hv := Lib.hid (show R = true by rw [hR2.out]; simp_all)
          clear hR2
          go_wp2_with (first
            | (go_at_call 30; (with_reducible refine (HB.out _).mono ?_); rintro e w2 ⟨rfl, hw⟩; replace hw := hw.symm; subst hw)
            | (go_at_call 30; (with_reducible refine (HN.out _).mono ?_); rintro e w2 ⟨rfl, hw⟩; replace hw := hw.symm; subst hw)
            | (go_at_call 30; (with_reducible refine (HM.out _).mono ?_); rintro e w2 ⟨rfl, hw⟩; replace hw := hw.symm; subst hw)
            | (go_at_call 30; (with_reducible refine (HS.out _).mono ?_); rintro e w2 ⟨rfl, hw⟩; replace hw := hw.symm; subst hw))
          go_ret
          exact ⟨by rw [hv.out]; try rfl, hg⟩
        · subst h4
          have hv := Lib.hid (show R = false by rw [hR2.out]; simp_all)
          clear hR2
          go_wp2_with (first
            | (go_at_call 30; (with_reducible refine (HB.out _).mono ?_); rintro e w2 ⟨rfl, hw⟩; replace hw := hw.symm; subst hw)
            | (go_at_call 30; (with_reducible refine (HN.out _).mono ?_); rintro e w2 ⟨rfl, hw⟩; replace hw := hw.symm; subst hw)
            | (go_at_call 30; (with_reducible refine (HM.out _).mono ?_); rintro e w2 ⟨rfl, hw⟩; replace hw := hw.symm; subst hw)
            | (go_at_call 30; (with_reducible refine (HS.out _).mono ?_); rintro e w2 ⟨rfl, hw⟩; replace hw := hw.symm; subst hw))
          go_ret
          exact ⟨by rw [hv.out]; try rfl, hg⟩
      · subst h3
        have hv := Lib.hid (show R = false by rw [hR2.out]; simp_all)
        clear hR2
        go_wp2_with (first
          | (go_at_call 30; (with_reducible refine (HB.out _).mono ?_); rintro e w2 ⟨rfl, hw⟩; replace hw := hw.symm; subst hw)
          | (go_at_call 30; (with_reducible refine (HN.out _).mono ?_); rintro e w2 ⟨rfl, hw⟩; replace hw := hw.symm; subst hw)
          | (go_at_call 30; (with_reducible refine (HM.out _).mono ?_); rintro e w2 ⟨rfl, hw⟩; replace hw := hw.symm; subst hw)
          | (go_at_call 30; (with_reducible refine (HS.out _).mono ?_); rintro e w2 ⟨rfl, hw⟩; replace hw := hw.symm; subst hw))
        go_ret
        exact ⟨by rw [hv.out]; try rfl, hg⟩
    · subst h2
      have hv := Lib.hid (show R = false by rw [hR2.out]; simp_all)
      clear hR2
      go_wp2_with (first
        | (go_at_call 30; (with_reducible refine (HB.out _).mono ?_); rintro e w2 ⟨rfl, hw⟩; replace hw := hw.symm; subst hw)
        | (go_at_call 30; (with_reducible refine (HN.out _).mono ?_); rintro e w2 ⟨rfl, hw⟩; replace hw := hw.symm; subst hw)
        | (go_at_call 30; (with_reducible refine (HM.out _).mono ?_); rintro e w2 ⟨rfl, hw⟩; replace hw := hw.symm; subst hw)
        | (go_at_call 30; (with_reducible refine (HS.out _).mono ?_); rintro e w2 ⟨rfl, hw⟩; replace hw := hw.symm; subst hw))
      go_ret
      exact ⟨by rw [hv.out]; try rfl, hg⟩
  · subst h1
    have hv := Lib.hid (show R = false by rw [hR2.out]; simp_all)
    clear hR2
    go_wp2_with (first
      | (go_at_call 30; (with_reducible refine (HB.out _).mono ?_); rintro e w2 ⟨rfl, hw⟩; replace hw := hw.symm; subst hw)
      | (go_at_call 30; (with_reducible refine (HN.out _).mono ?_); rintro e w2 ⟨rfl, hw⟩; replace hw := hw.symm; subst hw)
      | (go_at_call 30; (with_reducible refine (HM.out _).mono ?_); rintro e w2 ⟨rfl, hw⟩; replace hw := hw.symm; subst hw)
      | (go_at_call 30; (with_reducible refine (HS.out _).mono ?_); rintro e w2 ⟨rfl, hw⟩; replace hw := hw.symm; subst hw))
    go_ret
    exact ⟨by rw [hv.out]; try rfl, hg⟩
end Go.Proofs.YtikdhfedidknpaaDoor.Event
