/- The walk of LoadBest. Conditions: each argument is a number of its kind; a slice has room for what it holds. -/
import Derived.Test.YtijocgpbifgifaaLoadLaws
namespace Go.Proofs.Ytijocgpbifgifaa.Load
open Go.ChangeShapes Go.WideShapes Go.ChangeAt Go.RowKit
set_option linter.unusedVariables false
set_option linter.unusedSimpArgs false
attribute [local irreducible] Go.wpQuiet

def BestI (n : Nat) (w : World) (left : Nat) (t : Value) (wr : World) : Prop := ∃ k : Nat, left + k = n ∧ t = .int .i64 k ∧ Below w.heap.size w wr
theorem lea_facts {z : Nat → Int} {n m : Nat} (p : Nat) (hp : p < n) (hm : may m p = true) : ∃ q : Nat, lea z n m = q ∧ q < n ∧ z q ≤ z p ∧ (z p = z q → q ≤ p) := by
  rcases pick_best (may m) (fun j => - z j) n with ⟨e, h⟩ | ⟨q, e, hq, hS, h⟩
  · rw [h p hp] at hm; cases hm
  · have := h p hp hm
    simp only [] at this
    exact ⟨q, e, hq, by omega, fun h => by omega⟩
theorem bus_facts {z : Nat → Int} {n m : Nat} {mine : Int} (p : Nat) (hp : p < n) (hm : may m p = true) (hq : ¬ (p : Int) = mine) : ∃ q : Nat, bus z n mine m = q ∧ q < n ∧ ¬ (q : Int) = mine ∧ z p ≤ z q ∧ (z p = z q → q ≤ p) := by
  rcases pick_best (fun j => may m j && !((j : Int) == mine)) z n with ⟨e, h⟩ | ⟨q, e, hq', hS, h⟩
  · have := h p hp
    simp [hm, hq] at this
  · have := h p hp (by simp [hm, hq])
    simp at hS
    exact ⟨q, e, hq', hS.2, by omega, fun h => by omega⟩
theorem lea_end (z : Nat → Int) (n m : Nat) : lea z n m = -1 ∨ ∃ q : Nat, lea z n m = q ∧ q < n ∧ may m q = true := pick_bd _ _ _
theorem bus_end (z : Nat → Int) (n m : Nat) (mine : Int) : bus z n mine m = -1 ∨ ∃ q : Nat, bus z n mine m = q ∧ q < n ∧ may m q = true := by
  rcases pick_bd (fun j => may m j && !((j : Int) == mine)) z n with e | ⟨q, e, hq, hS⟩
  · exact .inl e
  · simp at hS; exact .inr ⟨q, e, hq, hS.1⟩

set_option maxRecDepth 100000 in
set_option maxHeartbeats 4000000 in
theorem bestLaw (v : Option Addr) (n cap m : Nat) (mine : Int) (z : Nat → Int) (w : World) (hm : m < 18446744073709551616) (hn : n ≤ 9223372036854775807) (h : In v n cap z w) :
    Calls Try.prog 5 #[.slice v n cap, .int .i64 mine, .int .u64 m] w (Yes w) := by
  have S := Lib.hid (fun w => shown w)
  have hI := Lib.hid h
  have FW := Lib.hid (fun w (h : In v n cap z w) => few' v n cap z w hn h)
  have IL : Hid (∀ w, In v n cap z w → In v (min n 100) cap z w) := Lib.hid fun w h => h.less (by omega)
  have hk : min n 100 ≤ 100 := by omega
  generalize min n 100 = l at *
  have B1 := Lib.hid (fun w (h : In v l cap z w) => busiest v l cap m mine z w hm h)
  have B2 := Lib.hid (fun w (h : In v l cap z w) => least v l cap m z w hm h)
  have FL := Lib.hid (fun p => lea_facts (z := z) (n := l) (m := m) p)
  have FB := Lib.hid (fun p => bus_facts (z := z) (n := l) (m := m) (mine := mine) p)
  have E1 := Lib.hid (bus_end z l m mine)
  have E2 := Lib.hid (lea_end z l m)
  have MY : Hid (∀ (p : Nat) (w : World), p < l → Calls Try.prog 21 #[.slice v l cap, .int .i64 p, .int .u64 m] w (IsBool (may m p) w)) := Lib.hid fun p w hp => by
    have := refMay v l cap m p w hm
    rwa [can_in hp] at this
  generalize bus z l mine m = r1 at *
  generalize lea z l m = r2 at *
  have hg := Below.refl w.heap.size w
  clear h
  go_enter Try.func5, Try.ntmps5
  go_wp2_with (first
    | (go_at_call 9; refine (S.out _).mono ?_; rintro e w1 ⟨rfl, hg1⟩; replace hI := Lib.hid (hI.out.fresh hg1); replace hg := fresh_trans hg hg1; clear hg1)
    | (go_at_call 10; refine (FW.out _ hI.out).mono ?_; rintro e w2 ⟨rfl, rfl⟩; replace hI := Lib.hid (IL.out _ hI.out))
    | (go_at_call 11; refine (B1.out _ hI.out).mono ?_; rintro e w3 ⟨rfl, hg1⟩; replace hI := Lib.hid (hI.out.fresh hg1); replace hg := fresh_trans hg hg1; clear hg1)
    | (go_at_call 13; refine (B2.out _ hI.out).mono ?_; rintro e w4 ⟨rfl, hg1⟩; replace hI := Lib.hid (hI.out.fresh hg1); replace hg := fresh_trans hg hg1; clear hg1))
  clear B1 B2 FW IL S
  go_loopg [11] l (fun left t wr => BestI l w4 left t wr)
  case atStart => exact ⟨0, by omega, rfl, Below.refl _ _⟩
  case round =>
    obtain ⟨k, hk', rfl, hb⟩ := hrel
    by_cases hlt : k < l
    · have h3 : (k : Int) < l := by omega
      have MK := Lib.hid (fun w => MY.out k w hlt)
      have q0 : (0 : Int) ≤ k := by omega
      have NX : Hid (∀ n1, BestI l w4 (gk - 1) (.int .i64 ((k : Int) + 1)) (wr.drewN n1)) := Lib.hid fun n1 => ⟨k + 1, by omega, by go_num, drawn hb n1⟩
      have NY : Hid (BestI l w4 (gk - 1) (.int .i64 ((k : Int) + 1)) wr) := Lib.hid ⟨k + 1, by omega, by go_num, hb⟩
      cases hM : may m k
      · rw [hM] at MK
        go_wp2_with (go_at_call 21; refine (MK.out _).mono ?_; rintro e w5 ⟨rfl, hw⟩; replace hw := hw.symm; subst hw)
        go_roundg (gk - 1)
        case measure => omega
        case rel => exact NY.out
      · rw [hM] at MK
        obtain ⟨q, rfl, hq, hq1, hq2⟩ := FL.out k hlt hM
        obtain ⟨b1, o1, rfl, l1, d1⟩ := hI.out.lies k hlt
        obtain ⟨b2, o2, e2, l2, d2⟩ := hI.out.lies q hq
        cases e2
        replace d1 := (hb.cell (p := ⟨b1, o1 + k, none⟩) l1).trans d1
        replace d2 := (hb.cell (p := ⟨b1, o1 + q, none⟩) l2).trans d2
        have q3 : (q : Int) < l := by omega
        have p0 : (0 : Int) ≤ q := by omega
        generalize hy : z k = y at *
        generalize hx : z q = x at *
        go_wp2_with (go_at_call 21; refine (MK.out _).mono ?_; rintro e w5 ⟨rfl, hw⟩; replace hw := hw.symm; subst hw)
        have g2 : decide (l ≤ q) = false := by simp; omega
        have g3 : decide (y < x) = false := by simp; omega
        by_cases hyx : y = x
        · have g4 : (y == x) = true := by simpa using hyx
          have g5 : decide (k < q) = false := by have := hq2 hyx; simp; omega
          clear hyx hq1 hq2
          go_quiet (fail)
          go_wp2_with fail
          clear g2 g3 g4 g5
          by_cases hmi : (k : Int) = mine
          · have gm : ((k : Int) != mine) = false := by simpa using hmi
            clear hmi
            go_quiet (fail)
            go_wp2_with fail
            go_roundg (gk - 1)
            case measure => omega
            case rel => exact NX.out _
          · obtain ⟨q', rfl, hp, hpm, hp1, hp2⟩ := FB.out k hlt hM hmi
            have gm : ((k : Int) != mine) = true := by simpa using hmi
            have gn : ((q' : Int) == mine) = false := by simpa using hpm
            obtain ⟨b3, o3, e3, l3, d3⟩ := hI.out.lies q' hp
            cases e3
            replace d3 := (hb.cell (p := ⟨b1, o1 + q', none⟩) l3).trans d3
            have p3 : (q' : Int) < l := by omega
            have p4 : (0 : Int) ≤ q' := by omega
            have n1 : decide (l ≤ q') = false := by simp; omega
            rw [hy] at hp1 hp2
            generalize hu : z q' = u at *
            have n2 : decide (u < y) = false := by simp; omega
            by_cases hyu : y = u
            · have n4 : (y == u) = true := by simpa using hyu
              have n5 : decide (k < q') = false := by have := hp2 hyu; simp; omega
              clear hyu hp1 hp2 hmi hpm
              go_quiet (fail)
              go_wp2_with fail
              go_roundg (gk - 1)
              case measure => omega
              case rel => exact NX.out _
            · have n4 : (y == u) = false := by simpa using hyu
              clear hyu hp1 hp2 hmi hpm
              go_quiet (fail)
              go_wp2_with fail
              go_roundg (gk - 1)
              case measure => omega
              case rel => exact NX.out _
        · have g4 : (y == x) = false := by simpa using hyx
          clear hyx hq1 hq2
          go_quiet (fail)
          go_wp2_with fail
          clear g2 g3 g4
          by_cases hmi : (k : Int) = mine
          · have gm : ((k : Int) != mine) = false := by simpa using hmi
            clear hmi
            go_quiet (fail)
            go_wp2_with fail
            go_roundg (gk - 1)
            case measure => omega
            case rel => exact NX.out _
          · obtain ⟨q', rfl, hp, hpm, hp1, hp2⟩ := FB.out k hlt hM hmi
            have gm : ((k : Int) != mine) = true := by simpa using hmi
            have gn : ((q' : Int) == mine) = false := by simpa using hpm
            obtain ⟨b3, o3, e3, l3, d3⟩ := hI.out.lies q' hp
            cases e3
            replace d3 := (hb.cell (p := ⟨b1, o1 + q', none⟩) l3).trans d3
            have p3 : (q' : Int) < l := by omega
            have p4 : (0 : Int) ≤ q' := by omega
            have n1 : decide (l ≤ q') = false := by simp; omega
            rw [hy] at hp1 hp2
            generalize hu : z q' = u at *
            have n2 : decide (u < y) = false := by simp; omega
            by_cases hyu : y = u
            · have n4 : (y == u) = true := by simpa using hyu
              have n5 : decide (k < q') = false := by have := hp2 hyu; simp; omega
              clear hyu hp1 hp2 hmi hpm
              go_quiet (fail)
              go_wp2_with fail
              go_roundg (gk - 1)
              case measure => omega
              case rel => exact NX.out _
            · have n4 : (y == u) = false := by simpa using hyu
              clear hyu hp1 hp2 hmi hpm
              go_quiet (fail)
              go_wp2_with fail
              go_roundg (gk - 1)
              case measure => omega
              case rel => exact NX.out _
    · obtain rfl : k = l := by omega
      have h3 : ¬ (k : Int) < k := by omega
      have hgb := fresh_trans hg hb
      rcases E1.out with rfl | ⟨q1, rfl, hq1, hm1⟩
      · rcases E2.out with rfl | ⟨q2, rfl, hq2, hm2⟩
        · go_wp2_with fail
          go_ret
          exact yes_of (by simp) hgb
        · have M2 := Lib.hid (fun w => MY.out q2 w hq2)
          rw [hm2] at M2
          have f2 : ¬ (q2 : Int) < 0 := by omega
          have M1 := M2
          go_wp2_with (go_at_call 21; first | ((with_reducible refine (M1.out _).mono ?_); rintro e w5 ⟨rfl, hw⟩; replace hw := hw.symm; subst hw) | ((with_reducible refine (M2.out _).mono ?_); rintro e w5 ⟨rfl, hw⟩; replace hw := hw.symm; subst hw))
          go_ret
          exact yes_of (by simp) hgb
      · rcases E2.out with rfl | ⟨q2, rfl, hq2, hm2⟩
        · have M1 := Lib.hid (fun w => MY.out q1 w hq1)
          rw [hm1] at M1
          have f1 : ¬ (q1 : Int) < 0 := by omega
          have M2 := M1
          go_wp2_with (go_at_call 21; first | ((with_reducible refine (M1.out _).mono ?_); rintro e w5 ⟨rfl, hw⟩; replace hw := hw.symm; subst hw) | ((with_reducible refine (M2.out _).mono ?_); rintro e w5 ⟨rfl, hw⟩; replace hw := hw.symm; subst hw))
          go_ret
          exact yes_of (by simp) hgb
        · have M1 := Lib.hid (fun w => MY.out q1 w hq1)
          rw [hm1] at M1
          have f1 : ¬ (q1 : Int) < 0 := by omega
          have M2 := Lib.hid (fun w => MY.out q2 w hq2)
          rw [hm2] at M2
          have f2 : ¬ (q2 : Int) < 0 := by omega
          go_wp2_with (go_at_call 21; first | ((with_reducible refine (M1.out _).mono ?_); rintro e w5 ⟨rfl, hw⟩; replace hw := hw.symm; subst hw) | ((with_reducible refine (M2.out _).mono ?_); rintro e w5 ⟨rfl, hw⟩; replace hw := hw.symm; subst hw))
          go_ret
          exact yes_of (by simp) hgb
end Go.Proofs.Ytijocgpbifgifaa.Load
