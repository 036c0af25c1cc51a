/- The walk of ShareGrows. Conditions: each argument is a number of its kind. -/
import Derived.Test.YtkegbagmgjlniaaShareLawsB
import Derived.Deep.RegionWith
import Derived.Deep.RegionHeld3
namespace Go.Proofs.Ytkegbagmgjlniaa.Share
open Go.ChangeShapes Go.WideShapes Go.ChangeAt Go.RowKit Wide
set_option linter.unusedVariables false
set_option linter.unusedSimpArgs false

def SplitJ (n : Nat) (f g : Nat → Int) (w : World) (t7 t8 t9 : Value) (wc : World) : Prop :=
  ∃ ao cp ao3 cp3, t7 = .bool true ∧ t8 = .slice ao n cp ∧ t9 = .slice ao3 n cp3 ∧ Hid (Lies .u64 ao n f wc) ∧ Hid (Lies .u64 ao3 n g wc) ∧ Below w.heap.size w wc
def StepI (n : Nat) (w : World) (left : Nat) (t10 : Value) (wr : World) : Prop := ∃ k : Nat, left + k = n ∧ t10 = .int .i64 k ∧ Below w.heap.size w wr
set_option maxRecDepth 100000 in
set_option maxHeartbeats 20000000 in
theorem grows_as (a b lo hi : Int) (v : Option Addr) (n cap : Nat) (z : Nat → Int) (w : World) (hl : lo = min a b) (hh : hi = max a b) (a0 : U64 a) (b0 : U64 b) (hn : n ≤ 9223372036854775807) (HZ : Hid (∀ j, j < n → U64 (z j))) (HC : Hid (Lies .u64 v n z w)) :
    Calls Try.prog 5 #[.int .u64 a, .int .u64 b, .slice v n cap] w (Yes w) := by
  have S := Lib.hid (fun w => shown w)
  have hg := Below.refl w.heap.size w
  by_cases h2 : (200 : Int) < n
  · clear hl hh
    go_enter Try.func5, Try.ntmps5
    go_wp2_with (go_at_call 9; refine (S.out _).mono ?_; rintro e w' ⟨rfl, hg1⟩; replace hg := fresh_trans hg hg1; clear hg1)
    go_ret
    exact yes_of rfl hg
  unfold U64 at a0 b0
  have SP := Lib.hid (fun (x : Int) w (h : 0 ≤ x ∧ x ≤ 18446744073709551615) (hw : Lies .u64 v n z w) => splits x v n cap z w h (by omega) HZ (Lib.hid hw))
  have ta := tot_bd (z := z) (n := n) (fun j hj => (HZ.out j hj).1)
  generalize tot z n = T at *
  have G1 : Hid (∀ j, j < n → ¬ wt hi (z j) T < wt lo (z j) T) := Lib.hid fun j hj => by
    have := wt_mono_s (s := lo) (t := hi) (h := z j) (a := T) (by omega) (HZ.out j hj).1 ta.1; omega
  have G2 : Hid (∀ j, j + 1 < n → z j < z (j + 1) → ¬ wt lo (z (j + 1)) T < wt lo (z j) T) := Lib.hid fun j hj h => by
    have := wt_mono_h (s := lo) (h := z j) (k := z (j + 1)) (a := T) (by omega) (by omega) ta.1; omega
  have G3 : Hid (∀ j, j + 1 < n → z (j + 1) < z j → ¬ wt lo (z j) T < wt lo (z (j + 1)) T) := Lib.hid fun j hj h => by
    have := wt_mono_h (s := lo) (h := z (j + 1)) (k := z j) (a := T) (by omega) (by omega) ta.1; omega
  have L := Lib.hid (SP.out lo · (by omega))
  have H := Lib.hid (SP.out hi · (by omega))
  have hl0 : 0 ≤ lo ∧ lo ≤ 18446744073709551615 := by omega
  have hh0 : 0 ≤ hi ∧ hi ≤ 18446744073709551615 := by omega
  clear SP
  have FE : Hid (∀ j k, z j = z k → wt lo (z j) T = wt lo (z k) T) := Lib.hid fun j k h => by rw [h]
  have L2 := Lib.hid (show ∀ x, x = lo → ∀ w, Lies .u64 v n z w → Calls Try.prog 15 #[.int .u64 x, .slice v n cap] w (Rowed n (fun j => wt lo (z j) T) w) from fun x h w hw => by subst h; exact L.out w hw)
  have H2 := Lib.hid (show ∀ x, x = hi → ∀ w, Lies .u64 v n z w → Calls Try.prog 15 #[.int .u64 x, .slice v n cap] w (Rowed n (fun j => wt hi (z j) T) w) from fun x h w hw => by subst h; exact H.out w hw)
  clear L H
  generalize hf : (fun j => wt lo (z j) T) = f at *
  generalize hgg : (fun j => wt hi (z j) T) = g at *
  have hfj : ∀ j, wt lo (z j) T = f j := fun j => by rw [← hf]
  have hgj : ∀ j, wt hi (z j) T = g j := fun j => by rw [← hgg]
  simp only [hfj, hgj] at G1 G2 G3 FE
  clear hf hgg hfj hgj
  have LH := Lib.hid hl
  have HH := Lib.hid hh
  clear hl hh
  have CA := Lib.hid (fun w1 (h : Below w.heap.size w w1) => HC.out.fresh h)
  go_enter Try.func5, Try.ntmps5
  go_upto_region 6 with (first
    | (go_at_call 9; refine (S.out _).mono ?_; rintro e w1 ⟨rfl, hg1⟩; replace hg := fresh_trans hg hg1; clear hg1)
    | (go_at_call 15; first
      | (refine (L2.out _ (by have := LH.out; omega) _ (CA.out _ hg)).mono ?_; rintro e w2 ⟨ao, cp, rfl, hl2, hg2⟩; replace hl2 := Lib.hid hl2; replace hg := fresh_trans hg hg2; clear hg2)
      | (refine (H2.out _ (by have := HH.out; omega) _ (CA.out _ hg)).mono ?_; rintro e w3 ⟨ao3, cp3, rfl, hl3, hg3⟩; replace hl3 := Lib.hid hl3; replace hl2 := Lib.hid (hl2.out.fresh hg3); replace hg := fresh_trans hg hg3; clear hg3)))
  go_cut [7, 8, 9, 37] (fun t7 t8 t9 t37 wc => t37 = .bool false ∧ SplitJ n f g w t7 t8 t9 wc)
  case first =>
    go_wp2_with fail
    go_meet
    exact ⟨rfl, ao, cp, ao3, cp3, rfl, rfl, rfl, hl2, hl3, hg⟩
  case rest =>
    obtain ⟨rfl, ao, cp, ao3, cp3, rfl, rfl, rfl, hl2, hl3, hg⟩ := hcut
    clear L2 H2
    go_wp2
    go_loopg [10] n (fun left t10 wr => StepI n wc left t10 wr)
    case atStart => exact ⟨0, by omega, rfl, Below.refl _ _⟩
    case round =>
      obtain ⟨k, hk, rfl, hb⟩ := hrel
      have hgb := fresh_trans hg hb
      by_cases hlt : k < n
      · have h3 : (k : Int) < n := by omega
        have CZ := CA.out _ hgb
        obtain ⟨b0', o0, rfl, l0, c0⟩ := CZ k hlt
        have CF := hl2.out.fresh hb
        obtain ⟨b1', o1, rfl, l1, c1⟩ := CF k hlt
        obtain ⟨b2', o2, rfl, l2, c2⟩ := (hl3.out.fresh hb) k hlt
        have x1 := Lib.hid (G1.out k hlt)
        by_cases hk0 : k = 0
        · subst hk0
          simp only [Nat.add_zero] at c0 c1 c2
          generalize f 0 = y at *
          generalize g 0 = y' at *
          generalize z 0 = x at *
          clear hgb CZ CF CA HC hl2 hl3 G1 G2 G3 FE HZ S hl0 hh0 a0 b0 ta h2 hn l0 l1 l2 hg
          go_wp2
          have p1 : decide (y' < y) = false := by have := x1.out; simp; omega
          dsimp only [List.append]
          go_quiet (fail)
          go_wp2
          go_roundg (gk - 1)
          case measure => omega
          case rel => exact ⟨1, by omega, rfl, drawn hb _⟩
        · obtain ⟨j, hj⟩ : ∃ j, k = j + 1 := ⟨k - 1, by omega⟩
          obtain ⟨b0'', o0', e0, _, d0⟩ := CZ j (by omega)
          cases e0
          obtain ⟨b1'', o1', e1', _, d1⟩ := CF j (by omega)
          cases e1'
          have y1 := Lib.hid (G2.out j (by omega))
          have y2 := Lib.hid (G3.out j (by omega))
          have y3 := FE.out k j
          rw [← hj] at y1 y2
          have HJ := Lib.hid hj
          generalize f k = y at *
          generalize g k = y' at *
          generalize z k = x at *
          generalize f j = u at *
          generalize z j = v' at *
          clear hgb CZ CF CA HC hl2 hl3 G1 G2 G3 FE HZ S hl0 hh0 a0 b0 ta hn l0 l1 l2 hg hj
          have hq1 : (0 : Int) ≤ (k : Int) := by omega
          have hq2 : (k : Int) ≤ n := by omega
          have hq3 : (0 : Int) ≤ (j : Int) := by omega
          have hq4 : (j : Int) < n := by have := HJ.out; omega
          have hq5 : (j : Int) ≤ n := by omega
          rcases Int.lt_trichotomy v' x with hx | hx | hx
          · have Y := Lib.hid (y1.out hx)
            have HX := Lib.hid hx
            clear y1 y2 y3 hx
            go_wp2
            have p1 : decide (y' < y) = false := by have := x1.out; simp; omega
            have p2 : decide (0 < (k : Int)) = true := by have := HJ.out; simp; omega
            have p2' : 0 < k := by have := HJ.out; omega
            have p2'' : decide (0 < k) = true := by simpa using p2'
            have p3 : decide (v' < x) = true := by have := HX.out; simp; omega
            have p4 : decide (y < u) = false := by have := Y.out; simp; omega
            have p5 : decide (x < v') = false := by have := HX.out; simp; omega
            have p6 : (x == v') = false := by have := HX.out; simp; omega
            have p7 : IntKind.i64.wrap ((k : Int) - 1) = j := by have := HJ.out; rw [IntKind.wrap_i64]; omega
            dsimp only [List.append]
            go_quiet (fail)
            go_wp2
            go_roundg (gk - 1)
            case measure => omega
            case rel => exact ⟨k + 1, by omega, by go_num, drawn hb _⟩
          · subst hx
            obtain rfl := y3 rfl
            clear y1 y2 y3
            go_wp2
            have p1 : decide (y' < y) = false := by have := x1.out; simp; omega
            have p2 : decide (0 < (k : Int)) = true := by have := HJ.out; simp; omega
            have p2' : 0 < k := by have := HJ.out; omega
            have p2'' : decide (0 < k) = true := by simpa using p2'
            have p7 : IntKind.i64.wrap ((k : Int) - 1) = j := by have := HJ.out; rw [IntKind.wrap_i64]; omega
            dsimp only [List.append]
            go_quiet (fail)
            go_wp2
            go_roundg (gk - 1)
            case measure => omega
            case rel => exact ⟨k + 1, by omega, by go_num, drawn hb _⟩
          · have Y := Lib.hid (y2.out hx)
            have HX := Lib.hid hx
            clear y1 y2 y3 hx
            go_wp2
            have p1 : decide (y' < y) = false := by have := x1.out; simp; omega
            have p2 : decide (0 < (k : Int)) = true := by have := HJ.out; simp; omega
            have p2' : 0 < k := by have := HJ.out; omega
            have p2'' : decide (0 < k) = true := by simpa using p2'
            have p3 : decide (x < v') = true := by have := HX.out; simp; omega
            have p4 : decide (u < y) = false := by have := Y.out; simp; omega
            have p5 : decide (v' < x) = false := by have := HX.out; simp; omega
            have p6 : (x == v') = false := by have := HX.out; simp; omega
            have p7 : IntKind.i64.wrap ((k : Int) - 1) = j := by have := HJ.out; rw [IntKind.wrap_i64]; omega
            dsimp only [List.append]
            go_quiet (fail)
            go_wp2
            go_roundg (gk - 1)
            case measure => omega
            case rel => exact ⟨k + 1, by omega, by go_num, drawn hb _⟩
      · have h3 : ¬ (k : Int) < n := by omega
        go_wp2
        go_ret
        exact yes_of rfl hgb
theorem growsLaw (a b : Int) (v : Option Addr) (n cap : Nat) (z : Nat → Int) (w : World) (a0 : U64 a) (b0 : U64 b) (hn : n ≤ 9223372036854775807) (hz : ∀ j, j < n → U64 (z j)) (hc : Lies .u64 v n z w) :
    Calls Try.prog 5 #[.int .u64 a, .int .u64 b, .slice v n cap] w (Yes w) := grows_as a b _ _ v n cap z w rfl rfl a0 b0 hn (Lib.hid hz) (Lib.hid hc)
end Go.Proofs.Ytkegbagmgjlniaa.Share
