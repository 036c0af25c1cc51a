/- What each call of the document's answer for package share returns. Conditions: each argument is a number of its kind. -/
import Derived.Test.YtkegbagmgjlniaaShareLaws
import Derived.Deep.CutBlock
import Derived.Deep.RegionWith
import Derived.Deep.RegionHeld3
namespace Go.Proofs.Ytkegbagmgjlniaa.Share
open Go.ChangeShapes Go.WideShapes Go.ChangeAt Go.RowKit Wide
set_option linter.unusedVariables false
set_option linter.unusedSimpArgs false

theorem refHolds (x : Int) (w : World) : Calls Try.prog 13 #[.int .u64 x] w (One .u64 (hold x) w) := by
  unfold hold
  by_cases h1 : x < 2
  · rw [if_pos h1]
    go_enter Try.func13, Try.ntmps13
    go_wp2
    go_ret; exact ⟨rfl, rfl⟩
  · rw [if_neg h1]
    by_cases h2 : 262144 < x
    · rw [if_pos h2]
      go_enter Try.func13, Try.ntmps13
      go_wp2
      go_ret; exact ⟨rfl, rfl⟩
    · rw [if_neg h2]
      go_enter Try.func13, Try.ntmps13
      go_wp2
      go_ret; exact ⟨rfl, rfl⟩

theorem refSums (v : Option Addr) (len cap : Nat) (z : Nat → Int) (w : World) (hlen : len ≤ 9223372036854775807) (HZ : Hid (∀ j, j < len → U64 (z j))) (HC : Hid (Lies .u64 v len z w)) :
    Calls Try.prog 21 #[.slice v len cap] w (One .u64 (tot z len) w) := by
  go_enter Try.func21, Try.ntmps21
  go_wp2
  go_loopw [3, 4] (fun t3 t4 wr => SumI z len w t3 t4 wr) (fun _ i _ => len - (intOf i).toNat)
  case atStart => exact ⟨0, by omega, rfl, rfl, rfl⟩
  case round =>
    obtain ⟨k, hk, rfl, rfl, rfl⟩ := hrel
    obtain ⟨b0, b1⟩ := tot_bd (z := z) (n := k) (fun j hj => (HZ.out j (by omega)).1)
    by_cases hlt : k < len
    · have h3 : (k : Int) < len := by omega
      obtain ⟨b, o, rfl, hb, hc⟩ := HC.out k hlt
      obtain ⟨z0, z1⟩ := HZ.out k hlt
      by_cases ht : 18446744073709551615 - tot z k < z k
      · have T := Lib.hid (tot_top hlt (fun j hj => (HZ.out j hj).1) ht)
        generalize tot z k = t at *
        generalize z k = y at *
        go_wp2
        go_ret
        exact one_of T.out.symm
      · have T := Lib.hid (tot_next ht)
        generalize tot z k = t at *
        generalize z k = y at *
        go_wp2
        go_roundw
        case rel => exact ⟨k + 1, hlt, by rw [T.out], by go_num, rfl⟩
        case measure => simp [intOf]; omega
    · have h3 : ¬ (k : Int) < len := by omega
      obtain rfl : k = len := by omega
      generalize tot z k = t at *
      go_wp2
      go_ret
      exact ⟨rfl, rfl⟩

/-- The first k of 64 bits, and the one behind them. -/
def pre (n : Int) (k : Nat) : Int := n / 2 ^ (64 - k)
theorem pw (k : Nat) : (0 : Int) < 2 ^ k := Int.pow_pos (by omega)
theorem pre_succ (n : Int) (k : Nat) (h : k < 64) : pre n (k + 1) = 2 * pre n k + n / 2 ^ (63 - k) % 2 := by
  unfold pre
  have e : (2 : Int) ^ (64 - k) = 2 ^ (63 - k) * 2 := by rw [show 64 - k = 63 - k + 1 from by omega, Int.pow_succ]
  rw [e, ← Int.ediv_ediv_of_nonneg (Int.le_of_lt (pw _)), show 64 - (k + 1) = 63 - k from by omega]
  omega
theorem pre_zero (n : Int) (h0 : 0 ≤ n) (h1 : n ≤ 18446744073709551615) : pre n 0 = 0 := by
  unfold pre; exact Int.ediv_eq_zero_of_lt h0 (by simp; omega)
theorem pre_all (n : Int) : pre n 64 = n := by unfold pre; simp
theorem pre_pos (n : Int) (k : Nat) (h0 : 0 ≤ n) : 0 ≤ pre n k := Int.ediv_nonneg h0 (Int.le_of_lt (pw _))
theorem pre_le (n : Int) (k : Nat) (h0 : 0 ≤ n) (hk : k ≤ 64) : pre n k ≤ n := Int.ediv_le_self _ h0
theorem pre_half (n : Int) (k : Nat) (h0 : 0 ≤ n) (h : k < 64) : 2 * pre n k ≤ n := by
  have := pre_succ n k h
  have := pre_le n (k + 1) h0 (by omega)
  omega

/-- What holds ahead of bit k of the long division: the first k bits of a, times b, are q times c, and r. -/
def Dv (a b c : Int) (k : Nat) (q r : Int) : Prop := pre a k * b = q * c + r
theorem over_at {a b c x : Int} {m : Int} (ha : U64 a) (hb : U64 b) (hc : 1 ≤ c) (hm : m ≤ a) (h : x * c ≤ m * b) (hx : 18446744073709551615 < x) : can a b c = false := by
  have h1 : m * b ≤ a * b := Int.mul_le_mul_of_nonneg_right hm hb.1
  have h2 : x ≤ a * b / c := (Int.le_ediv_iff_mul_le (by omega)).2 (by omega)
  unfold can
  rw [decide_eq_false_iff_not]
  omega
theorem over_q {a b c q r : Int} {k : Nat} (ha : U64 a) (hb : U64 b) (hc : 1 ≤ c) (hk : k < 64) (h : Dv a b c k q r) (r0 : 0 ≤ r) (hq : 9223372036854775807 < q) : can a b c = false := by
  have h1 := pre_half a k ha.1 hk
  refine over_at (x := 2 * q) ha hb hc h1 ?_ (by omega)
  unfold Dv at h
  rw [Int.mul_assoc, Int.mul_assoc, h]
  omega
/-- Twice as many bits, ahead of the new one. -/
theorem dv_two {a b c q r : Int} {k : Nat} (h : Dv a b c k q r) : (2 * pre a k) * b = (2 * q) * c + 2 * r ∧ (2 * pre a k) * b = (2 * q + 1) * c + (2 * r - c) := by
  unfold Dv at h
  rw [Int.mul_assoc, Int.mul_assoc, h, Int.add_mul, Int.mul_assoc]
  omega
theorem dv_none {a b c q r : Int} {k : Nat} (hk : k < 64) (h : (2 * pre a k) * b = q * c + r) (ht : a / 2 ^ (63 - k) % 2 = 0) : Dv a b c (k + 1) q r := by
  unfold Dv
  rw [pre_succ a k hk, ht, Int.add_zero, h]
theorem dv_one {a b c q r : Int} {k : Nat} (hk : k < 64) (h : (2 * pre a k) * b = q * c + r) (ht : a / 2 ^ (63 - k) % 2 = 1) : pre a (k + 1) * b = (q + b / c) * c + (r + b % c) ∧ pre a (k + 1) * b = (q + b / c + 1) * c + (r + b % c - c) := by
  rw [pre_succ a k hk, ht, Int.add_mul, h]
  have e := Int.emod_add_mul_ediv b c
  rw [Int.add_mul, Int.add_mul, Int.add_mul, Int.mul_comm (b / c) c]
  omega
theorem dv_done {a b c q r : Int} (hc : 1 ≤ c) (h : Dv a b c 64 q r) (r0 : 0 ≤ r) (r1 : r < c) (q1 : q ≤ 18446744073709551615) : q = quo a b c ∧ can a b c = true := by
  unfold Dv at h
  rw [pre_all] at h
  have h1 : a * b / c = q := by rw [h, Int.add_comm, Int.add_mul_ediv_right _ _ (by omega), Int.ediv_eq_zero_of_lt r0 r1]; omega
  have h2 : can a b c = true := by unfold can; rw [decide_eq_true_iff]; omega
  exact ⟨by rw [quo_in h2, h1], h2⟩

theorem and_one (a : Int) (k : Nat) (ha : U64 a) : bits .and .u64 (a / 2 ^ k) 1 = a / 2 ^ k % 2 := by
  unfold U64 at ha
  obtain ⟨n, rfl⟩ := Int.eq_ofNat_of_zero_le ha.1
  have e : ((n : Int) / 2 ^ k) = ((n / 2 ^ k : Nat) : Int) := by simp
  have hlt : n / 2 ^ k < 18446744073709551616 := Nat.lt_of_le_of_lt (Nat.div_le_self _ _) (by omega)
  rw [e, show (1 : Int) = ((1 : Nat) : Int) from rfl, bits_and_u64_nat _ _ hlt (by decide), Nat.and_one_is_mod]
  rfl
theorem over_more {a b c q m r s : Int} {k : Nat} (ha : U64 a) (hb : U64 b) (hc : 1 ≤ c) (hk : k < 64) (h : pre a (k + 1) * b = (q + m) * c + (r + s)) (r0 : 0 ≤ r + s) (hq : 18446744073709551615 - q < m) : can a b c = false :=
  over_at (x := q + m) ha hb hc (pre_le a (k + 1) ha.1 (by omega)) (by omega) (by omega)
theorem over_last {a b c q m r s : Int} {k : Nat} (ha : U64 a) (hb : U64 b) (hc : 1 ≤ c) (hk : k < 64) (h : pre a (k + 1) * b = (q + m + 1) * c + (r + s - c)) (r0 : c ≤ r + s) (hq : q + m = 18446744073709551615) : can a b c = false :=
  over_at (x := q + m + 1) ha hb hc (pre_le a (k + 1) ha.1 (by omega)) (by omega) (by omega)
def Div (q : Int) (is : Bool) (w : World) (e : Ending) (w' : World) : Prop := e = .returned (.tuple #[.int .u64 q, .bool is]) ∧ w = w'
theorem div_of {a c : Int} {x y : Bool} {w : World} (h : a = c) (l : x = y) : Div c y w (.returned (.tuple #[.int .u64 a, .bool x])) w := by subst h; subst l; exact ⟨rfl, rfl⟩
def DivI (a b c : Int) (w : World) (left : Nat) (t8 t9 t10 : Value) (wr : World) : Prop :=
  ∃ (k : Nat) (q r : Int), left + k = 64 ∧ t8 = .int .u64 q ∧ t9 = .int .u64 r ∧ t10 = .int .i64 (63 - (k : Int)) ∧ 0 ≤ q ∧ q ≤ 18446744073709551615 ∧ 0 ≤ r ∧ r < c ∧ Hid (Dv a b c k q r) ∧ wr = w
def DivJ (a b c : Int) (k : Nat) (w : World) (t8 t9 : Value) (wr : World) : Prop :=
  ∃ (q r : Int), t8 = .int .u64 q ∧ t9 = .int .u64 r ∧ 0 ≤ q ∧ q ≤ 18446744073709551615 ∧ 0 ≤ r ∧ r < c ∧ Hid ((2 * pre a k) * b = q * c + r) ∧ wr = w

set_option maxRecDepth 100000 in
set_option maxHeartbeats 2000000 in
theorem refDiv (a b c : Int) (w : World) (ha : U64 a) (hb : U64 b) (hc1 : 1 ≤ c) (hc2 : c ≤ 18446744073709551615) :
    Calls Try.prog 18 #[.int .u64 a, .int .u64 b, .int .u64 c] w (Div (quo a b c) (can a b c) w) := by
  have HA := Lib.hid ha
  have HB := Lib.hid hb
  unfold U64 at ha hb
  go_enter Try.func18, Try.ntmps18
  go_wp2
  go_loopg [8, 9, 10] 64 (fun left t8 t9 t10 wr => DivI a b c w left t8 t9 t10 wr)
  case atStart => exact ⟨0, 0, 0, rfl, rfl, rfl, rfl, by omega, by omega, by omega, by omega, Lib.hid (by unfold Dv; rw [pre_zero _ HA.out.1 HA.out.2]; simp), rfl⟩
  case round =>
    obtain ⟨k, q, r, hk, rfl, rfl, rfl, q0, q1, r0, r1, HD, rfl⟩ := hrel
    by_cases hlt : k < 64
    · have g1 : (0 : Int) ≤ 63 - (k : Int) := by omega
      by_cases hq : 9223372036854775807 < q
      · have K := Lib.hid (over_q HA.out HB.out hc1 hlt HD.out r0 hq)
        go_wp2
        go_ret2
        exact div_of (quo_out K.out).symm K.out.symm
      · by_cases h2 : c ≤ 2 * r
        · have hE : (2 * pre a k) * b = (2 * q + 1) * c + (2 * r - c) := (dv_two HD.out).2
          have hw : IntKind.u64.wrap (IntKind.u64.wrap (r + r) - c) = 2 * r - c := by simp only [IntKind.wrap_u64]; omega
          have d1 : c - r ≤ r := by omega
          go_upto_region 14 with fail
          have HE := Lib.hid hE
          have q2 : 0 ≤ 2 * q + 1 := by omega
          have q3 : 2 * q + 1 ≤ 18446744073709551615 := by omega
          have r2 : 0 ≤ 2 * r - c := by omega
          have r3 : 2 * r - c < c := by omega
          clear hE hw hq q0 q1 r0 r1 d1 h2 HD
          generalize 2 * q + 1 = q' at *
          generalize 2 * r - c = r' at *
          have T1 := Lib.hid (and_one a (63 - k) HA.out)
          have HX := Lib.hid (fun h => dv_none hlt HE.out h)
          have HY := Lib.hid (fun h => dv_one hlt HE.out h)
          clear HE
          obtain ⟨t, ht⟩ : ∃ t, a / 2 ^ (63 - k) = t := ⟨_, rfl⟩
          rw [ht] at T1 HX HY
          obtain ⟨m, hm⟩ : ∃ m, b / c = m := ⟨_, rfl⟩
          obtain ⟨s, hs⟩ : ∃ s, b % c = s := ⟨_, rfl⟩
          have m0 : 0 ≤ m := by rw [← hm]; exact Int.ediv_nonneg hb.1 (by omega)
          have s0 : 0 ≤ s := by rw [← hs]; exact Int.emod_nonneg _ (by omega)
          have s1 : s < c := by rw [← hs]; exact Int.emod_lt_of_pos _ (by omega)
          rw [hm, hs] at HY
          have c0 : (c == 0) = false := by simp; omega
          rcases (by omega : t % 2 = 0 ∨ t % 2 = 1) with hb' | hb'
          · have B := T1.out
            rw [hb'] at B
            have HF := Lib.hid (HX.out hb')
            clear T1 HX HY hb'
            go_wp2
            go_roundg (gk - 1)
            case measure => omega
            case rel => exact ⟨k + 1, q', r', by omega, rfl, rfl, by congr 1; omega, by omega, by omega, by omega, by omega, HF.out, rfl⟩
          · have B := T1.out
            rw [hb'] at B
            obtain ⟨E1, E2⟩ := HY.out hb'
            have H1 := Lib.hid E1
            have H2 := Lib.hid E2
            clear T1 HX HY hb' E1 E2
            by_cases hm' : 18446744073709551615 - q' < m
            · have K := Lib.hid (over_more HA.out HB.out hc1 hlt H1.out (by omega) hm')
              go_wp2
              go_ret2
              exact div_of (quo_out K.out).symm K.out.symm
            · by_cases hs' : c - r' ≤ s
              · by_cases hq' : q' + m = 18446744073709551615
                · have K := Lib.hid (over_last HA.out HB.out hc1 hlt H2.out (by omega) hq')
                  have hq2 : (q' + m == 18446744073709551615) = true := by simpa using hq'
                  go_wp2
                  go_ret2
                  exact div_of (quo_out K.out).symm K.out.symm
                · have hq2 : (q' + m == 18446744073709551615) = false := by simpa using hq'
                  go_wp2
                  go_roundg (gk - 1)
                  case measure => omega
                  case rel => exact ⟨k + 1, q' + m + 1, r' + s - c, by omega, rfl, by congr 1; omega, by congr 1; omega, by omega, by omega, by omega, by omega, H2.out, rfl⟩
              · go_wp2
                go_roundg (gk - 1)
                case measure => omega
                case rel => exact ⟨k + 1, q' + m, r' + s, by omega, rfl, rfl, by congr 1; omega, by omega, by omega, by omega, by omega, H1.out, rfl⟩
        · have hE : (2 * pre a k) * b = (2 * q) * c + (2 * r) := (dv_two HD.out).1
          have hw : r + r = 2 * r := by omega
          have d1 : ¬ c - r ≤ r := by omega
          have q2 : 0 ≤ 2 * q := by omega
          have q3 : 2 * q ≤ 18446744073709551615 := by omega
          have r2 : 0 ≤ 2 * r := by omega
          have r3 : 2 * r < c := by omega
          go_upto_region 14 with fail
          have HE := Lib.hid hE
          clear hE hw hq q0 q1 r0 r1 d1 h2 HD
          generalize 2 * q = q' at *
          generalize 2 * r = r' at *
          have T1 := Lib.hid (and_one a (63 - k) HA.out)
          have HX := Lib.hid (fun h => dv_none hlt HE.out h)
          have HY := Lib.hid (fun h => dv_one hlt HE.out h)
          clear HE
          obtain ⟨t, ht⟩ : ∃ t, a / 2 ^ (63 - k) = t := ⟨_, rfl⟩
          rw [ht] at T1 HX HY
          obtain ⟨m, hm⟩ : ∃ m, b / c = m := ⟨_, rfl⟩
          obtain ⟨s, hs⟩ : ∃ s, b % c = s := ⟨_, rfl⟩
          have m0 : 0 ≤ m := by rw [← hm]; exact Int.ediv_nonneg hb.1 (by omega)
          have s0 : 0 ≤ s := by rw [← hs]; exact Int.emod_nonneg _ (by omega)
          have s1 : s < c := by rw [← hs]; exact Int.emod_lt_of_pos _ (by omega)
          rw [hm, hs] at HY
          have c0 : (c == 0) = false := by simp; omega
          rcases (by omega : t % 2 = 0 ∨ t % 2 = 1) with hb' | hb'
          · have B := T1.out
            rw [hb'] at B
            have HF := Lib.hid (HX.out hb')
            clear T1 HX HY hb'
            go_wp2
            go_roundg (gk - 1)
            case measure => omega
            case rel => exact ⟨k + 1, q', r', by omega, rfl, rfl, by congr 1; omega, by omega, by omega, by omega, by omega, HF.out, rfl⟩
          · have B := T1.out
            rw [hb'] at B
            obtain ⟨E1, E2⟩ := HY.out hb'
            have H1 := Lib.hid E1
            have H2 := Lib.hid E2
            clear T1 HX HY hb' E1 E2
            by_cases hm' : 18446744073709551615 - q' < m
            · have K := Lib.hid (over_more HA.out HB.out hc1 hlt H1.out (by omega) hm')
              go_wp2
              go_ret2
              exact div_of (quo_out K.out).symm K.out.symm
            · by_cases hs' : c - r' ≤ s
              · by_cases hq' : q' + m = 18446744073709551615
                · have K := Lib.hid (over_last HA.out HB.out hc1 hlt H2.out (by omega) hq')
                  have hq2 : (q' + m == 18446744073709551615) = true := by simpa using hq'
                  go_wp2
                  go_ret2
                  exact div_of (quo_out K.out).symm K.out.symm
                · have hq2 : (q' + m == 18446744073709551615) = false := by simpa using hq'
                  go_wp2
                  go_roundg (gk - 1)
                  case measure => omega
                  case rel => exact ⟨k + 1, q' + m + 1, r' + s - c, by omega, rfl, by congr 1; omega, by congr 1; omega, by omega, by omega, by omega, by omega, H2.out, rfl⟩
              · go_wp2
                go_roundg (gk - 1)
                case measure => omega
                case rel => exact ⟨k + 1, q' + m, r' + s, by omega, rfl, rfl, by congr 1; omega, by omega, by omega, by omega, by omega, H1.out, rfl⟩
    · obtain rfl : k = 64 := by omega
      obtain ⟨e1, e2⟩ := dv_done hc1 HD.out r0 r1 q1
      have E := Lib.hid e1
      have E2 := Lib.hid e2
      clear e1 e2
      go_wp2
      go_ret2
      exact div_of E.out E2.out.symm
end Go.Proofs.Ytkegbagmgjlniaa.Share
