/- What math/bits.Div64 returns, where the upper word is below the divisor: quotient and rest of the whole. Conditions: words of 64 bits. -/
import Derived.Test.YtfbnnkmjnolnlaaRows
import Derived.Test.YtfbnnkmjnolnlaaWidePlain
import Derived.Test.YtfbnnkmjnolnlaaShelf
import Derived.WalkKit
import Derived.ProofKit
import Derived.OpenShut
import Derived.Handy
import Derived.IntWalk
import Derived.Lib.Hide
import Derived.LoopTactic
import Derived.RegionTactic
import Derived.ChangeAlike
import Derived.Deep.QuietTactic
import Derived.BigQuiet
import Derived.Deep.LoopGhost
import Derived.Deep.CutBlock
import Derived.Deep.DeepCutAuto
namespace Go.Proofs.Ytfbnnkmjnolnlaa.Wide
open Go.ChangeShapes Go.WideShapes Go.ChangeAt Go.RowKit
set_option linter.unusedVariables false

theorem lead (y s : Int) (w : World) (h0 : 0 ≤ y) (h1 : y ≤ 18446744073709551615) (hs : s = 64 - (Lib.bitLen y.toNat : Int)) :
    Calls Try.prog 44 #[.int .u64 y] w fun e w' => e = .returned (.int .i64 s) ∧ w = w' := by
  subst hs
  refine (Try.bits_LeadingZeros64 y w h0 h1).mono ?_
  rintro e w' ⟨rfl, rfl⟩; exact ⟨rfl, rfl⟩

theorem norm_int (h l y s : Int) (h1 : 0 ≤ h) (h2 : h < y) (h3 : y ≤ 18446744073709551615) (l0 : 0 ≤ l) (l1 : l ≤ 18446744073709551615) (hs : s = 64 - (Lib.bitLen y.toNat : Int)) :
    Half (h * 18446744073709551616 + l) y (2 ^ s.toNat) (IntKind.u64.wrap (y * 2 ^ s.toNat)) (IntKind.u64.wrap (y * 2 ^ s.toNat) / 4294967296) (bits BinOp.and IntKind.u64 (IntKind.u64.wrap (y * 2 ^ s.toNat)) 4294967295)
      (bits BinOp.or IntKind.u64 (IntKind.u64.wrap (h * 2 ^ s.toNat)) (l / 2 ^ (64 - s).toNat)) (IntKind.u64.wrap (l * 2 ^ s.toNat) / 4294967296) (bits BinOp.and IntKind.u64 (IntKind.u64.wrap (l * 2 ^ s.toNat)) 4294967295) := by
  obtain ⟨h, rfl⟩ := Int.eq_ofNat_of_zero_le h1
  obtain ⟨l, rfl⟩ := Int.eq_ofNat_of_zero_le l0
  obtain ⟨y, rfl⟩ := Int.eq_ofNat_of_zero_le (show 0 ≤ y by omega)
  rw [Int.toNat_natCast] at hs
  have b3 : Lib.bitLen y ≤ 64 := Lib.bitLen_le y 64 (by omega) (by omega)
  obtain ⟨k, hk⟩ : ∃ k : Nat, k = 64 - Lib.bitLen y := ⟨_, rfl⟩
  obtain rfl : s = (k : Int) := by omega
  obtain ⟨n1, n2, n3, n4, n5, n6, n7⟩ := norm h l y k (by omega) (by omega) (by omega) hk
  have e64 : ((64 : Int) - (k : Int)).toNat = 64 - k := by omega
  rw [Int.toNat_natCast, e64]
  have p0 : 0 < 2 ^ k := Nat.two_pow_pos k
  have ep : (2 : Int) ^ k = ((2 ^ k : Nat) : Int) := (pow_cast k).symm
  have eq : (2 : Int) ^ (64 - k) = ((2 ^ (64 - k) : Nat) : Int) := (pow_cast _).symm
  rw [ep, eq, ← Int.natCast_mul, ← Int.natCast_mul, ← Int.natCast_mul, Mul64.wrapN _ n2, Mul64.wrapN _ n4, Mul64.wrapM, Mul64.maskN _ n2, Mul64.maskN _ (by omega), ← Int.natCast_ediv, bits_or_u64_nat _ _ n4 (by omega), n5]
  generalize 2 ^ k = p at *
  generalize l / 2 ^ (64 - k) = g at *
  have n7' : (((h * 18446744073709551616 + l) * p : Nat) : Int) = (((h * p + g) * 18446744073709551616 + l * p % 18446744073709551616 : Nat) : Int) := by rw [n7]
  rw [Int.natCast_mul (h * 18446744073709551616 + l)] at n7'
  generalize l * p = lp at *
  generalize hyp : y * p = yp at *
  generalize h * p = hp at *
  refine ⟨?_, by omega, by omega, by omega, by omega, by omega, by omega, by omega, by omega, by omega, by omega, by omega, by omega, by omega, ?_⟩
  · rw [← hyp]; exact Int.natCast_mul _ _
  · have : ((h * 18446744073709551616 + l : Nat) : Int) = (h : Int) * 18446744073709551616 + (l : Int) := by omega
    rw [← this, n7']
    clear n7 n7' this hs hk h2 h3 l1 ep eq
    omega

theorem wrapU (n : Int) (h0 : 0 ≤ n) (h1 : n ≤ 18446744073709551615) : IntKind.u64.wrap n = n := by rw [IntKind.wrap_u64]; omega
theorem first_rest (u n1 : Int) (h : 1 ≤ n1) (c1 : 0 ≤ u) (c2 : u ≤ 18446744073709551615) (c3 : 0 ≤ u - u / n1 * n1) :
    Value.int .u64 (IntKind.u64.wrap (u - IntKind.u64.wrap (u / n1 * n1))) = Value.int .u64 (u - u / n1 * n1) := by
  have k1 : 0 ≤ u / n1 * n1 := Int.mul_nonneg (Int.ediv_nonneg c1 (by omega)) (by omega)
  rw [wrapU (u / n1 * n1) k1 (by omega), wrapU _ c3 (by omega)]
theorem rest_word (Y u v q : Int) (hq : q = (u * 4294967296 + v) / Y) (hY : 0 < Y) (h : Y ≤ 18446744073709551615) :
    Value.int .u64 (IntKind.u64.wrap (IntKind.u64.wrap (IntKind.u64.wrap (u * 4294967296) + v) - IntKind.u64.wrap (q * Y))) = Value.int .u64 ((u * 4294967296 + v) % Y) := by
  have e := Int.emod_add_mul_ediv (u * 4294967296 + v) Y
  have k1 := Int.emod_nonneg (u * 4294967296 + v) (b := Y) (by omega)
  have k2 := Int.emod_lt_of_pos (u * 4294967296 + v) hY
  rw [← hq, Int.mul_comm Y q] at e
  simp only [IntKind.wrap_u64]
  congr 1
  generalize q * Y = z at *
  omega

theorem div_end (N y p Y n1 n0 u u1 u0 q q0 v : Int) (H : Half N y p Y n1 n0 u u1 u0) (hq : q = (u * 4294967296 + u1) / Y) (hv : v = (u * 4294967296 + u1) % Y) (hq0 : q0 = (v * 4294967296 + u0) / Y) (h : Y ≤ 18446744073709551615) :
    q * 4294967296 + q0 = N / y ∧ IntKind.u64.wrap (IntKind.u64.wrap (IntKind.u64.wrap (v * 4294967296) + u0) - IntKind.u64.wrap (q0 * Y)) / p = N % y := by
  have hY : 0 < Y := by have := H.a1; have := H.hn; have := H.b1; omega
  obtain ⟨z1, z2⟩ := half_whole N y p Y n1 n0 u u1 u0 H
  have z3 := rest_word Y v u0 q0 hq0 hY h
  rw [Value.int.injEq] at z3
  rw [← hq, ← hv, ← hq0] at z1
  rw [← hv] at z2
  refine ⟨z1, ?_⟩
  rw [z3.2, z2, Int.mul_ediv_cancel _ (by have := H.hp; omega)]

def Normed (N y p : Int) (w : World) (t2 t9 t10 t11 t13 t14 : Value) (wx : World) : Prop :=
  ∃ Y n1 n0 u u1 u0 : Int, Half N y p Y n1 n0 u u1 u0 ∧ t2 = .int .u64 Y ∧ t9 = .int .u64 n1 ∧ t10 = .int .u64 n0 ∧ t11 = .int .u64 u ∧ t13 = .int .u64 u1 ∧ t14 = .int .u64 u0 ∧ w = wx

/-- A guess of a half's quotient; and the quotient. -/
def Guess (Y n1 n0 u v : Int) (w : World) (k : Nat) (t15 t16 : Value) (wx : World) : Prop :=
  ∃ q r : Int, q * n1 + r = u ∧ (u * 4294967296 + v) / Y ≤ q ∧ q ≤ 4294967297 ∧ 0 ≤ r ∧ r < 4294967296 ∧ k = (4294967296 - r).toNat ∧ t15 = .int .u64 q ∧ t16 = .int .u64 r ∧ w = wx
def Guessed (Y u v : Int) (w : World) (t15 t16 : Value) (wx : World) : Prop :=
  ∃ q r : Int, q = (u * 4294967296 + v) / Y ∧ t15 = .int .u64 q ∧ t16 = .int .u64 r ∧ w = wx

def Rested (Y u v : Int) (w : World) (t17 : Value) (wx : World) : Prop := ∃ r : Int, r = (u * 4294967296 + v) % Y ∧ t17 = .int .u64 r ∧ w = wx

def Pair (a b : Int) (w : World) (e : Ending) (w' : World) : Prop := e = .returned (.tuple #[.int .u64 a, .int .u64 b]) ∧ w = w'
def PairFresh (a b : Int) (w : World) (e : Ending) (w' : World) : Prop := e = .returned (.tuple #[.int .u64 a, .int .u64 b]) ∧ Below w.heap.size w w'
theorem pair_of {a b c d : Int} {w : World} (h : a = c) (k : b = d) : Pair c d w (.returned (.tuple #[.int .u64 a, .int .u64 b])) w := by subst h; subst k; exact ⟨rfl, rfl⟩

set_option maxRecDepth 100000 in
theorem div64 (h l y s : Int) (w : World) (h1 : 1 ≤ h) (h2 : h < y) (h3 : y ≤ 18446744073709551615) (l0 : 0 ≤ l) (l1 : l ≤ 18446744073709551615) (HS : Hid (s = 64 - (Lib.bitLen y.toNat : Int))) (s0 : 0 ≤ s) (s1 : s ≤ 63) :
    Calls Try.prog 36 #[.int .u64 h, .int .u64 l, .int .u64 y] w (Pair ((h * 18446744073709551616 + l) / y) ((h * 18446744073709551616 + l) % y) w) := by
  have y0 : (y == 0) = false := by simp; omega
  have e0 : (h == 0) = false := by simp; omega
  go_enter Try.func36, Try.ntmps36
  go_upto_region 14 with (go_at_call 44; refine (lead y s _ (by omega) h3 HS.out).mono ?_; rintro e w' ⟨rfl, rfl⟩)
  go_cut [2, 9, 10, 11, 13, 14] (fun t2 t9 t10 t11 t13 t14 wx => Normed (h * 18446744073709551616 + l) y (2 ^ s.toNat) w t2 t9 t10 t11 t13 t14 wx)
  case first =>
    go_wp2
    go_meet
    exact ⟨_, _, _, _, _, _, norm_int h l y s (by omega) h2 h3 l0 l1 HS.out, rfl, rfl, rfl, rfl, rfl, rfl, rfl⟩
  case rest =>
    obtain ⟨Y, n1, n0, u, u1, u0, H, rfl, rfl, rfl, rfl, rfl, rfl, rfl⟩ := hcut
    have a1 := H.a1; have a2 := H.a2; have b1 := H.b1; have b2 := H.b2; have c1 := H.c1; have c2 := H.c2; have d1 := H.d1; have d2 := H.d2; have e1 := H.e1; have e2 := H.e2
    have hyy : Y ≤ 18446744073709551615 := by have := H.hn; omega
    obtain ⟨g1, g2, g3, g4, g5⟩ := guess_first Y n1 n0 u H.hn a1 b2 c1 c2
    have nz : (n1 == 0) = false := by simp; omega
    have G3 := Lib.hid g3
    clear g3
    go_upto_block 0 with fail
    go_cut [15, 16] (fun t15 t16 wx => Guessed Y u u1 w t15 t16 wx)
    case first =>
      go_wp2_with fail
      go_loopg [15, 16] (4294967296 - (u - u / n1 * n1)).toNat (fun k t15 t16 wx => Guess Y n1 n0 u u1 w k t15 t16 wx)
      case atStart => exact ⟨_, _, G3.out, guess_start Y n1 n0 u u1 H.hn a1 b1 b2 c1 c2 d2, g2, g4, by omega, rfl, rfl, first_rest u n1 (by omega) c1 (by omega) (by omega), rfl⟩
      case round =>
        obtain ⟨q, r, k1, k2, k3, k4, k5, rfl, rfl, rfl, rfl⟩ := hrel
        have K1 := Lib.hid k1
        have q0 : 0 ≤ q := Int.le_trans (quot_pos Y u u1 (by omega) c1 d1) k2
        have K2 := Lib.hid k2
        clear k1 k2 g1 g2 g4 g5 G3
        by_cases hq : 4294967296 ≤ q
        · have K3 := Lib.hid (guess_more Y n1 n0 u u1 q r H.hn a1 b1 c2 d2 K1.out (Or.inl hq))
          by_cases hb : 4294967296 ≤ r + n1
          · go_wp2_with fail
            go_meet
            exact ⟨_, _, guess_stop Y n1 n0 u u1 q r H.hn a1 b1 b2 d1 K1.out (by omega) (by omega) hb K3.out, rfl, rfl, rfl⟩
          · go_wp2_with fail
            go_roundg (4294967296 - (r + n1)).toNat
            case measure => omega
            case rel => exact ⟨_, _, guess_step u n1 q r K1.out, K3.out, by omega, by omega, by omega, rfl, rfl, rfl, rfl⟩
        · have hx0 : 0 ≤ q * n0 := Int.mul_nonneg q0 b1
          have hx1 : q * n0 ≤ 18446744065119617025 := by have := Int.mul_le_mul (show q ≤ 4294967295 by omega) b2 b1 (by omega); omega
          by_cases hx : 4294967296 * r + u1 < q * n0
          · have K3 := Lib.hid (guess_more Y n1 n0 u u1 q r H.hn a1 b1 c2 d2 K1.out (Or.inr hx))
            have q1 : 1 ≤ q := by have := K3.out; have := quot_pos Y u u1 (by omega) c1 d1; omega
            by_cases hb : 4294967296 ≤ r + n1
            · go_wp2_with fail
              go_meet
              exact ⟨_, _, guess_stop Y n1 n0 u u1 q r H.hn a1 b1 b2 d1 K1.out (by omega) (by omega) hb K3.out, rfl, rfl, rfl⟩
            · go_wp2_with fail
              go_roundg (4294967296 - (r + n1)).toNat
              case measure => omega
              case rel => exact ⟨_, _, guess_step u n1 q r K1.out, K3.out, by omega, by omega, by omega, rfl, rfl, rfl, rfl⟩
          · have hz := guess_less Y n1 n0 u u1 q r H.hn a1 b1 K1.out (by omega)
            have K3 := Lib.hid hz
            clear hz
            go_wp2_with fail
            go_meet
            exact ⟨_, _, Int.le_antisymm K3.out K2.out, rfl, rfl, rfl⟩
    case rest =>
      obtain ⟨q, r, hq, rfl, rfl, rfl⟩ := hcut
      have v1 : 0 ≤ (u * 4294967296 + u1) % Y := Int.emod_nonneg _ (by omega)
      have v2 : (u * 4294967296 + u1) % Y < Y := Int.emod_lt_of_pos _ (by omega)
      have p1 : 0 ≤ q := by rw [hq]; exact quot_pos Y u u1 (by omega) c1 d1
      have p2 : q ≤ 4294967295 := by rw [hq]; exact quot_top Y u u1 (by omega) c2 d2
      have HQ := Lib.hid hq
      clear hq g1 g2 g4 g5 G3
      go_upto_region 21 with fail
      go_cut [17] (fun t17 wx => Rested Y u u1 w t17 wx)
      case first =>
        go_wp2_with fail
        go_meet
        exact ⟨_, rfl, rest_word Y u u1 q HQ.out (by omega) hyy, rfl⟩
      case rest =>
        obtain ⟨v, hv, rfl, rfl⟩ := hcut
        rw [← hv] at v1 v2
        have HV := Lib.hid hv
        clear hv
        clear c1 c2 d1 d2
        have c1 := v1; have c2 := v2; have d1 := e1; have d2 := e2
        obtain ⟨g1, g2, g3, g4, g5⟩ := guess_first Y n1 n0 v H.hn a1 b2 c1 c2
        have G3 := Lib.hid g3
        clear g3
        go_upto_block 2 with fail
        go_cut [18, 16] (fun t15 t16 wx => Guessed Y v u0 w t15 t16 wx)
        case first =>
          go_wp2_with fail
          go_loopg [18, 16] (4294967296 - (v - v / n1 * n1)).toNat (fun k t15 t16 wx => Guess Y n1 n0 v u0 w k t15 t16 wx)
          case atStart => exact ⟨_, _, G3.out, guess_start Y n1 n0 v u0 H.hn a1 b1 b2 c1 c2 d2, g2, g4, by omega, rfl, rfl, first_rest v n1 (by omega) c1 (by omega) (by omega), rfl⟩
          case round =>
            obtain ⟨q, r, k1, k2, k3, k4, k5, rfl, rfl, rfl, rfl⟩ := hrel
            have K1 := Lib.hid k1
            have q0 : 0 ≤ q := Int.le_trans (quot_pos Y v u0 (by omega) c1 d1) k2
            have K2 := Lib.hid k2
            clear k1 k2 g1 g2 g4 g5 G3
            by_cases hq : 4294967296 ≤ q
            · have K3 := Lib.hid (guess_more Y n1 n0 v u0 q r H.hn a1 b1 c2 d2 K1.out (Or.inl hq))
              by_cases hb : 4294967296 ≤ r + n1
              · go_wp2_with fail
                go_meet
                exact ⟨_, _, guess_stop Y n1 n0 v u0 q r H.hn a1 b1 b2 d1 K1.out (by omega) (by omega) hb K3.out, rfl, rfl, rfl⟩
              · go_wp2_with fail
                go_roundg (4294967296 - (r + n1)).toNat
                case measure => omega
                case rel => exact ⟨_, _, guess_step v n1 q r K1.out, K3.out, by omega, by omega, by omega, rfl, rfl, rfl, rfl⟩
            · have hx0 : 0 ≤ q * n0 := Int.mul_nonneg q0 b1
              have hx1 : q * n0 ≤ 18446744065119617025 := by have := Int.mul_le_mul (show q ≤ 4294967295 by omega) b2 b1 (by omega); omega
              by_cases hx : 4294967296 * r + u0 < q * n0
              · have K3 := Lib.hid (guess_more Y n1 n0 v u0 q r H.hn a1 b1 c2 d2 K1.out (Or.inr hx))
                have q1 : 1 ≤ q := by have := K3.out; have := quot_pos Y v u0 (by omega) c1 d1; omega
                by_cases hb : 4294967296 ≤ r + n1
                · go_wp2_with fail
                  go_meet
                  exact ⟨_, _, guess_stop Y n1 n0 v u0 q r H.hn a1 b1 b2 d1 K1.out (by omega) (by omega) hb K3.out, rfl, rfl, rfl⟩
                · go_wp2_with fail
                  go_roundg (4294967296 - (r + n1)).toNat
                  case measure => omega
                  case rel => exact ⟨_, _, guess_step v n1 q r K1.out, K3.out, by omega, by omega, by omega, rfl, rfl, rfl, rfl⟩
              · have hz := guess_less Y n1 n0 v u0 q r H.hn a1 b1 K1.out (by omega)
                have K3 := Lib.hid hz
                clear hz
                go_wp2_with fail
                go_meet
                exact ⟨_, _, Int.le_antisymm K3.out K2.out, rfl, rfl, rfl⟩
        case rest =>
          obtain ⟨q0, r0, hq0, rfl, rfl, rfl⟩ := hcut
          have p3 : 0 ≤ q0 := by rw [hq0]; exact quot_pos Y v u0 (by omega) c1 d1
          have p4 : q0 ≤ 4294967295 := by rw [hq0]; exact quot_top Y v u0 (by omega) c2 d2
          have HQ0 := Lib.hid hq0
          clear hq0 g1 g2 g4 g5 G3
          go_wp2_with fail
          go_ret2
          obtain ⟨z1, z2⟩ := div_end _ y _ Y n1 n0 u u1 u0 q q0 v H HQ.out HV.out HQ0.out hyy
          exact pair_of z1 z2

set_option maxRecDepth 100000 in
theorem div64_low (l y : Int) (w : World) (h2 : 1 ≤ y) (h3 : y ≤ 18446744073709551615) (l0 : 0 ≤ l) (l1 : l ≤ 18446744073709551615) :
    Calls Try.prog 36 #[.int .u64 0, .int .u64 l, .int .u64 y] w (PairFresh (l / y) (l % y) w) := by
  have y0 : (y == 0) = false := by simp; omega
  go_enter Try.func36, Try.ntmps36
  go_wp2
  go_quiet (fail)
  go_wp2
  go_ret2
  exact ⟨rfl, ⟨rfl, rfl, rfl, Nat.le_refl _, fun _ _ => rfl⟩⟩

theorem div64_any (h l y : Int) (w : World) (h1 : 0 ≤ h) (h2 : h < y) (h3 : y ≤ 18446744073709551615) (l0 : 0 ≤ l) (l1 : l ≤ 18446744073709551615) :
    Calls Try.prog 36 #[.int .u64 h, .int .u64 l, .int .u64 y] w (PairFresh ((h * 18446744073709551616 + l) / y) ((h * 18446744073709551616 + l) % y) w) := by
  by_cases h0 : h = 0
  · subst h0
    have := div64_low l y w (by omega) h3 l0 l1
    rwa [Int.zero_mul, Int.zero_add]
  · have b3 : Lib.bitLen y.toNat ≤ 64 := Lib.bitLen_le y.toNat 64 (by omega) (by omega)
    have b4 : 1 ≤ Lib.bitLen y.toNat := (Lib.bitLenAux_bounds 64 y.toNat (by omega) (by omega)).1
    refine (div64 h l y _ w (by omega) h2 h3 l0 l1 (Lib.hid rfl) (by omega) (by omega)).mono ?_
    rintro e w' ⟨rfl, rfl⟩; exact ⟨rfl, Below.refl _ w⟩
end Go.Proofs.Ytfbnnkmjnolnlaa.Wide
