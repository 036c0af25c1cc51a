/- What each call of the document's own answers for package renorm returns. Conditions: each argument is a number of its kind. -/
import Derived.Test.YtfpabmhmliakkaaRenormCalls
import Derived.Test.YtfpabmhmliakkaaFixDoc
namespace Go.Proofs.Ytfpabmhmliakkaa.Renorm
open Go.ChangeShapes Go.WideShapes Go.ChangeAt Go.RowKit Fix
set_option linter.unusedVariables false
set_option linter.unusedSimpArgs false

theorem refOff (a b : Int) (w : World) (ha : I64 a) (hb : I64 b) :
    Calls Try.prog 11 #[.int .i64 a, .int .i64 b] w (Two (off a b) (offO a b) w) := by
  have m1 := Lib.hid (fun w => refLess a b w ha hb)
  have m2 := Lib.hid (fun w => refSub a b w ha hb)
  unfold off offO
  generalize ends (a - b) = x at *
  generalize only (a - b) = y at *
  generalize fits (a - b) = is at *
  go_enter Try.func11, Try.ntmps11
  go_wp2_with (first
    | (go_at_call 22; refine (m2.out _).mono ?_; rintro e w1 ⟨rfl, rfl⟩)
    | (go_at_call 23; refine (m1.out _).mono ?_; rintro e w1 ⟨rfl, rfl⟩))
  go_ret2; exact ⟨rfl, rfl⟩
theorem refOn (a b : Int) (w : World) (ha : I64 a) (hb : I64 b) :
    Calls Try.prog 13 #[.int .i64 a, .int .i64 b] w (Two (on a b) (onO a b) w) := by
  have m1 := Lib.hid (fun w => refSat a b w ha hb)
  have m2 := Lib.hid (fun w => refAdd a b w ha hb)
  unfold on onO
  generalize ends (a + b) = x at *
  generalize only (a + b) = y at *
  generalize fits (a + b) = is at *
  go_enter Try.func13, Try.ntmps13
  go_wp2_with (first
    | (go_at_call 25; refine (m2.out _).mono ?_; rintro e w1 ⟨rfl, rfl⟩)
    | (go_at_call 26; refine (m1.out _).mono ?_; rintro e w1 ⟨rfl, rfl⟩))
  go_ret2; exact ⟨rfl, rfl⟩
theorem refMove (v f t : Int) (w : World) (hv : I64 v) (hf : I64 f) (ht : I64 t) :
    Calls Try.prog 15 #[.int .i64 v, .int .i64 f, .int .i64 t] w (Two (move v f t) (moveO v f t) w) := by
  have m1 := Lib.hid (fun w => refOff v f w hv hf)
  have m2 := Lib.hid (fun w => refOn (off v f) t w (i64_ends _) ht)
  unfold move moveO
  generalize on (off v f) t = x at *
  generalize onO (off v f) t = y at *
  generalize off v f = o at *
  generalize offO v f = p at *
  cases p
  all_goals
    go_enter Try.func15, Try.ntmps15
    go_wp2_with (first
      | (go_at_call 11; refine (m1.out _).mono ?_; rintro e w1 ⟨rfl, rfl⟩)
      | (go_at_call 13; refine (m2.out _).mono ?_; rintro e w1 ⟨rfl, rfl⟩))
    go_ret2; exact ⟨rfl, rfl⟩
theorem refWake (o m c : Int) (w : World) (hm : I64 m) (hc : I64 c) :
    Calls Try.prog 17 #[.int .i64 o, .int .i64 m, .int .i64 c] w (One (wake o m c) w) := by
  have m1 := Lib.hid (fun w => refHold c 0 1099511627776 w)
  have m2 := Lib.hid (fun w => refLess m (hold c 0 1099511627776) w hm (i64_hold hc (by unfold I64; omega) (by unfold I64; omega)))
  unfold wake
  generalize ends (m - hold c 0 1099511627776) = x at *
  generalize hold c 0 1099511627776 = y at *
  by_cases h : x < o
  all_goals
    go_enter Try.func17, Try.ntmps17
    go_wp2_with (first
      | (go_at_call 28; refine (m1.out _).mono ?_; rintro e w1 ⟨rfl, rfl⟩)
      | (go_at_call 23; refine (m2.out _).mono ?_; rintro e w1 ⟨rfl, rfl⟩))
    go_ret; exact one_of (by omega)

def DocI (len : Nat) (z : Nat → Int) (w : World) (t0 t1 : Value) (wr : World) : Prop := ∃ k : Nat, k < len ∧ t0 = .int .i64 (lst z k) ∧ t1 = .int .i64 ((k : Int) + 1) ∧ wr = w
theorem refHigher (m : Int) (v : Option Addr) (len cap : Nat) (z : Nat → Int) (w : World) (hlen : len ≤ 9223372036854775807) (HC : Hid (Lies v len z w)) :
    Calls Try.prog 19 #[.int .i64 m, .slice v len cap] w (One (hi m z len) w) := by
  by_cases h0 : len = 0
  · subst h0
    rw [hi_none]
    go_enter Try.func19, Try.ntmps19
    go_wp2
    go_ret; exact ⟨rfl, rfl⟩
  rw [show hi m z len = max m (lst z (len - 1)) from if_neg h0]
  obtain ⟨b, o, rfl, hb, hc⟩ := HC.out 0 (by omega)
  rw [Nat.add_zero] at hc
  have h1 : ((len : Int) == 0) = false := by simpa using h0
  have h2 : (0 : Int) < len := by omega
  go_enter Try.func19, Try.ntmps19
  go_wp2
  go_loopw [5, 6] (fun t0 t1 wr => DocI len z w t0 t1 wr) (fun _ i _ => len - (intOf i).toNat)
  case atStart => exact ⟨0, by omega, rfl, rfl, rfl⟩
  case round =>
    clear hc
    obtain ⟨k, hk, rfl, rfl, rfl⟩ := hrel
    by_cases hlt : k + 1 < len
    · obtain ⟨b', o', e, _, hc⟩ := HC.out (k + 1) hlt
      cases e
      have h3 : (k : Int) + 1 < len := by omega
      by_cases h4 : z (k + 1) < lst z k
      · go_wp2
        go_roundw
        case rel => exact ⟨k + 1, hlt, by rw [lst]; congr 1; omega, by go_num, rfl⟩
        case measure => simp [intOf]; omega
      · go_wp2
        go_roundw
        case rel => exact ⟨k + 1, hlt, by rw [lst]; congr 1; omega, by go_num, rfl⟩
        case measure => simp [intOf]; omega
    · have h3 : ¬ (k : Int) + 1 < len := by omega
      have hx : lst z (len - 1) = lst z k := by rw [show len - 1 = k by omega]
      generalize lst z (len - 1) = y at *
      generalize lst z k = x at *
      subst hx
      by_cases h4 : m < y
      · go_wp2
        go_ret
        exact one_of (by omega)
      · go_wp2
        go_ret
        exact one_of (by omega)
end Go.Proofs.Ytfpabmhmliakkaa.Renorm
