/- What nice.power returns, at both bases, up to 20 times; and the document's answers for a nice number's weight and for the nearest one. Conditions: each argument is a number of its kind. -/
import Derived.Test.YteogjojakocbnaaRows
import Derived.Test.YteogjojakocbnaaNicePlain
import Derived.WalkKit
import Derived.ProofKit
import Derived.OpenShut
import Derived.Handy
import Derived.IntWalk
import Derived.Lib.Hide
import Derived.LoopTactic
import Derived.RegionTactic
import Derived.ChangeAlike
import Derived.Deep.QuietTactic
import Derived.BigQuiet
import Derived.Deep.LoopGhost
import Derived.Deep.CutBlock
import Derived.Deep.DeepCutAuto
namespace Go.Proofs.Yteogjojakocbnaa.Nice
open Go.ChangeShapes Go.WideShapes Go.ChangeAt Go.RowKit
set_option linter.unusedVariables false

def Word (n : Int) (w : World) (e : Ending) (w' : World) : Prop := e = .returned (.int .u64 n) ∧ w = w'
def Num (n : Int) (w : World) (e : Ending) (w' : World) : Prop := e = .returned (.int .i64 n) ∧ w = w'
def WordErr (n k : Int) (w : World) (e : Ending) (w' : World) : Prop := e = .returned (.tuple #[.int .u64 n, .int .i64 k]) ∧ w = w'
theorem word_of {a b : Int} {w : World} (h : a = b) : Word b w (.returned (.int .u64 a)) w := by subst h; exact ⟨rfl, rfl⟩
theorem num_of {a b : Int} {w : World} (h : a = b) : Num b w (.returned (.int .i64 a)) w := by subst h; exact ⟨rfl, rfl⟩
theorem worderr_of {a b c d : Int} {w : World} (h : a = c) (k : b = d) : WordErr c d w (.returned (.tuple #[.int .u64 a, .int .i64 b])) w := by subst h; subst k; exact ⟨rfl, rfl⟩

/-- After k rounds: b to the power of k. -/
def Pow (b : Int) (t : Nat) (t5 t7 : Value) : Prop := ∃ (k : Nat) (p : Int), k ≤ t ∧ p = b ^ k ∧ t5 = .int .u64 p ∧ t7 = .int .i64 k

theorem power4 (t : Int) (w : World) (h0 : 0 ≤ t) (h1 : t ≤ 20) :
    Calls Try.prog 21 #[.int .u64 4, .int .i64 t] w (Word (4 ^ t.toNat) w) := by
  go_enter Try.func21, Try.ntmps21
  go_wp2
  go_loop [5, 7] (fun t5 t7 => Pow 4 t.toNat t5 t7) (fun _ i => t.toNat - (intOf i).toNat)
  case atStart => exact ⟨0, 1, by omega, rfl, rfl, rfl⟩
  case round =>
    obtain ⟨k, p, hk, hp, rfl, rfl⟩ := hrel
    have hb := pow4 k (by omega)
    rw [← hp] at hb
    have HP := Lib.hid hp
    clear hp
    by_cases hlt : (k : Int) < t
    · go_wp2
      go_round
      case rel => exact ⟨k + 1, p * 4, by omega, by rw [HP.out]; exact pow_step 4 k, by go_num, by go_num⟩
      case measure => simp [intOf]; omega
    · go_wp2
      go_ret
      refine word_of ?_
      rw [HP.out, show t.toNat = k from by omega]
theorem power5 (t : Int) (w : World) (h0 : 0 ≤ t) (h1 : t ≤ 20) :
    Calls Try.prog 21 #[.int .u64 5, .int .i64 t] w (Word (5 ^ t.toNat) w) := by
  go_enter Try.func21, Try.ntmps21
  go_wp2
  go_loop [5, 7] (fun t5 t7 => Pow 5 t.toNat t5 t7) (fun _ i => t.toNat - (intOf i).toNat)
  case atStart => exact ⟨0, 1, by omega, rfl, rfl, rfl⟩
  case round =>
    obtain ⟨k, p, hk, hp, rfl, rfl⟩ := hrel
    have hb := pow5 k (by omega)
    rw [← hp] at hb
    have HP := Lib.hid hp
    clear hp
    by_cases hlt : (k : Int) < t
    · go_wp2
      go_round
      case rel => exact ⟨k + 1, p * 5, by omega, by rw [HP.out]; exact pow_step 5 k, by go_num, by go_num⟩
      case measure => simp [intOf]; omega
    · go_wp2
      go_ret
      refine word_of ?_
      rw [HP.out, show t.toNat = k from by omega]

/-- The document's weight: after k rounds up, and after k rounds down. -/
def Up (t : Int) (t4 t5 t6 : Value) : Prop := ∃ (k : Nat) (p q : Int), (k : Int) ≤ t ∧ p = 4 ^ k ∧ q = 5 ^ k ∧ t4 = .int .u64 (1024 * p) ∧ t5 = .int .u64 q ∧ t6 = .int .i64 k
def Down (t : Int) (t4 t5 t7 : Value) : Prop := ∃ (k : Nat) (p q : Int), t ≤ -(k : Int) ∧ p = 5 ^ k ∧ q = 4 ^ k ∧ t4 = .int .u64 (1024 * p) ∧ t5 = .int .u64 q ∧ t7 = .int .i64 (-(k : Int))

theorem refOut (n : Int) (w : World) (h : n < -20 ∨ 19 < n) :
    Calls Try.prog 12 #[.int .i64 n] w (WordErr (wt n) (er n) w) := by
  have m := may_out h
  have e1 := Lib.hid (wt_out m)
  have e2 := Lib.hid (er_out m)
  clear m
  by_cases h1 : n < -20
  · go_enter Try.func12, Try.ntmps12
    go_wp2
    go_ret2
    exact worderr_of e1.out.symm e2.out.symm
  · have h2 : 19 < n := by omega
    go_enter Try.func12, Try.ntmps12
    go_wp2
    go_ret2
    exact worderr_of e1.out.symm e2.out.symm

theorem refUp (n : Int) (w : World) (h1 : 0 ≤ n) (h2 : n ≤ 19) :
    Calls Try.prog 12 #[.int .i64 n] w (WordErr (wt n) (er n) w) := by
  have m := may_in (show -20 ≤ n by omega) h2
  have e1 := Lib.hid (wt_in m)
  have e2 := Lib.hid (er_in m)
  clear m
  go_enter Try.func12, Try.ntmps12
  go_wp2
  go_loop [4, 5, 6] (fun t4 t5 t6 => Up n t4 t5 t6) (fun _ _ i => n.toNat - (intOf i).toNat)
  case atStart => exact ⟨0, 1, 1, by omega, rfl, rfl, rfl, rfl, rfl⟩
  case round =>
    obtain ⟨k, p, q, hk, hp, hq, rfl, rfl, rfl⟩ := hrel
    have hb := pow4 k (by omega)
    have hc := pow5 k (by omega)
    rw [← hp] at hb
    rw [← hq] at hc
    have HP := Lib.hid hp
    have HQ := Lib.hid hq
    clear hp hq
    by_cases hlt : (k : Int) < n
    · go_wp2
      go_round
      case rel => exact ⟨k + 1, p * 4, q * 5, by omega, by rw [HP.out]; exact pow_step 4 k, by rw [HQ.out]; exact pow_step 5 k, by go_num, by go_num, by go_num⟩
      case measure => simp [intOf]; omega
    · have hn := Lib.hid (show n.toNat = k by omega)
      have q0 : (q == 0) = false := by simp; omega
      go_wp2
      go_loop [4, 5, 7] (fun t4 t5 t7 => t4 = .int .u64 (1024 * p) ∧ t5 = .int .u64 q ∧ t7 = .int .i64 0) (fun _ _ _ => 0)
      case atStart => exact ⟨rfl, rfl, rfl⟩
      case round =>
        obtain ⟨rfl, rfl, rfl⟩ := hrel
        go_wp2
        go_ret2
        refine worderr_of ?_ e2.out.symm
        rw [e1.out, wgt_up n h1, HP.out, HQ.out, hn.out]

theorem refDown (n : Int) (w : World) (h1 : -20 ≤ n) (h2 : n < 0) :
    Calls Try.prog 12 #[.int .i64 n] w (WordErr (wt n) (er n) w) := by
  have m := may_in h1 (show n ≤ 19 by omega)
  have e1 := Lib.hid (wt_in m)
  have e2 := Lib.hid (er_in m)
  clear m
  go_enter Try.func12, Try.ntmps12
  go_wp2
  go_loop [4, 5, 6] (fun t4 t5 t6 => t4 = .int .u64 1024 ∧ t5 = .int .u64 1 ∧ t6 = .int .i64 0) (fun _ _ _ => 0)
  case atStart => exact ⟨rfl, rfl, rfl⟩
  case round =>
    obtain ⟨rfl, rfl, rfl⟩ := hrel
    have h3 : ¬ 0 < n := by omega
    go_wp2
    go_loop [4, 5, 7] (fun t4 t5 t7 => Down n t4 t5 t7) (fun _ _ i => ((intOf i) - n).toNat)
    case atStart => exact ⟨0, 1, 1, by omega, rfl, rfl, rfl, rfl, rfl⟩
    case round =>
      obtain ⟨k, p, q, hk, hp, hq, rfl, rfl, rfl⟩ := hrel
      have hb := pow5 k (by omega)
      have hc := pow4 k (by omega)
      rw [← hp] at hb
      rw [← hq] at hc
      have HP := Lib.hid hp
      have HQ := Lib.hid hq
      clear hp hq
      by_cases hlt : n < -(k : Int)
      · go_wp2
        go_round
        case rel => exact ⟨k + 1, p * 5, q * 4, by omega, by rw [HP.out]; exact pow_step 5 k, by rw [HQ.out]; exact pow_step 4 k, by go_num, by go_num, by go_num⟩
        case measure => simp [intOf]; omega
      · have hn := Lib.hid (show (-n).toNat = k by omega)
        have q0 : (q == 0) = false := by simp; omega
        go_wp2
        go_ret2
        refine worderr_of ?_ e2.out.symm
        rw [e1.out, wgt_down n h2, HP.out, HQ.out, hn.out]

/-- The document's weight of any number. -/
theorem refWeight (n : Int) (w : World) :
    Calls Try.prog 12 #[.int .i64 n] w (WordErr (wt n) (er n) w) := by
  by_cases h1 : n < -20 ∨ 19 < n
  · exact refOut n w h1
  · by_cases h2 : n < 0
    · exact refDown n w (by omega) h2
    · exact refUp n w (by omega) (by omega)

/-- The document's nearest nice number: those above have been too light. -/
def Near (x : Int) (w : World) (t3 : Value) (wx : World) : Prop := ∃ k : Nat, k ≤ 39 ∧ nstAux x k = nst x ∧ t3 = .int .i64 ((k : Int) - 20) ∧ w = wx

theorem refNearest (x : Int) (w : World) :
    Calls Try.prog 17 #[.int .u64 x] w (Num (nst x) w) := by
  go_enter Try.func17, Try.ntmps17
  go_wp2
  go_loopw [3, 4, 5] (fun t3 _ _ wx => Near x w t3 wx) (fun i _ _ _ => ((intOf i) + 20).toNat)
  case atStart => exact ⟨39, by omega, rfl, rfl, rfl⟩
  case round =>
    obtain ⟨k, hk, hn, rfl, rfl⟩ := hrel
    cases k with
    | zero =>
      have HN := Lib.hid hn
      clear hn
      go_wp2
      go_ret
      refine num_of ?_
      rw [← HN.out]; rfl
    | succ k =>
      have hw := wt_in (may_in (show -20 ≤ ((k + 1 : Nat) : Int) - 20 by omega) (by omega))
      have e : nstAux x (k + 1) = if x ≤ wgt ((k : Int) + 1 - 20) then (k : Int) + 1 - 20 else nstAux x k := rfl
      have e2 : ((k + 1 : Nat) : Int) - 20 = (k : Int) + 1 - 20 := by omega
      rw [e2] at hw
      rw [e] at hn
      rw [e2]
      have C := Lib.hid (fun w => refWeight ((k : Int) + 1 - 20) w)
      clear e e2
      obtain ⟨v, hv⟩ : ∃ v, v = wgt ((k : Int) + 1 - 20) := ⟨_, rfl⟩
      rw [← hv] at hw hn
      rw [hw] at C
      clear hw hv
      have HN := Lib.hid hn
      clear hn
      by_cases hx : x ≤ v
      · go_wp2_with (go_at_call 12; refine (C.out _).mono ?_; rintro e w' ⟨rfl, rfl⟩)
        go_ret
        refine num_of ?_
        rw [← HN.out, if_pos hx]
      · go_wp2_with (go_at_call 12; refine (C.out _).mono ?_; rintro e w' ⟨rfl, rfl⟩)
        go_roundw
        case rel => exact ⟨k, by omega, by rw [← HN.out, if_neg (by omega)], by go_num, rfl⟩
        case measure => simp [intOf]; omega
end Go.Proofs.Yteogjojakocbnaa.Nice
