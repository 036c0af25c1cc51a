/- The walk of QuotaNobody. Conditions: each number is one of its kind. -/
import Derived.Test.YtjjcaplkmbigdaaQuotaCalls
namespace Go.Proofs.Ytjjcaplkmbigdaa.Quota
open Go.ChangeShapes Go.WideShapes Go.ChangeAt Go.RowKit Mem
open Fix (I64)
set_option linter.unusedVariables false
set_option linter.unusedSimpArgs false
set_option maxRecDepth 100000

theorem ens_free {d : Bd} {p : Int} (h : lim d = false) : ensS d p = d ∧ ensB d p = here d p := by simp [ensS, ensB, h]
theorem lim_new (n : Nat) : lim (newS n) = false := by simp [lim, newS]
theorem chg_free {d : Bd} {p n : Int} (h : lim d = false) : chgS d p n = if chgE d p n = 0 then { d with sp := d.sp + n } else d := by
  have e : paidS d p.toNat n = { d with sp := d.sp + n } := by simp [paidS, h]
  unfold chgS
  rw [e, (ens_free (show lim { d with sp := d.sp + n } = false from h)).1]
theorem lim_chg {d : Bd} (p n : Int) : lim (chgS d p n) = lim d := lim_q (q_chg d p n)
theorem lim_ref (d : Bd) : lim (refS d) = lim d := rfl

set_option maxHeartbeats 2000000 in
theorem nobody_as (ps p ns : Int) (w : World) (p0 : 0 ≤ ps) (p1 : ps < 256) (may : Bool) (m : Nat) (hm : ps % 64 = (m : Int)) (b1 b2 : Bool) (hb1 : decide (0 ≤ p) = b1) (hb2 : decide (p < 1 + (m : Int)) = b2) (hmay : (b1 && b2) = may) (code : Int) (b3 b4 : Bool) (hb3 : decide (0 ≤ ns) = b3) (hb4 : decide (ns ≤ 1000000000) = b4) (hc : (code == 0) = (may && b3 && b4))
    (d0 d1 d2 : Bd) (cb : Bool)
    (C0 : Hid (∀ w1, Below w.heap.size w w1 → Calls Try.prog 11 #[.int .i64 (1 + (m : Int))] w1 (Res (.tuple #[.pointer (some ⟨w1.heap.size + 1, 0, none⟩), .int .i64 0]) w (· < w1.heap.size) (w1.heap.size + 1) d0 w1)))
    (C1 : Hid (∀ w1 O b, Held w O b d0 w1 → Calls Try.prog 15 #[.pointer (some ⟨b, 0, none⟩), .int .i64 p] w1 (Res (.bool may) w O b d0 w1)))
    (C2 : Hid (∀ w1 O b, Held w O b d0 w1 → Calls Try.prog 17 #[.pointer (some ⟨b, 0, none⟩), .int .i64 p, .int .i64 ns] w1 (Res (.tuple #[.bool cb, .int .i64 code]) w O b d1 w1)))
    (C3 : Hid (∀ w1 O b, Held w O b d1 w1 → Calls Try.prog 21 #[.pointer (some ⟨b, 0, none⟩)] w1 (Res (.tuple #[]) w O b d2 w1)))
    (C4 : Hid (∀ w1 O b, Held w O b d2 w1 → Calls Try.prog 15 #[.pointer (some ⟨b, 0, none⟩), .int .i64 p] w1 (Res (.bool may) w O b d2 w1)))
    (C5 : Hid (∀ w1 O b, Held w O b d2 w1 → Calls Try.prog 30 #[.pointer (some ⟨b, 0, none⟩)] w1 (Still (.bool false) w1))) :
    Calls Try.prog 9 #[.int .u8 ps, .int .i64 p, .int .i64 ns] w (Yes w) := by
  have hm64 : m < 64 := by omega
  cases b1 <;> cases b2 <;> cases b3 <;> cases b4
  all_goals
    simp only [Bool.and_true, Bool.and_false, Bool.true_and, Bool.false_and] at hmay
    subst hmay
    simp only [Bool.and_true, Bool.and_false, Bool.true_and, Bool.false_and] at hc
    go_enter Try.func9, Try.ntmps9
    go_wp2_with fail
    go_at_call 10; refine (awake _).mono ?_; rintro e w1 ⟨rfl, hg1⟩
    have K0 := Lib.hid (C0.out _ hg1)
    go_wp2_with fail
    generalize w1.heap.size + 1 = b at K0
    go_at_call 11; refine K0.out.mono ?_; rintro e w2 ⟨rfl, k2, _⟩
    go_wp2_with fail
    go_at_call 15; refine (C1.out _ _ _ k2).mono ?_; rintro e w3 ⟨rfl, k3, _⟩
    go_wp2_with fail
    go_at_call 17; refine (C2.out _ _ _ k3).mono ?_; rintro e w4 ⟨rfl, k4, _⟩
    go_wp2_with fail
    go_at_call 21; refine (C3.out _ _ _ k4).mono ?_; rintro e w5 ⟨rfl, k5, _⟩
    go_wp2_with fail
    go_at_call 15; refine (C4.out _ _ _ k5).mono ?_; rintro e w6 ⟨rfl, k6, _⟩
    go_wp2_with fail
    go_at_call 19; refine (return_nil _ _).mono ?_; rintro e w7 ⟨rfl, rfl⟩
    go_wp2_with fail
    go_at_call 21; refine (refill_nil _).mono ?_; rintro e w7 ⟨rfl, rfl⟩
    go_wp2_with fail
    go_at_call 17; refine (charge_nil _ _ _).mono ?_; rintro e w7 ⟨rfl, rfl⟩
    go_wp2_with fail
    go_at_call 30; refine (C5.out _ _ _ k6).mono ?_; rintro e w7 ⟨rfl, rfl⟩
    go_wp2_with fail
    go_at_call 13; refine (set_nil _ _ _).mono ?_; rintro e w7 ⟨rfl, rfl⟩
    go_wp2_with fail
    go_at_call 15; refine (ensure_nil _ _).mono ?_; rintro e w7 ⟨rfl, rfl⟩
    go_wp2_with fail
    go_at_call 30; refine (limited_nil _).mono ?_; rintro e w7 ⟨rfl, rfl⟩
    go_wp2_with fail
    go_at_call 28; refine (pool_nil _).mono ?_; rintro e w7 ⟨rfl, rfl⟩
    go_wp2_with fail
    go_at_call 29; refine (local_nil _ _).mono ?_; rintro e w7 ⟨rfl, rfl⟩
    go_wp2_with fail
    go_at_call 26; refine (spent_nil _).mono ?_; rintro e w7 ⟨rfl, rfl⟩
    go_wp2_with fail
    go_ret
    exact ⟨by simp, k6.below⟩
theorem nobodyLaw (ps p ns : Int) (w : World) (p0 : 0 ≤ ps) (p1 : ps < 256) : Calls Try.prog 9 #[.int .u8 ps, .int .i64 p, .int .i64 ns] w (Yes w) := by
  obtain ⟨m, hm⟩ : ∃ m : Nat, ps % 64 = (m : Int) := ⟨(ps % 64).toNat, by omega⟩
  have hm64 : m < 64 := by omega
  have I0 : Inv 0 0 (newS (1 + m)) := Inv.new _ (by omega) (by omega)
  have hl := lim_new (1 + m)
  have I2 : Inv 0 0 (refS (chgS (newS (1 + m)) p ns)) := by
    rw [chg_free hl]
    split
    · have := (show Inv 0 0 { newS (1 + m) with sp := 0 } from I0).ref (by omega)
      exact this
    · exact I0.ref (by omega)
  have hl1 : lim (refS (chgS (newS (1 + m)) p ns)) = false := by rw [lim_ref, lim_chg]; exact hl
  have hh : here (refS (chgS (newS (1 + m)) p ns)) p = here (newS (1 + m)) p := here_len (by rw [len_ref, len_chg]) p
  have he := ens_free (p := p) hl
  have he1 := ens_free (p := p) hl1
  rw [hh] at he1
  have hhere : (decide (0 ≤ p) && decide (p < 1 + (m : Int))) = here (newS (1 + m)) p := by
    simp only [here, len_new]
    congr 1
  refine nobody_as ps p ns w p0 p1 (here (newS (1 + m)) p) m hm _ _ rfl rfl hhere (chgE (newS (1 + m)) p ns) _ _ rfl rfl ?_ (newS (1 + m)) (chgS (newS (1 + m)) p ns) (refS (chgS (newS (1 + m)) p ns)) (chgB (newS (1 + m)) p ns) ?_ ?_ ?_ ?_ ?_ ?_
  · unfold chgE
    by_cases h : here (newS (1 + m)) p = true
    · rw [if_pos h, h]
      by_cases h1 : ns < 0 ∨ 1000000000 < ns
      · rw [if_pos h1]
        by_cases h2 : ns < 0
        · simp [show ¬ 0 ≤ ns by omega]
        · simp [show ¬ ns ≤ 1000000000 by omega]
      · rw [if_neg h1]
        simp; omega
    · rw [if_neg h]
      simp [h]
  · refine Lib.hid fun w1 hb => ?_
    rw [show (1 + (m : Int)) = ((1 + m : Nat) : Int) by omega]
    exact (new w1 (1 + m) (by omega) (by omega)).mono fun e w' r => Held.new hb r
  · refine Lib.hid fun w1 O b h => ?_
    have := h.ens p I0 (by omega)
    rwa [he.1, he.2] at this
  · exact Lib.hid fun w1 O b h => h.chg p ns I0 (by omega) (by omega)
  · exact Lib.hid fun w1 O b h => h.ref (by rw [len_chg, len_new]; omega)
  · refine Lib.hid fun w1 O b h => ?_
    have := h.ens p I2 (by omega)
    rwa [he1.1, he1.2] at this
  · refine Lib.hid fun w1 O b h => ?_
    have := limited w1 b O _ h.band
    rwa [hl1] at this
end Go.Proofs.Ytjjcaplkmbigdaa.Quota
