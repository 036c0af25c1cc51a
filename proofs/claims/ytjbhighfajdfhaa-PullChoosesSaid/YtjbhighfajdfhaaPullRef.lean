/- What the document's small answers return: Gap, May, half, ahead, After. Conditions: each argument is a number of its kind. -/
import Derived.Test.YtjbhighfajdfhaaPullMem
import Derived.BigQuiet
namespace Go.Proofs.Ytjbhighfajdfhaa.Pull
open Go.ChangeShapes Go.WideShapes Go.ChangeAt Go.RowKit Load
set_option linter.unusedVariables false
set_option linter.unusedSimpArgs false
attribute [local irreducible] Go.wpQuiet

theorem refGaps (a b : Int) (w : World) (ha : U64 a) (hb : U64 b) : Calls Try.prog 21 #[.int .u64 a, .int .u64 b] w (Is (.int .u64 (gap a b)) w) := by
  unfold U64 at ha hb
  by_cases h : a < b
  · go_enter Try.func21, Try.ntmps21
    go_wp2
    go_ret
    exact isI_of (by unfold gap; rw [if_pos (by omega)])
  · go_enter Try.func21, Try.ntmps21
    go_wp2
    go_ret
    exact isI_of (by unfold gap; rw [if_neg (by omega)])

theorem halfs (x g : Int) (w : World) (hx : U64 x) (hg : U64 g) : Calls Try.prog 27 #[.int .u64 x, .int .u64 g] w (Is (.bool (fits g x)) w) := by
  unfold U64 at hx hg
  by_cases h : x ≤ g
  · have e : IntKind.u64.wrap (g - x) = g - x := by rw [IntKind.wrap_u64]; omega
    by_cases h2 : x ≤ g - x
    · have hf : fits g x = true := by unfold fits; simp; omega
      rw [hf]
      go_enter Try.func27, Try.ntmps27
      go_wp2
      go_ret
      exact ⟨rfl, rfl⟩
    · have hf : fits g x = false := by unfold fits; simp; omega
      rw [hf]
      go_enter Try.func27, Try.ntmps27
      go_wp2
      go_ret
      exact ⟨rfl, rfl⟩
  · have hf : fits g x = false := by unfold fits; simp; omega
    have e : IntKind.u64.wrap (g - x) = g - x + 18446744073709551616 := by rw [IntKind.wrap_u64]; omega
    rw [hf]
    by_cases h2 : x ≤ g - x + 18446744073709551616
    · go_enter Try.func27, Try.ntmps27
      go_wp2
      go_ret
      exact ⟨rfl, rfl⟩
    · go_enter Try.func27, Try.ntmps27
      go_wp2
      go_ret
      exact ⟨rfl, rfl⟩

theorem rem_may (m k : Nat) (hm : m < 18446744073709551616) (hk : k < 64) : ((m : Int) / 2 ^ k % 2 == 1) = may m k := by
  have e : ((m : Int) / 2 ^ k) = ((m / 2 ^ k : Nat) : Int) := by simp
  rw [e]
  unfold may
  rw [Nat.testBit_eq_decide_div_mod_eq, show decide (k < 64) = true by simpa using hk, Bool.true_and]
  rcases Nat.mod_two_eq_zero_or_one (m / 2 ^ k) with h | h
  · rw [h, show ((m / 2 ^ k : Nat) : Int) % 2 = 0 by omega]; rfl
  · rw [h, show ((m / 2 ^ k : Nat) : Int) % 2 = 1 by omega]; rfl

set_option maxHeartbeats 4000000 in
theorem refMays (c : Cd) (g p : Int) (w : World) (hc : c.Ok) :
    Calls Try.prog 17 #[vCd c, .int .u64 g, .int .i64 p] w (IsG (.bool (mayc c g p)) w) := by
  obtain ⟨_, _, a0, _, m1⟩ := hc
  obtain ⟨i, wt, ms, rn⟩ := c
  unfold mayc vCd
  simp only at *
  have hg := alloc1 w (.cells #[.int .i64 i, .int .u64 wt, .int .u64 (ms : Int), .bool rn] 37 (0, 0))
  obtain ⟨c0, c1, c2, c3, cz⟩ := four (heap_alloc_new w (.cells #[.int .i64 i, .int .u64 wt, .int .u64 (ms : Int), .bool rn] 37 (0, 0)))
  by_cases h0 : p < 0
  · have e : allow ms p = false := by unfold allow; rw [decide_eq_false (by omega)]; rfl
    rw [e]
    go_enter Try.func17, Try.ntmps17
    go_wp2
    go_ret
    exact isG_of (by simp) hg
  · by_cases h1 : 63 < p
    · have e : allow ms p = false := by unfold allow may; rw [decide_eq_false (show ¬ p.toNat < 64 by omega)]; simp
      rw [e]
      go_enter Try.func17, Try.ntmps17
      go_wp2
      go_ret
      exact isG_of (by simp) hg
    · obtain ⟨k, rfl⟩ : ∃ k : Nat, p = k := ⟨p.toNat, by omega⟩
      rw [allow_at]
      have HB := rem_may ms k m1 (by omega)
      have HD : ((ms : Int) / 2 ^ k).tmod 2 = (ms : Int) / 2 ^ k % 2 := Int.tmod_eq_emod_of_nonneg (by rw [show ((ms : Int) / 2 ^ k) = ((ms / 2 ^ k : Nat) : Int) by simp]; exact Int.natCast_nonneg _)
      generalize may ms k = b at *
      cases rn
      · by_cases h2 : wt = 0
        · subst h2
          go_enter Try.func17, Try.ntmps17
          go_wp2
          go_ret
          exact isG_of (by simp) hg
        · have h2' : (wt == 0) = false := by simp [h2]
          have h3 : 0 < wt := by omega
          cases b <;> by_cases h4 : wt < g
          all_goals
            go_enter Try.func17, Try.ntmps17
            go_wp2
            go_ret
            exact isG_of (by simp [h3, h4]) hg
      · go_enter Try.func17, Try.ntmps17
        go_wp2
        go_ret
        exact isG_of (by simp) hg

theorem refAfter (f t x : Int) (w : World) (hf : U64 f) (ht : U64 t) (hx : U64 x) :
    Calls Try.prog 15 #[.int .u64 f, .int .u64 t, .int .u64 x] w (IsG (.tuple #[.int .u64 (gap f x), .int .u64 (top t x)]) w) := by
  have G := Lib.hid (fun w' => refGaps f x w' hf hx)
  have S := Lib.hid (refSums (some ⟨w.heap.size, 0, none⟩) 2 2 (two t x) _ (by omega) (Lib.hid (u64_two ht hx)) (Lib.hid (two_lies w t x 23)))
  rw [tot_two ht hx] at S
  have hg := alloc1 w (.cells #[.int .u64 t, .int .u64 x] 23 (0, 0))
  generalize gap f x = r1 at *
  generalize top t x = r2 at *
  go_enter Try.func15, Try.ntmps15
  go_wp2_with (first
    | (go_at_call 21; refine (G.out _).mono ?_; rintro e w1 ⟨rfl, hw⟩; replace hw := hw.symm; subst hw)
    | (go_at_call 24; refine S.out.mono ?_; rintro e w1 ⟨rfl, hw⟩; replace hw := hw.symm; subst hw))
  go_ret2
  exact isG_of rfl hg

set_option maxHeartbeats 4000000 in
theorem aheads (v : Option Addr) (n cap a b : Nat) (C : Nat → Cd) (g : Int) (w : World) (hg : U64 g) (ha : a < n) (hb : b < n) (hA : (C a).Ok) (hB : (C b).Ok) (HC : Cs v n C w) :
    Calls Try.prog 22 #[.slice v n cap, .int .i64 a, .int .i64 b, .int .u64 g] w (IsG (.bool (docA C g a b)) w) := by
  obtain ⟨k, o, rfl, hk, x0, x1, _, _⟩ := HC a ha
  obtain ⟨k', o', e, _, y0, y1, _, _⟩ := HC b hb
  cases e
  have H1 := Lib.hid (fun w => halfs (C a).wt g w ⟨hA.wt0, hA.wt1⟩ hg)
  have H2 := Lib.hid (fun w => halfs (C b).wt g w ⟨hB.wt0, hB.wt1⟩ hg)
  have a0 : (0 : Int) ≤ a := by omega
  have a1 : (a : Int) < n := by omega
  have b0 : (0 : Int) ≤ b := by omega
  have b1 : (b : Int) < n := by omega
  have hr := Below.refl w.heap.size w
  unfold docA
  generalize (C a).wt = wa at *
  generalize (C b).wt = wb at *
  generalize (C a).id = ia at *
  generalize (C b).id = ib at *
  generalize fits g wa = x at *
  generalize fits g wb = y at *
  by_cases hxy : x = y
  · subst hxy
    have X1 : (x == x) = true := by simp
    simp only [X1, Bool.not_true, Bool.false_eq_true, if_false]
    by_cases hw : wa = wb
    · subst hw
      by_cases hi : ia = ib
      · subst hi
        go_enter Try.func22, Try.ntmps22
        go_wp2_with (go_at_call 27; first | ((with_reducible refine (H1.out _).mono ?_); rintro e w1 ⟨rfl, hw⟩; replace hw := hw.symm; subst hw) | ((with_reducible refine (H2.out _).mono ?_); rintro e w1 ⟨rfl, hw⟩; replace hw := hw.symm; subst hw))
        go_quiet (fail)
        go_wp2
        go_quiet (fail)
        go_wp2
        go_ret
        exact isG_of (by simp) (drawn hr _)
      · have hi' : (ia == ib) = false := by simp [hi]
        go_enter Try.func22, Try.ntmps22
        go_wp2_with (go_at_call 27; first | ((with_reducible refine (H1.out _).mono ?_); rintro e w1 ⟨rfl, hw⟩; replace hw := hw.symm; subst hw) | ((with_reducible refine (H2.out _).mono ?_); rintro e w1 ⟨rfl, hw⟩; replace hw := hw.symm; subst hw))
        go_quiet (fail)
        go_wp2
        go_quiet (fail)
        go_wp2
        go_quiet (fail)
        go_wp2
        go_ret
        exact isG_of (by simp [hi]) (drawn hr _)
    · have hw' : (wa == wb) = false := by simp [hw]
      go_enter Try.func22, Try.ntmps22
      go_wp2_with (go_at_call 27; first | ((with_reducible refine (H1.out _).mono ?_); rintro e w1 ⟨rfl, hw⟩; replace hw := hw.symm; subst hw) | ((with_reducible refine (H2.out _).mono ?_); rintro e w1 ⟨rfl, hw⟩; replace hw := hw.symm; subst hw))
      go_quiet (fail)
      go_wp2
      go_quiet (fail)
      go_wp2
      go_ret
      exact isG_of (by simp [hw]) (drawn hr _)
  · have hxy' : (x == y) = false := by simp [hxy]
    simp only [hxy', Bool.not_false, if_true]
    go_enter Try.func22, Try.ntmps22
    go_wp2_with (go_at_call 27; first | ((with_reducible refine (H1.out _).mono ?_); rintro e w1 ⟨rfl, hw⟩; replace hw := hw.symm; subst hw) | ((with_reducible refine (H2.out _).mono ?_); rintro e w1 ⟨rfl, hw⟩; replace hw := hw.symm; subst hw))
    go_ret
    exact isG_of rfl hr
end Go.Proofs.Ytjbhighfajdfhaa.Pull
