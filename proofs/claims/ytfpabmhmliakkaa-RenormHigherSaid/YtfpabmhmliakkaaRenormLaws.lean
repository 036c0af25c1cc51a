/- The walks of the statements of package renorm, but RenormRises. Conditions: each argument is a number of its kind. -/
import Derived.Test.YtfpabmhmliakkaaRenormRefs
import Derived.Laws.Cover1
namespace Go.Proofs.Ytfpabmhmliakkaa.Renorm
open Go.ChangeShapes Go.WideShapes Go.ChangeAt Go.RowKit Fix
set_option linter.unusedVariables false
set_option linter.unusedSimpArgs false

def Yes (w : World) (e : Ending) (w' : World) : Prop := e = .returned (.bool true) ∧ Below w.heap.size w w'
theorem yes_of {b : Bool} {w w' : World} (h : b = true) (g : Below w.heap.size w w') : Yes w (.returned (.bool b)) w' := by subst h; exact ⟨rfl, g⟩
def z79 (j : Nat) : Int := if j = 0 then 7 else 9
theorem lies79 (w : World) : Lies (some ⟨w.heap.size, 0, none⟩) 2 z79 (w.alloc (.cells #[.int .i64 7, .int .i64 9] 2)) := by
  intro j hj
  refine ⟨w.heap.size, 0, rfl, by simp, ?_⟩
  match j, hj with
  | 0, _ => simp [go_sem, z79]
  | 1, _ => simp [go_sem, z79]
theorem i64_small {n : Int} (h1 : -9223372036854775808 ≤ n) (h2 : n ≤ 9223372036854775807) : I64 n := ⟨h1, h2⟩

theorem awake (w : World) : Calls Try.prog 9 #[] w (Yes w) := by
  have m1 := Lib.hid (fun w => moves 12 10 100 w (i64_small (by omega) (by omega)) (i64_small (by omega) (by omega)) (i64_small (by omega) (by omega)))
  have m2 := Lib.hid (fun w => wakes 3 10 4 w (i64_small (by omega) (by omega)) (i64_small (by omega) (by omega)))
  have m3 := Lib.hid (fun w => highers 5 _ 2 2 z79 _ (by omega) (Lib.hid (lies79 w)))
  rw [show move 12 10 100 = 102 by decide, show moveO 12 10 100 = false by decide] at m1
  rw [show wake 3 10 4 = 6 by decide] at m2
  rw [show hi 5 z79 2 = 7 by decide] at m3
  have hg := Below.refl w.heap.size w
  go_enter Try.func9, Try.ntmps9
  go_wp2_with (first
    | (go_at_call 14; refine (m1.out _).mono ?_; rintro e w1 ⟨rfl, hg1⟩; replace hg := fresh_trans hg hg1; clear hg1)
    | (go_at_call 16; refine (m2.out _).mono ?_; rintro e w1 ⟨rfl, hg1⟩; replace hg := fresh_trans hg hg1; clear hg1)
    | (go_at_call 18; refine (m3.out _).mono ?_; rintro e w1 ⟨rfl, rfl⟩))
  go_ret
  exact yes_of rfl (hg.alloc hg.size _)

theorem placesLaw (a b c : Int) (w : World) (ha : I64 a) (hb : I64 b) (hc : I64 c) :
    Calls Try.prog 3 #[.int .i64 a, .int .i64 b, .int .i64 c] w (Yes w) := by
  have m1 := Lib.hid (fun w => offs a b w ha hb)
  have m2 := Lib.hid (fun w => refOff a b w ha hb)
  have m3 := Lib.hid (fun w => ons a b w ha hb)
  have m4 := Lib.hid (fun w => refOn a b w ha hb)
  have m5 := Lib.hid (fun w => moves a b c w ha hb hc)
  have m6 := Lib.hid (fun w => refMove a b c w ha hb hc)
  have m7 := Lib.hid (fun w => wakes a b c w hb hc)
  have m8 := Lib.hid (fun w => refWake a b c w hb hc)
  generalize move a b c = x5 at *
  generalize moveO a b c = x6 at *
  generalize off a b = x1 at *
  generalize offO a b = x2 at *
  generalize on a b = x3 at *
  generalize onO a b = x4 at *
  generalize wake a b c = x7 at *
  have hg := Below.refl w.heap.size w
  go_enter Try.func3, Try.ntmps3
  go_wp2_with (first
    | (go_at_call 9; refine (awake _).mono ?_; rintro e w1 ⟨rfl, hg1⟩; replace hg := fresh_trans hg hg1; clear hg1)
    | (go_at_call 10; refine (m1.out _).mono ?_; rintro e w1 ⟨rfl, hg1⟩; replace hg := fresh_trans hg hg1; clear hg1)
    | (go_at_call 11; refine (m2.out _).mono ?_; rintro e w1 ⟨rfl, rfl⟩)
    | (go_at_call 12; refine (m3.out _).mono ?_; rintro e w1 ⟨rfl, hg1⟩; replace hg := fresh_trans hg hg1; clear hg1)
    | (go_at_call 13; refine (m4.out _).mono ?_; rintro e w1 ⟨rfl, rfl⟩)
    | (go_at_call 14; refine (m5.out _).mono ?_; rintro e w1 ⟨rfl, hg1⟩; replace hg := fresh_trans hg hg1; clear hg1)
    | (go_at_call 15; refine (m6.out _).mono ?_; rintro e w1 ⟨rfl, rfl⟩)
    | (go_at_call 16; refine (m7.out _).mono ?_; rintro e w1 ⟨rfl, hg1⟩; replace hg := fresh_trans hg hg1; clear hg1)
    | (go_at_call 17; refine (m8.out _).mono ?_; rintro e w1 ⟨rfl, rfl⟩))
  go_ret
  exact yes_of (by simp) hg

theorem higherLaw (m : Int) (v : Option Addr) (len cap : Nat) (z : Nat → Int) (w : World) (hlen : len ≤ 9223372036854775807) (hc : Lies v len z w) :
    Calls Try.prog 4 #[.int .i64 m, .slice v len cap] w (Yes w) := by
  have HC := Lib.hid hc
  clear hc
  have hg := Below.refl w.heap.size w
  go_enter Try.func4, Try.ntmps4
  go_wp2_with (first
    | (go_at_call 9; refine (awake _).mono ?_; rintro e w1 ⟨rfl, hg1⟩; replace HC := Lib.hid (HC.out.fresh hg1); replace hg := fresh_trans hg hg1; clear hg1)
    | (go_at_call 18; refine (highers m v len cap z _ hlen HC).mono ?_; rintro e w2 ⟨rfl, rfl⟩)
    | (go_at_call 19; refine (refHigher m v len cap z _ hlen HC).mono ?_; rintro e w2 ⟨rfl, rfl⟩))
  go_ret
  exact yes_of (by simp) hg

theorem keeps_as (v f t x n y k : Int) (o1 o2 o3 o4 : Bool) (w : World) (m1 : Hid (∀ w, Calls Try.prog 10 #[.int .i64 v, .int .i64 f] w (TwoB x o1 w)))
    (m2 : Hid (∀ w, Calls Try.prog 14 #[.int .i64 v, .int .i64 f, .int .i64 t] w (TwoB n o2 w)))
    (m3 : Hid (∀ w, Calls Try.prog 10 #[.int .i64 n, .int .i64 t] w (TwoB y o3 w)))
    (m4 : Hid (∀ w, Calls Try.prog 14 #[.int .i64 n, .int .i64 t, .int .i64 f] w (TwoB k o4 w)))
    (h1 : o1 = true → o2 = true) (h2 : o1 = false → o2 = false → y = x ∧ k = v) :
    Calls Try.prog 5 #[.int .i64 v, .int .i64 f, .int .i64 t] w (Yes w) := by
  have hg := Below.refl w.heap.size w
  cases o1 <;> cases o2 <;> cases o3 <;> cases o4
  all_goals first
    | (cases h1 rfl; done)
    | (try obtain ⟨rfl, rfl⟩ := h2 rfl rfl
       clear h1 h2
       go_enter Try.func5, Try.ntmps5
       go_wp2_with (first
         | (go_at_call 9; refine (awake _).mono ?_; rintro e w1 ⟨rfl, hg1⟩; replace hg := fresh_trans hg hg1; clear hg1)
         | (go_at_call 10; first | ((with_reducible refine (m1.out _).mono ?_); rintro e w1 ⟨rfl, hg1⟩; replace hg := fresh_trans hg hg1; clear hg1) | ((with_reducible refine (m3.out _).mono ?_); rintro e w1 ⟨rfl, hg1⟩; replace hg := fresh_trans hg hg1; clear hg1))
         | (go_at_call 14; first | ((with_reducible refine (m2.out _).mono ?_); rintro e w1 ⟨rfl, hg1⟩; replace hg := fresh_trans hg hg1; clear hg1) | ((with_reducible refine (m4.out _).mono ?_); rintro e w1 ⟨rfl, hg1⟩; replace hg := fresh_trans hg hg1; clear hg1)))
       go_ret
       exact yes_of (by simp) hg)
theorem fits_iff {n : Int} : fits n = true ↔ I64 n := by unfold fits I64; simp
theorem ends_in {n : Int} (h : I64 n) : ends n = n := by unfold ends; unfold I64 at h; split <;> (try split) <;> omega
theorem keepsLaw (v f t : Int) (w : World) (hv : I64 v) (hf : I64 f) (ht : I64 t) :
    Calls Try.prog 5 #[.int .i64 v, .int .i64 f, .int .i64 t] w (Yes w) := by
  have hn : I64 (move v f t) := i64_ends _
  refine keeps_as v f t _ _ _ _ _ _ _ _ w (Lib.hid fun w => offs v f w hv hf) (Lib.hid fun w => moves v f t w hv hf ht) (Lib.hid fun w => offs _ t w hn ht) (Lib.hid fun w => moves _ t f w hn ht hf) (fun h => by unfold moveO; rw [h]; rfl) ?_
  intro h1 h2
  have k1 : I64 (v - f) := by unfold offO at h1; exact fits_iff.1 (by simpa using h1)
  have e1 : off v f = v - f := ends_in k1
  have k2 : I64 (v - f + t) := by unfold moveO onO at h2; rw [e1] at h2; exact fits_iff.1 (by simp at h2; exact h2.2)
  have e2 : move v f t = v - f + t := by unfold move on; rw [e1]; exact ends_in k2
  have e3 : off (move v f t) t = v - f := by unfold off; rw [e2, show v - f + t - t = v - f by omega]; exact ends_in k1
  refine ⟨by rw [e3, e1], ?_⟩
  rw [move, e3, on, show v - f + f = v by omega]
  exact ends_in hv

theorem four {w w0 w1 : World} {x0 x1 x2 x3 : Value} {t : TypeId} (h : Below w0.heap.size w0 w1) (e : w0 = w.alloc (.cells #[x0, x1, x2, x3] t)) :
    w1.cell? ⟨w.heap.size, 0, none⟩ = some x0 ∧ w1.cell? ⟨w.heap.size, 1, none⟩ = some x1 ∧ w1.cell? ⟨w.heap.size, 2, none⟩ = some x2 ∧ w1.cell? ⟨w.heap.size, 3, none⟩ = some x3 := by
  subst e
  refine ⟨?_, ?_, ?_, ?_⟩ <;> (rw [h.cell (by simp)]; simp [go_sem])
theorem moves_near (v f t : Int) (w : World) (hv : -2147483648 ≤ v ∧ v ≤ 2147483647) (hf : -2147483648 ≤ f ∧ f ≤ 2147483647) (ht : -2147483648 ≤ t ∧ t ≤ 2147483647) :
    Calls Try.prog 14 #[.int .i64 v, .int .i64 f, .int .i64 t] w (TwoB (v - f + t) false w) := by
  have := moves v f t w (i64_small (by omega) (by omega)) (i64_small (by omega) (by omega)) (i64_small (by omega) (by omega))
  have e1 : off v f = v - f := ends_in (i64_small (by omega) (by omega))
  have e2 : move v f t = v - f + t := by unfold move on; rw [e1]; exact ends_in (i64_small (by omega) (by omega))
  have e3 : moveO v f t = false := by unfold moveO offO onO; rw [e1, fits_in (i64_small (by omega) (by omega)), fits_in (i64_small (by omega) (by omega))]; rfl
  rwa [e2, e3] at this
theorem nearLaw (v u f t : Int) (w : World) (hv : -2147483648 ≤ v ∧ v ≤ 2147483647) (hu : -2147483648 ≤ u ∧ u ≤ 2147483647) (hf : -2147483648 ≤ f ∧ f ≤ 2147483647) (ht : -2147483648 ≤ t ∧ t ≤ 2147483647) :
    Calls Try.prog 6 #[.agg #[.int .i32 v, .int .i32 u, .int .i32 f, .int .i32 t]] w (Yes w) := by
  have m1 := Lib.hid (fun w => moves_near v f t w hv hf ht)
  have m2 := Lib.hid (fun w => moves_near u f t w hu hf ht)
  have hg := Below.refl w.heap.size w
  by_cases h : v < u
  all_goals
    go_enter Try.func6, Try.ntmps6
    go_wp2_with (first
      | (go_at_call 9; refine (awake _).mono ?_; rintro e w1 ⟨rfl, hg1⟩; obtain ⟨k0, k1, k2, k3⟩ := four hg1 rfl; replace hg := fresh_trans (hg.alloc (Nat.le_refl _) _) hg1; clear hg1)
      | (go_at_call 14; first | ((with_reducible refine (m1.out _).mono ?_); rintro e w1 ⟨rfl, hg1⟩; replace hg := fresh_trans hg hg1; clear hg1) | ((with_reducible refine (m2.out _).mono ?_); rintro e w1 ⟨rfl, hg1⟩; replace hg := fresh_trans hg hg1; clear hg1)))
    go_ret
    exact yes_of (by simp; try omega) hg

theorem wakes_in (o m c : Int) (w : World) (hm : -2147483648 ≤ m ∧ m ≤ 2147483647) (hc : -65535 ≤ c ∧ c ≤ 65535) :
    Calls Try.prog 16 #[.int .i64 o, .int .i64 m, .int .i64 c] w (OneB (max o (m - max c 0)) w) := by
  have := wakes o m c w (i64_small (by omega) (by omega)) (i64_small (by omega) (by omega))
  have e1 : hold c 0 1099511627776 = max c 0 := by unfold hold; split <;> (try split) <;> omega
  have e2 : ends (m - max c 0) = m - max c 0 := ends_in (i64_small (by omega) (by omega))
  rwa [wake, e1, e2] at this
set_option maxHeartbeats 1000000 in
theorem sleeps_as (o m c n x : Int) (w : World) (m1 : Hid (∀ w, Calls Try.prog 16 #[.int .i64 o, .int .i64 m, .int .i64 c] w (OneB n w)))
    (m2 : Hid (∀ w, Calls Try.prog 16 #[.int .i64 n, .int .i64 m, .int .i64 c] w (OneB n w)))
    (m3 : Hid (∀ k w, k = -c → Calls Try.prog 16 #[.int .i64 o, .int .i64 m, .int .i64 k] w (OneB x w)))
    (o0 : -2147483648 ≤ o) (o1 : o ≤ 2147483647) (mm0 : -2147483648 ≤ m) (mm1 : m ≤ 2147483647) (c0 : 0 ≤ c) (c1 : c ≤ 65535) (h1 : o ≤ n) (h2 : m - c ≤ n) (hx : Hid (x = max o m))
    (b1 : Bool) (b2 : Bool) (e1 : (n == o) = b1) (e2 : (n == m - c) = b2) (e3 : Hid (b1 || b2)) :
    Calls Try.prog 7 #[.int .i32 o, .int .i32 m, .int .u16 c] w (Yes w) := by
  have hg := Below.refl w.heap.size w
  cases b1
  rotate_left
  case' false => obtain rfl : b2 = true := by have := e3.out; simpa using this
  all_goals
    go_enter Try.func7, Try.ntmps7
    go_wp2_with (first
      | (go_at_call 9; refine (awake _).mono ?_; rintro e w1 ⟨rfl, hg1⟩; replace hg := fresh_trans hg hg1; clear hg1)
      | (go_at_call 16; first | ((with_reducible refine (m1.out _).mono ?_); rintro e w1 ⟨rfl, hg1⟩; replace hg := fresh_trans hg hg1; clear hg1) | ((with_reducible refine (m2.out _).mono ?_); rintro e w1 ⟨rfl, hg1⟩; replace hg := fresh_trans hg hg1; clear hg1) | (refine (m3.out _ _ (by omega)).mono ?_; rintro e w1 ⟨rfl, hg1⟩; replace hg := fresh_trans hg hg1; clear hg1)))
    all_goals
      go_ret
      exact yes_of (by have := hx.out; simp; try omega) hg
theorem sleepsLaw (o m c : Int) (w : World) (ho : -2147483648 ≤ o ∧ o ≤ 2147483647) (hm : -2147483648 ≤ m ∧ m ≤ 2147483647) (c0 : 0 ≤ c) (c1 : c ≤ 65535) :
    Calls Try.prog 7 #[.int .i32 o, .int .i32 m, .int .u16 c] w (Yes w) := by
  have e1 : max (max o (m - c)) (m - max c 0) = max o (m - c) := by omega
  have e2 : m - max c 0 = m - c := by omega
  have e3 : m - max (-c) 0 = m := by omega
  exact sleeps_as o m c (max o (m - c)) (max o m) w (Lib.hid fun w => by have := wakes_in o m c w hm (by omega); rwa [e2] at this) (Lib.hid fun w => by have := wakes_in (max o (m - c)) m c w hm (by omega); rwa [e1] at this)
    (Lib.hid fun k w hk => by subst hk; have := wakes_in o m (-c) w hm (by omega); rwa [e3] at this) ho.1 ho.2 hm.1 hm.2 c0 c1 (by omega) (by omega) (Lib.hid rfl) _ _ rfl rfl (Lib.hid (by simp; omega))
end Go.Proofs.Ytfpabmhmliakkaa.Renorm
