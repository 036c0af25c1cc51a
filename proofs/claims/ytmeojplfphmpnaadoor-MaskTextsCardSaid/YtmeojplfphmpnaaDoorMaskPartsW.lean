/- The law MaskParts, walked. Conditions: the arguments are of their kinds; the listed table holds what it is listed with. -/
import Derived.Test.YtmeojplfphmpnaaDoorMaskLaws
import Derived.Test.YtmeojplfphmpnaaDoorMaskList
import Derived.Deep.QuietTactic
import Derived.BigQuiet
namespace Go.Proofs.YtmeojplfphmpnaaDoor.Mask
open Go.ChangeShapes Go.WideShapes Go.ChangeAt Go.RowKit
set_option linter.unusedVariables false
set_option linter.unusedSimpArgs false
set_option maxRecDepth 100000

theorem lst_mem {y x : Nat} : x ∈ lst y ↔ x < 64 ∧ y.testBit x = true := by simp [lst]
theorem filt_part (p q : Nat → Bool) : ∀ l : List Nat, (l.filter fun i => p i && q i).length + (l.filter fun i => p i && !q i).length = (l.filter p).length
  | [] => rfl
  | a :: l => by
    have := filt_part p q l
    cases h1 : p a <;> cases h2 : q a <;> simp [List.filter_cons, h1, h2] <;> omega
theorem lst_head {y f : Nat} (hf : f < 64) (h1 : y.testBit f = true) (h2 : ∀ i, i < f → y.testBit i = false) : (lst y)[0]? = some f := by
  unfold lst
  rw [show (64 : Nat) = (f + 1) + (64 - (f + 1)) by omega, List.range_add, List.filter_append, List.range_succ, List.filter_append]
  have h3 := filt_skip y.testBit f 0 (fun i _ hi => h2 i (by omega))
  rw [Nat.zero_add] at h3
  rw [h3]
  simp [h1]

theorem onl_bit (m : Nat) (n : Int) (i : Nat) : (onl m n).testBit i = (decide (i < min n.toNat 64) && m.testBit i) := by
  unfold onl
  rw [Nat.testBit_mod_two_pow]
theorem onl_lt (m : Nat) (n : Int) (hm : m < 18446744073709551616) : onl m n < 18446744073709551616 := Nat.lt_of_le_of_lt (Nat.mod_le _ _) hm
def rest (m : Nat) (n : Int) : Nat := m &&& (18446744073709551615 - onl m n)
theorem rest_bit (m : Nat) (n : Int) (hm : m < 18446744073709551616) (i : Nat) : (rest m n).testBit i = (m.testBit i && !decide (i < min n.toNat 64)) := by
  unfold rest
  rw [Nat.testBit_and, not_bit _ _ (onl_lt m n hm), onl_bit]
  by_cases h : i < 64
  · cases m.testBit i <;> simp [h]
  · have : m.testBit i = false := Nat.testBit_lt_two_pow (Nat.lt_of_lt_of_le (show m < 2 ^ 64 from hm) (Nat.pow_le_pow_right (by decide) (by omega)))
    simp [this]

theorem parts_as (m lo hi : Nat) (n f0 : Int) (L1 L2 : List Nat) (w : World) (hT : Tab w) (hn : -9223372036854775808 ≤ n ∧ n ≤ 9223372036854775807)
    (hand : bits .andNot .u64 (m : Int) (lo : Int) = (hi : Int)) (l1 : L1.length ≤ 64) (l2 : L2.length ≤ 64)
    (k1 : ∀ x : Nat, x ∈ L1 → (x : Int) < n) (k2 : ∀ x : Nat, x ∈ L2 → ¬ (x : Int) < n) (kf : ∀ x : Nat, L1[0]? = some x → f0 = (x : Int))
    (ON : Hid (∀ w, Calls Tryd.prog 20 #[.int .u64 m, .int .i64 n] w (IsU lo w)))
    (LS1 : Hid (∀ w, Tab w → Calls Tryd.prog 17 #[.int .u64 lo] w (IsList L1 w))) (LS2 : Hid (∀ w, Tab w → Calls Tryd.prog 17 #[.int .u64 hi] w (IsList L2 w)))
    (HS : Hid (∀ x : Nat, x ∈ L1 → ∀ w, Calls Tryd.prog 18 #[.int .u64 m, .int .i64 (x : Int)] w (IsB true w)))
    (hm : m < 18446744073709551616) (hlo : lo < 18446744073709551616) (hhi : hi < 18446744073709551616) (o1 : ones lo = L1.length) (o2 : ones hi = L2.length) (o3 : ones m = L1.length + L2.length) (o4 : fst m = f0) :
    Calls Tryd.prog 8 #[.int .u64 m, .int .i64 n] w (IsYes w) := by
  have A0 := Lib.hid (fun (w : World) (h : Tab w) => awake w h)
  have hg := Below.refl w.heap.size w
  obtain ⟨hn1, hn2⟩ := hn
  have CT : Hid (∀ (z : Nat) (w : World), z < 18446744073709551616 → Calls Tryd.prog 22 #[.int .u64 z] w (fun e w' => e = .returned (.int .i64 (ones z : Int)) ∧ w' = w)) := Lib.hid (fun z w h => count z h w)
  have FS : Hid (∀ (w : World), Tab w → Calls Tryd.prog 23 #[.int .u64 m] w (fun e w' => e = .returned (.int .i64 f0) ∧ w' = w)) := Lib.hid (fun w h => by rw [← o4]; exact first m hm w h)
  have F0 : Hid (∀ (w : World), Tab w → Calls Tryd.prog 23 #[.int .u64 0] w (fun e w' => e = .returned (.int .i64 (-1)) ∧ w' = w)) := Lib.hid (fun w h => first 0 (by decide) w h)
  have O := Lib.hid (And.intro o1 (And.intro o2 o3))
  clear o1 o2 o3 o4
  have k1' := Lib.hid k1
  have k2' := Lib.hid k2
  have kf' := Lib.hid kf
  clear k1 k2 kf
  go_enter Tryd.func8, Tryd.ntmps8
  go_wp2_with (first
    | (go_at_call 10; refine (A0.out _ (hT.fresh hg)).mono ?_; rintro e w1 ⟨rfl, hg1⟩; replace hg := fresh_trans hg hg1; clear hg1)
    | (go_at_call 20; refine (ON.out _).mono ?_; rintro e w1 ⟨rfl, rfl⟩))
  refine (LS1.out _ (hT.fresh hg)).mono ?_; rintro e w2 ⟨g1, cap1, rfl, H1, hg1⟩; replace hg := fresh_trans hg hg1; clear hg1
  go_wp2_with fail
  refine (LS2.out _ (hT.fresh hg)).mono ?_; rintro e w3 ⟨g2, cap2, rfl, H2, hg1⟩; replace hg := fresh_trans hg hg1; replace H1 := H1.fresh hg1; clear hg1
  go_wp2_with fail
  go_loop [10] (fun i => ∃ k : Nat, k ≤ L1.length ∧ i = .int .i64 k) (fun i => match i with | .int _ m => L1.length - m.toNat | _ => 0)
  case atStart => exact ⟨0, Nat.zero_le _, rfl⟩
  case round =>
    obtain ⟨k, hk, rfl⟩ := hrel
    by_cases hlt : k < L1.length
    · obtain ⟨x, hx⟩ : ∃ x, L1[k]? = some x := ⟨_, List.getElem?_eq_getElem hlt⟩
      have hc := H1.2 k x hx
      have hxm : x ∈ L1 := List.mem_of_getElem? hx
      have hxn := k1'.out x hxm
      have HX := Lib.hid (HS.out x hxm)
      clear hx hxm
      go_wp2_with (go_at_call 18; refine (HX.out _).mono ?_; rintro e w4 ⟨rfl, rfl⟩)
      exact ⟨⟨k + 1, by omega, by simp⟩, by simp; omega⟩
    · have hlt' : ¬ (k : Int) < (L1.length : Int) := by omega
      go_wp2_with fail
      go_loop [11] (fun i => ∃ k : Nat, k ≤ L2.length ∧ i = .int .i64 k) (fun i => match i with | .int _ m => L2.length - m.toNat | _ => 0)
      case atStart => exact ⟨0, Nat.zero_le _, rfl⟩
      case round =>
        obtain ⟨k3, hk3, rfl⟩ := hrel
        by_cases hlt3 : k3 < L2.length
        · obtain ⟨x, hx⟩ : ∃ x, L2[k3]? = some x := ⟨_, List.getElem?_eq_getElem hlt3⟩
          have hc := H2.2 k3 x hx
          have hxm : x ∈ L2 := List.mem_of_getElem? hx
          have hxn := k2'.out x hxm
          clear hx hxm
          go_wp2_with fail
          exact ⟨⟨k3 + 1, by omega, by simp⟩, by simp; omega⟩
        · have hlt3' : ¬ (k3 : Int) < (L2.length : Int) := by omega
          have hT3 := hT.fresh hg
          have hTd : Hid (∀ k, Tab (w3.drewN k)) := Lib.hid (fun k => hT3)
          have ew : IntKind.i64.wrap ((L1.length : Int) + (L2.length : Int)) = (L1.length : Int) + (L2.length : Int) := by rw [IntKind.wrap_i64]; omega
          have K : ((L1.length : Int) == 0) = true ∨ (((L1.length : Int) == 0) = false ∧ 0 < L1.length ∧ ∃ y : Nat, w3.cell? ⟨g1, 0, none⟩ = some (.int .i64 (y : Int)) ∧ f0 = (y : Int)) := by
            cases hL : L1 with
            | nil => exact .inl rfl
            | cons y ys =>
              have hy := H1.2 0 y (by rw [hL]; rfl)
              have hf := kf'.out y (by rw [hL]; rfl)
              exact .inr ⟨by simp; omega, by simp, y, hy, hf⟩
          obtain ⟨o1, o2, o3⟩ := O.out
          have p1 : (ones lo : Int) = (L1.length : Int) := by omega
          have p2 : (ones hi : Int) = (L2.length : Int) := by omega
          have p3 : (ones m : Int) = (L1.length : Int) + (L2.length : Int) := by omega
          clear o1 o2 o3 O
          generalize L1.length = n1 at *
          generalize L2.length = n2 at *
          rcases K with hK | ⟨hK, hK1, y, hy, rfl⟩
          · go_wp2_with fail
            go_quiet (first
              | (go_at_call 22; refine Calls.quiet_of_same (CT.out _ _ (by assumption)))
              | (go_at_call 23; refine Calls.quiet_of_same (F0.out _ (hTd.out _)))
              | (go_at_call 23; refine Calls.quiet_of_same (FS.out _ (hTd.out _))))
            go_wp2_with fail
            go_ret
            exact ⟨by simp, hg.trans ⟨rfl, rfl, rfl, Nat.le_refl _, fun _ _ => rfl⟩⟩
          · go_wp2_with fail
            go_quiet (first
              | (go_at_call 22; refine Calls.quiet_of_same (CT.out _ _ (by assumption)))
              | (go_at_call 23; refine Calls.quiet_of_same (F0.out _ (hTd.out _)))
              | (go_at_call 23; refine Calls.quiet_of_same (FS.out _ (hTd.out _))))
            go_wp2_with fail
            go_ret
            exact ⟨by simp, hg.trans ⟨rfl, rfl, rfl, Nat.le_refl _, fun _ _ => rfl⟩⟩
theorem parts_law (m : Nat) (n : Int) (hm : m < 18446744073709551616) (hn : -9223372036854775808 ≤ n ∧ n ≤ 9223372036854775807) (w : World) (hT : Tab w) : Calls Tryd.prog 8 #[.int .u64 m, .int .i64 n] w (IsYes w) := by
  have hlo := onl_lt m n hm
  have hhi : rest m n < 18446744073709551616 := Nat.lt_of_le_of_lt Nat.and_le_left hm
  have ll : ∀ y, (lst y).length ≤ 64 := fun y => by
    have := List.length_filter_le y.testBit (List.range 64)
    simpa [lst] using this
  have hsum : ones m = (lst (onl m n)).length + (lst (rest m n)).length := by
    rw [ones_lst]
    have h1 := filt_part m.testBit (fun i => decide (i < min n.toNat 64)) (List.range 64)
    have e1 : (onl m n).testBit = fun i => m.testBit i && decide (i < min n.toNat 64) := by
      funext i
      rw [onl_bit, Bool.and_comm]
    have e2 : (rest m n).testBit = fun i => m.testBit i && !decide (i < min n.toNat 64) := by
      funext i
      rw [rest_bit m n hm]
    unfold lst
    rw [e1, e2]
    exact h1.symm
  refine parts_as m (onl m n) (rest m n) n (fst m) (lst (onl m n)) (lst (rest m n)) w hT hn (u64_andNot_nat _ _ hm hlo) (ll _) (ll _) (fun x hx => ?_) (fun x hx => ?_) (fun x hx => ?_)
    (Lib.hid (fun w => only m n hm w)) (Lib.hid (fun w h => List_ _ hlo w h)) (Lib.hid (fun w h => List_ _ hhi w h)) (Lib.hid (fun x hx w => ?_)) hm hlo hhi (ones_lst _) (ones_lst _) hsum rfl
  · obtain ⟨h1, h2⟩ := lst_mem.1 hx
    rw [onl_bit] at h2
    simp at h2
    omega
  · obtain ⟨h1, h2⟩ := lst_mem.1 hx
    rw [rest_bit m n hm] at h2
    simp at h2
    omega
  · have hxm : x ∈ lst (onl m n) := List.mem_of_getElem? hx
    obtain ⟨h1, h2⟩ := lst_mem.1 hxm
    rw [onl_bit] at h2
    simp at h2
    have h0 : m ≠ 0 := by
      rintro rfl
      simp at h2
    obtain ⟨f1, f2, f3⟩ := tz_spec hm h0
    have hfx : tz m ≤ x := by
      apply Nat.le_of_not_lt
      intro h
      have := f3 x h
      rw [h2.2] at this
      cases this
    have hh := lst_head (y := onl m n) f1 (by rw [onl_bit, f2]; simp; omega) (fun i hi => by rw [onl_bit, f3 i hi]; simp)
    rw [hx] at hh
    cases hh
    unfold fst
    rw [if_neg h0]
  · obtain ⟨h1, h2⟩ := lst_mem.1 hx
    rw [onl_bit] at h2
    simp at h2
    have := has m (x : Int) hm w
    have e : has' m (x : Int) = true := by simp [has', h2.2]
    rw [e] at this
    exact this
theorem parts' (a b : Int) (ha : (Lit.int .u64 a).wf = true) (hb : (Lit.int .i64 b).wf = true) (w : World) (hT : Tab w) : Calls Tryd.prog 8 #[.int .u64 a, .int .i64 b] w (IsYes w) := by
  obtain ⟨m, rfl, hm⟩ := u64_nat ha
  exact parts_law m b hm (bounds_i64 hb) w hT
end Go.Proofs.YtmeojplfphmpnaaDoor.Mask
