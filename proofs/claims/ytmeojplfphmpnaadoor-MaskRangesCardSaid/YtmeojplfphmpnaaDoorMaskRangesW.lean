/- The law MaskRanges, walked. Conditions: both arguments are bytes; the listed table holds what it is listed with. -/
import Derived.Test.YtmeojplfphmpnaaDoorMaskLaws
import Derived.Test.YtmeojplfphmpnaaDoorMaskFigs
import Derived.Test.YtmeojplfphmpnaaDoorMaskSplit
import Derived.Test.YtmeojplfphmpnaaDoorMaskOnesP
import Derived.Laws.Concat
namespace Go.Proofs.YtmeojplfphmpnaaDoor.Mask
open Go.ChangeShapes Go.WideShapes Go.ChangeAt Go.RowKit
set_option linter.unusedVariables false
set_option linter.unusedSimpArgs false
set_option maxRecDepth 100000

theorem pair_parse (f l : Nat) (hf : f < 100) (hl : l < 100) : parse (dig f ++ 45 :: dig l) = if badP (f, l) then (0, 1) else (rw' f l, 0) := by
  have hd : ∀ n, ¬ (dig n).length = 0 := fun n h => by have := dig_len n; omega
  have e : (rd R.nil (dig f ++ 45 :: dig l)).bind R.end = some (cl (join1 (0, false) (f, l)).1 (join1 (0, false) (f, l)).2) := by
    show (rd ⟨0, false, false, 0, 0, 0⟩ (dig f ++ 45 :: dig l)).bind R.end = _
    rw [rd_append, rd_dig _ _ _ _ _ hf]
    simp only [Option.bind_some, rd]
    have e1 : R.take ⟨0, false, false, 0, f, (dig f).length⟩ (45 : UInt8).toNat = some ⟨0, false, true, f, 0, 0⟩ := by
      have := hd f
      simp [R.take, R.between, this]
    rw [e1]
    simp only [Option.bind_some]
    rw [rd_dig _ _ _ _ _ hl]
    simp only [Option.bind_some]
    unfold R.end
    rw [if_neg (hd l)]
    simp [join1, badP, R.bad, R.from, cl]
  unfold parse shut
  rw [if_neg (by simp [dig_ne]), e]
  simp only [cl, join1]
  by_cases hb : badP (f, l) = true
  · simp [hb]
  · simp [hb]
theorem p64 : parse [54, 52] = (0, 1) := by decide +kernel
theorem p0x : ∀ x, x < 64 → parse (48 :: dig x) = (0, 11) := by decide +kernel
theorem row_ones : ∀ x, x < 64 → ∀ y, y < 64 → x ≤ y → ones (rw' x y) = y - x + 1 := by decide +kernel
theorem row_fst : ∀ x, x < 64 → ∀ y, y < 64 → x ≤ y → fst (rw' x y) = (x : Int) := by decide +kernel
theorem row_has (x y : Nat) (h : x ≤ y) : has' (rw' x y) (y : Int) = true := by
  unfold has'
  rw [show (y : Int).toNat = y by omega, rw_bit x y y h]
  simp
  omega

theorem ranges_as (a b : Int) (x y : Nat) (r f : Int) (dx dy sx sy s1 s2 s3 s4 s5 : ByteArray) (w : World) (hT : Tab w) (ha : 0 ≤ a ∧ a ≤ 255) (hb : 0 ≤ b ∧ b ≤ 255) (hxy : x ≤ y) (hy : y < 64)
    (hm : (a % 64 = (x : Int) ∧ b % 64 = (y : Int)) ∨ (a % 64 = (y : Int) ∧ b % 64 = (x : Int)))
    (FX : Hid (∀ w, Calls Tryd.prog 24 #[.int .i64 x] w (fun e w' => e = .returned (.string dx) ∧ Below w.heap.size w w')))
    (FY : Hid (∀ w, Calls Tryd.prog 24 #[.int .i64 y] w (fun e w' => e = .returned (.string dy) ∧ Below w.heap.size w w')))
    (c1 : ∀ w, (Op.stringOp .add dx ⟨#[45]⟩).run Tryd.prog w = .ok (.string sx) w) (c2 : ∀ w, (Op.stringOp .add sx dy).run Tryd.prog w = .ok (.string s1) w)
    (c3 : ∀ w, (Op.stringOp .add dy ⟨#[45]⟩).run Tryd.prog w = .ok (.string sy) w) (c4 : ∀ w, (Op.stringOp .add sy dx).run Tryd.prog w = .ok (.string s2) w)
    (c5 : ∀ w, (Op.stringOp .add ⟨#[48]⟩ dx).run Tryd.prog w = .ok (.string s3) w)
    (P1 : Hid (∀ w, Calls Tryd.prog 11 #[.string s1] w (fun e w' => e = .returned (.tuple #[.int .u64 r, .int .i64 0]) ∧ Below w.heap.size w w')))
    (P2 : Hid (∀ w, ∃ z : Int, Calls Tryd.prog 11 #[.string s2] w (fun e w' => e = .returned (.tuple #[.int .u64 z, .int .i64 f]) ∧ Below w.heap.size w w')))
    (P3 : Hid (∀ w, Calls Tryd.prog 11 #[.string ⟨#[54, 52]⟩] w (fun e w' => e = .returned (.tuple #[.int .u64 0, .int .i64 1]) ∧ Below w.heap.size w w')))
    (P4 : Hid (∀ w, Calls Tryd.prog 11 #[.string s3] w (fun e w' => e = .returned (.tuple #[.int .u64 0, .int .i64 11]) ∧ Below w.heap.size w w')))
    (CT : Hid (∀ w, Calls Tryd.prog 22 #[.int .u64 r] w (IsI ((y : Int) - x + 1) w))) (FS : Hid (∀ w, Tab w → Calls Tryd.prog 23 #[.int .u64 r] w (IsI x w))) (HS : Hid (∀ w, Calls Tryd.prog 18 #[.int .u64 r, .int .i64 y] w (IsB true w)))
    (hf : (x = y ∧ f = 0) ∨ (x < y ∧ f = 1)) : Calls Tryd.prog 9 #[.int .u8 a, .int .u8 b] w (IsYes w) := by
  have A0 := Lib.hid (fun (w : World) (h : Tab w) => awake w h)
  have hg := Below.refl w.heap.size w
  obtain ⟨ha1, ha2⟩ := ha
  obtain ⟨hb1, hb2⟩ := hb
  have mn : min (x : Int) (y : Int) = x := by omega
  have mx : max (x : Int) (y : Int) = y := by omega
  have mn' : min (y : Int) (x : Int) = x := by omega
  have mx' : max (y : Int) (x : Int) = y := by omega
  rcases hf with ⟨rfl, rfl⟩ | ⟨hlt, rfl⟩
  · rcases hm with ⟨m1, m2⟩ | ⟨m1, m2⟩
    all_goals
      go_enter Tryd.func9, Tryd.ntmps9
      go_wp2_with (go_at_call 10; refine (A0.out _ (hT.fresh hg)).mono ?_; rintro e w1 ⟨rfl, hg1⟩; replace hg := fresh_trans hg hg1; clear hg1)
      refine (FX.out _).mono ?_; rintro e w1 ⟨rfl, hg1⟩; replace hg := fresh_trans hg hg1; clear hg1
      go_wp2_with fail
      refine (FY.out _).mono ?_; rintro e w1 ⟨rfl, hg1⟩; replace hg := fresh_trans hg hg1; clear hg1
      go_wp2_with fail
      refine (P1.out _).mono ?_; rintro e w1 ⟨rfl, hg1⟩; replace hg := fresh_trans hg hg1; clear hg1
      go_wp2_with fail
      refine (FY.out _).mono ?_; rintro e w1 ⟨rfl, hg1⟩; replace hg := fresh_trans hg hg1; clear hg1
      go_wp2_with fail
      refine (FX.out _).mono ?_; rintro e w1 ⟨rfl, hg1⟩; replace hg := fresh_trans hg hg1; clear hg1
      go_wp2_with fail
      obtain ⟨z, hz⟩ := P2.out _; refine hz.mono ?_; clear hz; rintro e w1 ⟨rfl, hg1⟩; replace hg := fresh_trans hg hg1; clear hg1
      go_wp2_with fail
      refine (P3.out _).mono ?_; rintro e w1 ⟨rfl, hg1⟩; replace hg := fresh_trans hg hg1; clear hg1
      go_wp2_with fail
      refine (FX.out _).mono ?_; rintro e w1 ⟨rfl, hg1⟩; replace hg := fresh_trans hg hg1; clear hg1
      go_wp2_with fail
      refine (P4.out _).mono ?_; rintro e w1 ⟨rfl, hg1⟩; replace hg := fresh_trans hg hg1; clear hg1
      go_wp2_with (first
        | (go_at_call 22; refine (CT.out _).mono ?_; rintro e w1 ⟨rfl, rfl⟩)
        | (go_at_call 23; refine (FS.out _ (hT.fresh hg)).mono ?_; rintro e w1 ⟨rfl, rfl⟩)
        | (go_at_call 18; refine (HS.out _).mono ?_; rintro e w1 ⟨rfl, rfl⟩))
      go_ret
      exact ⟨by simp, hg⟩
  · have hne : ((x : Int) == (y : Int)) = false := by simp; omega
    clear hlt
    rcases hm with ⟨m1, m2⟩ | ⟨m1, m2⟩
    all_goals
      go_enter Tryd.func9, Tryd.ntmps9
      go_wp2_with (go_at_call 10; refine (A0.out _ (hT.fresh hg)).mono ?_; rintro e w1 ⟨rfl, hg1⟩; replace hg := fresh_trans hg hg1; clear hg1)
      refine (FX.out _).mono ?_; rintro e w1 ⟨rfl, hg1⟩; replace hg := fresh_trans hg hg1; clear hg1
      go_wp2_with fail
      refine (FY.out _).mono ?_; rintro e w1 ⟨rfl, hg1⟩; replace hg := fresh_trans hg hg1; clear hg1
      go_wp2_with fail
      refine (P1.out _).mono ?_; rintro e w1 ⟨rfl, hg1⟩; replace hg := fresh_trans hg hg1; clear hg1
      go_wp2_with fail
      refine (FY.out _).mono ?_; rintro e w1 ⟨rfl, hg1⟩; replace hg := fresh_trans hg hg1; clear hg1
      go_wp2_with fail
      refine (FX.out _).mono ?_; rintro e w1 ⟨rfl, hg1⟩; replace hg := fresh_trans hg hg1; clear hg1
      go_wp2_with fail
      obtain ⟨z, hz⟩ := P2.out _; refine hz.mono ?_; clear hz; rintro e w1 ⟨rfl, hg1⟩; replace hg := fresh_trans hg hg1; clear hg1
      go_wp2_with fail
      refine (P3.out _).mono ?_; rintro e w1 ⟨rfl, hg1⟩; replace hg := fresh_trans hg hg1; clear hg1
      go_wp2_with fail
      refine (FX.out _).mono ?_; rintro e w1 ⟨rfl, hg1⟩; replace hg := fresh_trans hg hg1; clear hg1
      go_wp2_with fail
      refine (P4.out _).mono ?_; rintro e w1 ⟨rfl, hg1⟩; replace hg := fresh_trans hg hg1; clear hg1
      go_wp2_with (first
        | (go_at_call 22; refine (CT.out _).mono ?_; rintro e w1 ⟨rfl, rfl⟩)
        | (go_at_call 23; refine (FS.out _ (hT.fresh hg)).mono ?_; rintro e w1 ⟨rfl, rfl⟩)
        | (go_at_call 18; refine (HS.out _).mono ?_; rintro e w1 ⟨rfl, rfl⟩))
      go_ret
      exact ⟨by simp, hg⟩

theorem ranges (a b : Int) (ha : (Lit.int .u8 a).wf = true) (hb : (Lit.int .u8 b).wf = true) (w : World) (hT : Tab w) : Calls Tryd.prog 9 #[.int .u8 a, .int .u8 b] w (IsYes w) := by
  have ha' := bounds_u8 ha
  have hb' := bounds_u8 hb
  obtain ⟨x, y, hxy, hy, hm⟩ : ∃ x y : Nat, x ≤ y ∧ y < 64 ∧ ((a % 64 = (x : Int) ∧ b % 64 = (y : Int)) ∨ (a % 64 = (y : Int) ∧ b % 64 = (x : Int))) := by
    by_cases h : a % 64 ≤ b % 64
    · exact ⟨(a % 64).toNat, (b % 64).toNat, by omega, by omega, .inl ⟨by omega, by omega⟩⟩
    · exact ⟨(b % 64).toNat, (a % 64).toNat, by omega, by omega, .inr ⟨by omega, by omega⟩⟩
  have hx : x < 64 := by omega
  have zx : ∀ n, (⟨(dig n).toArray⟩ : ByteArray).size ≤ 2 := fun n => by have := (dig_len n).2; simpa [ByteArray.size] using this
  have z45 : (⟨#[45]⟩ : ByteArray).size = 1 := rfl
  have z48 : (⟨#[48]⟩ : ByteArray).size = 1 := rfl
  have zs : ∀ n, ((⟨(dig n).toArray⟩ : ByteArray) ++ (⟨#[45]⟩ : ByteArray)).size ≤ 3 := fun n => by rw [ByteArray.size_append]; have := zx n; omega
  have zx1 := zx x
  have zx2 := zx y
  have zs1 := zs x
  have zs2 := zs y
  have D : ∀ f l, ((⟨(dig f).toArray⟩ : ByteArray) ++ (⟨#[45]⟩ : ByteArray) ++ (⟨(dig l).toArray⟩ : ByteArray)).data.toList = dig f ++ 45 :: dig l := fun f l => by simp
  have D3 : ((⟨#[48]⟩ : ByteArray) ++ (⟨(dig x).toArray⟩ : ByteArray)).data.toList = 48 :: dig x := by simp
  have hrl := rw_lt x y hy
  have hgood : badP (x, y) = false := by simp [badP]; omega
  have p1 := pair_parse x y (by omega) (by omega)
  rw [hgood, if_neg (by decide)] at p1
  have P1 := fun w => Parse ((⟨(dig x).toArray⟩ : ByteArray) ++ (⟨#[45]⟩ : ByteArray) ++ (⟨(dig y).toArray⟩ : ByteArray)) _ (D x y).symm w
  unfold IsParse at P1
  rw [p1] at P1
  have P2 := fun w => Parse ((⟨(dig y).toArray⟩ : ByteArray) ++ (⟨#[45]⟩ : ByteArray) ++ (⟨(dig x).toArray⟩ : ByteArray)) _ (D y x).symm w
  unfold IsParse at P2
  have P3 := fun w => Parse (⟨#[54, 52]⟩ : ByteArray) [54, 52] rfl w
  unfold IsParse at P3
  rw [p64] at P3
  have P4 := fun w => Parse ((⟨#[48]⟩ : ByteArray) ++ (⟨(dig x).toArray⟩ : ByteArray)) _ D3.symm w
  unfold IsParse at P4
  rw [p0x x hx] at P4
  have CT := fun w => count (rw' x y) hrl w
  rw [row_ones x hx y hy hxy] at CT
  have FS := fun w h => first (rw' x y) hrl w h
  rw [row_fst x hx y hy hxy] at FS
  have HS := fun w => has (rw' x y) y hrl w
  rw [row_has x y hxy] at HS
  refine ranges_as a b x y (rw' x y : Int) (parse (dig y ++ 45 :: dig x)).2 _ _ _ _ _ _ _ ⟨#[]⟩ ⟨#[]⟩ w hT ha' hb' hxy hy hm (Lib.hid (fun w => figs x (by omega) w)) (Lib.hid (fun w => figs y (by omega) w))
    (fun w => run_string_add_sum w _ _ (by omega)) (fun w => run_string_add_sum w _ _ (by omega)) (fun w => run_string_add_sum w _ _ (by omega)) (fun w => run_string_add_sum w _ _ (by omega)) (fun w => run_string_add_sum w _ _ (by omega))
    (Lib.hid P1) (Lib.hid (fun w => ⟨_, P2 w⟩)) (Lib.hid P3) (Lib.hid P4) (Lib.hid (fun w => ?_)) (Lib.hid FS) (Lib.hid HS) ?_
  · have := CT w
    rw [show ((y - x + 1 : Nat) : Int) = (y : Int) - x + 1 by omega] at this
    exact this
  · rw [pair_parse y x (by omega) (by omega)]
    rcases Nat.lt_or_ge x y with h | h
    · refine .inr ⟨h, ?_⟩
      rw [if_pos (by simp [badP]; omega)]
    · refine .inl ⟨by omega, ?_⟩
      rw [if_neg (by simp [badP]; omega)]
end Go.Proofs.YtmeojplfphmpnaaDoor.Mask
