/- The walk of ShareScales. Conditions: each argument is a number of its kind. -/
import Derived.Test.YtkegbagmgjlniaaShareLawsB
import Derived.Deep.RegionWith
import Derived.Deep.RegionHeld3
namespace Go.Proofs.Ytkegbagmgjlniaa.Share
open Go.ChangeShapes Go.WideShapes Go.ChangeAt Go.RowKit Wide
set_option linter.unusedVariables false
set_option linter.unusedSimpArgs false

structure Tri (B : Nat) (w : World) (v1 : Value) (n1 : Nat) (f1 : Nat → Int) (v2 : Value) (n2 : Nat) (f2 : Nat → Int) (v3 : Value) (n3 : Nat) (f3 : Nat → Int) : Prop where
  o1 : OwnU B w v1 n1 f1
  o2 : OwnU B w v2 n2 f2
  o3 : OwnU B w v3 n3 f3
  x12 : ∀ j, v1.ownBlock = some j → v2.ownBlock ≠ some j
  x13 : ∀ j, v1.ownBlock = some j → v3.ownBlock ≠ some j
  x23 : ∀ j, v2.ownBlock = some j → v3.ownBlock ≠ some j
def ThreeI (f1 f2 f3 : Nat → Int) (n : Nat) (w : World) (left : Nat) (t8 t9 t10 t11 : Value) (wr : World) : Prop :=
  ∃ k : Nat, left + k = n ∧ t11 = .int .i64 k ∧ Tri w.heap.size wr t8 k f1 t9 k f2 t10 k f3 ∧ Below w.heap.size w wr
theorem own_lt {w : World} {B : Nat} {v : Value} {k : Nat} {f : Nat → Int} (h : OwnU B w v k f) (H : Nat) (hH : w.heap.size ≤ H) : ∀ j, v.ownBlock = some j → j < H := fun j hj => Nat.lt_of_lt_of_le (h.lt j hj).2 hH
theorem own_step {w : World} {B g c k : Nat} {f : Nat → Int} (h : w.ownsRow B 22 1 (.slice (some ⟨g, 0, none⟩) (k + 1) c) (k + 1) (us f k ++ [.int .u64 (f k)])) : OwnU B w (.slice (some ⟨g, 0, none⟩) (k + 1) c) (k + 1) f := by
  unfold OwnU; rw [us_succ]; exact h
theorem Tri.rot {B : Nat} {w : World} {v1 v2 v3 : Value} {n1 n2 n3 : Nat} {f1 f2 f3 : Nat → Int} (h : Tri B w v1 n1 f1 v2 n2 f2 v3 n3 f3) : Tri B w v2 n2 f2 v3 n3 f3 v1 n1 f1 := ⟨h.o2, h.o3, h.o1, h.x23, sep_sym h.x12, sep_sym h.x13⟩
theorem Tri.app {B : Nat} {w w' : World} {v1 v2 v3 : Value} {k n2 n3 : Nat} {f1 f2 f3 : Nat → Int} {o : Obj} {g c : Nat} {x : Int} (h : Tri B w v1 k f1 v2 n2 f2 v3 n3 f3) (hx : x = f1 k)
    (hown : w'.ownsRow B 22 1 (.slice (some ⟨g, 0, none⟩) (k + 1) c) (k + 1) (us f1 k ++ [.int .u64 x])) (hgrow : (w.alloc o).grownBy w' v1.ownBlock) (hat : v1.ownBlock = some g ∨ g = w.heap.size + 1) :
    Tri B w' v2 n2 f2 v3 n3 f3 (.slice (some ⟨g, 0, none⟩) (k + 1) c) (k + 1) f1 := by
  subst hx
  exact ⟨keep h.o2 hgrow (sep_sym h.x12), keep h.o3 hgrow (sep_sym h.x13), own_step hown, h.x23, sep_sym (sep h.x12 hat (own_lt h.o2 _ (Nat.le_succ _))), sep_sym (sep h.x13 hat (own_lt h.o3 _ (Nat.le_succ _)))⟩
def BackI (n : Nat) (w : World) (left : Nat) (t14 : Value) (wr : World) : Prop := ∃ k : Nat, left + k = n ∧ t14 = .int .i64 k ∧ Below w.heap.size w wr

set_option maxRecDepth 100000 in
set_option maxHeartbeats 4000000 in
theorem scalesLaw (s : Int) (v : Option Addr) (n cap : Nat) (by_ : Int) (z : Nat → Int) (w : World) (hs : U64 s) (hn : n ≤ 9223372036854775807) (hz : ∀ j, j < n → 0 ≤ z j ∧ z j ≤ 4294967295) (hc : Lies .u32 v n z w) (q0 : 0 ≤ by_) (q1 : by_ ≤ 65535) :
    Calls Try.prog 8 #[.int .u64 s, .slice v n cap, .int .u16 by_] w (Yes w) := by
  have S := Lib.hid (fun w => shown w)
  have hg := Below.refl w.heap.size w
  have HZ := Lib.hid hz
  have HC := Lib.hid hc
  have HS := Lib.hid hs
  clear hz hc hs
  obtain ⟨i0, hi, hz0, hz1, hz2⟩ := info_parts infoU
  by_cases h2 : (200 : Int) < n
  · go_enter Try.func8, Try.ntmps8
    go_wp2_with (go_at_call 9; refine (S.out _).mono ?_; rintro e w' ⟨rfl, hg1⟩; replace hg := fresh_trans hg hg1; clear hg1)
    go_ret
    exact yes_of rfl hg
  by_cases hb0 : by_ = 0
  · subst hb0
    go_enter Try.func8, Try.ntmps8
    go_wp2_with (go_at_call 9; refine (S.out _).mono ?_; rintro e w' ⟨rfl, hg1⟩; replace hg := fresh_trans hg hg1; clear hg1)
    go_ret
    exact yes_of rfl hg
  have hb1 : (by_ == 0) = false := by simpa using hb0
  have P0 := Lib.hid (show 0 < by_ by omega)
  have s0 := sum_pos (n := n) (fun j hj => (HZ.out j hj).1)
  have s1 := sum_bd (n := n) (fun j hj => (HZ.out j hj).2)
  have M0 : ∀ j, j < n → 0 ≤ z j * by_ ∧ z j * by_ ≤ 281470681677825 := fun j hj => by
    obtain ⟨h0, h1⟩ := HZ.out j hj
    refine ⟨Int.mul_nonneg h0 q0, ?_⟩
    have := Int.mul_le_mul h1 q1 q0 (by omega)
    omega
  have T1 : tot z n = sum z n := by have := tot_eq (n := n) (fun j hj => (HZ.out j hj).1); omega
  have T2 : tot (fun j => z j * by_) n = sum z n * by_ := by
    have e := tot_eq (z := fun j => z j * by_) (n := n) (fun j hj => (M0 j hj).1)
    have e2 := sum_bd (z := fun j => z j * by_) (n := n) (fun j hj => (M0 j hj).2)
    have e3 := sum_scale z by_ n
    rw [e3] at e e2
    omega
  have T3 : tot (fun j => z (n - 1 - j)) n = sum z n := by
    have e := tot_eq (z := fun j => z (n - 1 - j)) (n := n) (fun j hj => (HZ.out _ (by omega)).1)
    rw [sum_back] at e
    omega
  have SP : Hid (∀ (f : Nat → Int) (a : Option Addr) (c : Nat) (w : World), (∀ j, j < n → U64 (f j)) → Lies .u64 a n f w → Calls Try.prog 15 #[.int .u64 s, .slice a n c] w (Rowed n (fun j => wt s (f j) (tot f n)) w)) :=
    Lib.hid fun f a c w h hl => splits s a n c f w HS.out (by omega) (Lib.hid h) (Lib.hid hl)
  have A1 : Hid (∀ (a : Option Addr) (c : Nat) (w : World), Lies .u64 a n z w → Calls Try.prog 15 #[.int .u64 s, .slice a n c] w (Rowed n (fun j => wt s (z j) (sum z n)) w)) := Lib.hid fun a c w hl => by
    have := SP.out z a c w (fun j hj => by have := HZ.out j hj; unfold U64; omega) hl
    rwa [T1] at this
  have A2 : Hid (∀ (a : Option Addr) (c : Nat) (w : World), Lies .u64 a n (fun j => z j * by_) w → Calls Try.prog 15 #[.int .u64 s, .slice a n c] w (Rowed n (fun j => wt s (z j) (sum z n)) w)) := Lib.hid fun a c w hl => by
    refine (SP.out _ a c w (fun j hj => by have := M0 j hj; unfold U64; omega) hl).mono ?_
    rintro e w' ⟨ao, cp, rfl, h1, h2⟩
    exact ⟨ao, cp, rfl, h1.congr fun j hj => by rw [T2, wt_scale P0.out s0], h2⟩
  have A3 : Hid (∀ (a : Option Addr) (c : Nat) (w : World), Lies .u64 a n (fun j => z (n - 1 - j)) w → Calls Try.prog 15 #[.int .u64 s, .slice a n c] w (Rowed n (fun j => wt s (z (n - 1 - j)) (sum z n)) w)) := Lib.hid fun a c w hl => by
    have := SP.out (fun j => z (n - 1 - j)) a c w (fun j hj => by have := HZ.out (n - 1 - j) (by omega); unfold U64; omega) hl
    rwa [T3] at this
  have MM := Lib.hid M0
  clear SP T1 T2 T3 M0 s0 s1 hb0
  go_enter Try.func8, Try.ntmps8
  go_wp2_with (go_at_call 9; refine (S.out _).mono ?_; rintro e w1 ⟨rfl, hg1⟩; replace hg := fresh_trans hg hg1; clear hg1)
  replace HC := Lib.hid (HC.out.fresh hg)
  go_loopg [8, 9, 10, 11] n (fun left t8 t9 t10 t11 wr => ThreeI z (fun j => z j * by_) (fun j => z (n - 1 - j)) n w1 left t8 t9 t10 t11 wr)
  case atStart => exact ⟨0, by omega, rfl, ⟨World.ownsRow_nil _ _ _ _, World.ownsRow_nil _ _ _ _, World.ownsRow_nil _ _ _ _, fun j hj => (by cases hj), fun j hj => (by cases hj), fun j hj => (by cases hj)⟩, Below.refl _ _⟩
  case round =>
    obtain ⟨k, hk, rfl, TR, hb⟩ := hrel
    by_cases hlt : k < n
    · have h3 : (k : Int) < n := by omega
      obtain ⟨b, o, rfl, hbl, hc1⟩ := HC.out k hlt
      obtain ⟨b', o', e', hbl', hc2⟩ := HC.out (n - 1 - k) (by omega)
      cases e'
      obtain ⟨m0, m1⟩ := MM.out k hlt
      obtain ⟨z0, z1⟩ := HZ.out k hlt
      obtain ⟨y0, y1⟩ := HZ.out (n - 1 - k) (by omega)
      have C1 : Hid (∀ w', Below w1.heap.size w1 w' → w'.cell? ⟨b, o + k, none⟩ = some (.int .u32 (z k))) := Lib.hid fun w' h => (h.cell (p := ⟨b, o + k, none⟩) hbl).trans hc1
      have C2 : Hid (∀ w', Below w1.heap.size w1 w' → w'.cell? ⟨b, o + (n - 1 - k), none⟩ = some (.int .u32 (z (n - 1 - k)))) := Lib.hid fun w' h => (h.cell (p := ⟨b, o + (n - 1 - k), none⟩) hbl).trans hc2
      have EV1 : Hid (z k = z k) := Lib.hid rfl
      obtain ⟨p, hp⟩ : ∃ p, z k * by_ = p := ⟨_, rfl⟩
      have EV2 : Hid (p = (fun j => z j * by_) k) := Lib.hid hp.symm
      have EV3 : Hid (z (n - 1 - k) = (fun j => z (n - 1 - j)) k) := Lib.hid rfl
      have nk : (n : Int) - 1 - k = ((n - 1 - k : Nat) : Int) := by omega
      have nk1 : n - 1 - k < n := by omega
      rw [hp] at m0 m1
      generalize hzk : z k = zk at *
      generalize hzb : z (n - 1 - k) = zb at *
      generalize hnk : n - 1 - k = j at *
      have EV1' : Hid (zk = z k) := Lib.hid hzk.symm
      have EV3' : Hid (zb = (fun j => z (n - 1 - j)) k) := EV3
      clear hzk hzb hnk EV1 EV3
      have EV1 := EV1'
      have EV3 := EV3'
      clear EV1' EV3'
      have j0 : (0 : Int) ≤ (j : Int) := by omega
      have j1 : (j : Int) < n := by omega
      have T0 := Lib.hid TR
      have hbwr := Lib.hid hb
      have hzwr : w1.heap.size ≤ wr.heap.size := hb.size
      have d1 := fun o' => cell_alloc (C1.out _ hb) o'
      have d0 := C1.out _ hb
      clear TR hb hc1 hc2
      go_upto_region 11 with (at_builtin; refine wpList_append_lies _ rfl (.tmp 30) (.tmp 36) 27 rfl w1.heap.size 22 i0 _ 1 8 Try.underlying27 hi hz0 hz1 hz2 rfl (by decide) _ k _ rfl (T0.out.o1.alloc _) ⟨wr.heap.size, 0, none⟩ 1 1 [.int .u64 zk] rfl rfl (World.news_of_block (heap_alloc_new wr _)) (by simp [Value.oneCell']) (by decide) (by simp only [maxLen]; omega) (by omega) (by rw [World.size_alloc]; exact Nat.le_succ_of_le hzwr) (wr.heap.size + 1) (World.size_alloc _ _) ?_; intro g1 c1 w2 own1 grow1 at1 lt1; have T1 := Lib.hid (T0.out.app EV1.out own1 grow1 at1); have B1 := Lib.hid ((hbwr.out.alloc hzwr _).grown grow1 (by rw [World.size_alloc]; exact Nat.le_succ_of_le hzwr) (fun j hj => (T0.out.o1.lt j hj).1)); clear own1 grow1 at1)
      have hbw2 := B1
      have hzw2 : w1.heap.size ≤ w2.heap.size := B1.out.size
      have e0 := C1.out _ B1.out
      clear d0 d1
      go_upto_region 12 with (at_builtin; refine wpList_append_lies _ rfl (.tmp 38) (.tmp 47) 27 rfl w1.heap.size 22 i0 _ 1 8 Try.underlying27 hi hz0 hz1 hz2 rfl (by decide) _ k _ rfl (T1.out.o1.alloc _) ⟨w2.heap.size, 0, none⟩ 1 1 [.int .u64 p] rfl rfl (World.news_of_block (heap_alloc_new w2 _)) (by simp [Value.oneCell']) (by decide) (by simp only [maxLen]; omega) (by omega) (by rw [World.size_alloc]; exact Nat.le_succ_of_le hzw2) (w2.heap.size + 1) (World.size_alloc _ _) ?_; intro g2 c2 w3 own2 grow2 at2 lt2; have T2 := Lib.hid (T1.out.app EV2.out own2 grow2 at2); have B2 := Lib.hid ((hbw2.out.alloc hzw2 _).grown grow2 (by rw [World.size_alloc]; exact Nat.le_succ_of_le hzw2) (fun j hj => (T1.out.o1.lt j hj).1)); clear own2 grow2 at2)
      have hbw3 := B2
      have hzw3 : w1.heap.size ≤ w3.heap.size := B2.out.size
      have f0 := C2.out _ B2.out
      clear e0
      go_upto_region 9 with (at_builtin; refine wpList_append_lies _ rfl (.tmp 49) (.tmp 59) 27 rfl w1.heap.size 22 i0 _ 1 8 Try.underlying27 hi hz0 hz1 hz2 rfl (by decide) _ k _ rfl (T2.out.o1.alloc _) ⟨w3.heap.size, 0, none⟩ 1 1 [.int .u64 zb] rfl rfl (World.news_of_block (heap_alloc_new w3 _)) (by simp [Value.oneCell']) (by decide) (by simp only [maxLen]; omega) (by omega) (by rw [World.size_alloc]; exact Nat.le_succ_of_le hzw3) (w3.heap.size + 1) (World.size_alloc _ _) ?_; intro g3 c3 w4 own3 grow3 at3 lt3; have T3 := Lib.hid (T2.out.app EV3.out own3 grow3 at3); have B3 := Lib.hid ((hbw3.out.alloc hzw3 _).grown grow3 (by rw [World.size_alloc]; exact Nat.le_succ_of_le hzw3) (fun j hj => (T2.out.o1.lt j hj).1)); clear own3 grow3 at3)
      go_wp2
      go_roundg (gk - 1)
      case measure => omega
      case rel => exact ⟨k + 1, by omega, by go_num, T3.out, B3.out⟩
    · have h3 : ¬ (k : Int) < n := by omega
      obtain rfl : k = n := by omega
      obtain ⟨a1, c1, rfl, l1⟩ := lies_own TR.o1
      obtain ⟨a2, c2, rfl, l2⟩ := lies_own TR.o2
      obtain ⟨a3, c3, rfl, l3⟩ := lies_own TR.o3
      have L1 := Lib.hid l1
      have L2 := Lib.hid l2
      have L3 := Lib.hid l3
      have HB := Lib.hid hb
      have FE : Hid (∀ j, j < k → wt s (z (k - 1 - (k - 1 - j))) (sum z k) = wt s (z j) (sum z k)) := Lib.hid fun j hj => by rw [show k - 1 - (k - 1 - j) = j by omega]
      generalize hf : (fun j => wt s (z j) (sum z k)) = f at *
      generalize hh : (fun j => wt s (z (k - 1 - j)) (sum z k)) = h at *
      have FH : Hid (∀ j, j < k → h (k - 1 - j) = f j) := Lib.hid fun j hj => by rw [← hf, ← hh]; exact FE.out j hj
      clear hf hh FE TR l1 l2 l3 hb
      go_wp2_with (first
        | (go_at_call 15; first
          | ((with_reducible refine (A1.out _ _ _ L1.out).mono ?_); rintro e w2 ⟨ao, cp, rfl, hl2, hg2⟩; replace hl2 := Lib.hid hl2; replace L1 := Lib.hid (L1.out.fresh hg2); replace L2 := Lib.hid (L2.out.fresh hg2); replace L3 := Lib.hid (L3.out.fresh hg2); replace hg := fresh_trans hg (fresh_trans HB.out hg2); clear HB L1)
          | ((with_reducible refine (A3.out _ _ _ L3.out).mono ?_); rintro e w3 ⟨ao3, cp3, rfl, hl3, hg3⟩; replace hl3 := Lib.hid hl3; replace hl2 := Lib.hid (hl2.out.fresh hg3); replace L2 := Lib.hid (L2.out.fresh hg3); replace hg := fresh_trans hg hg3; clear hg3 L3)
          | ((with_reducible refine (A2.out _ _ _ L2.out).mono ?_); rintro e w4 ⟨ao4, cp4, rfl, hl4, hg4⟩; replace hl4 := Lib.hid hl4; replace hl2 := Lib.hid (hl2.out.fresh hg4); replace hl3 := Lib.hid (hl3.out.fresh hg4); replace hg := fresh_trans hg hg4; clear hg4 L2))
        | (go_at_call 14; refine (same _ _ k _ _ f f _ (by omega) hl2 hl4 (Lib.hid fun _ _ => rfl)).mono ?_; rintro e w5 ⟨rfl, hg5⟩; replace hl2 := Lib.hid (hl2.out.fresh hg5); replace hl3 := Lib.hid (hl3.out.fresh hg5); replace hg := fresh_trans hg hg5; clear hg5))
      go_loopg [14] k (fun left t14 wr => BackI k w5 left t14 wr)
      case atStart => exact ⟨0, by omega, rfl, Below.refl _ _⟩
      case round =>
        obtain ⟨i, hik, rfl, hbi⟩ := hrel
        have hgb := fresh_trans hg hbi
        by_cases hli : i < k
        · have h5 : (i : Int) < k := by omega
          obtain ⟨b1, o1, rfl, l1, k1⟩ := (hl2.out.fresh hbi) i hli
          obtain ⟨b2, o2, rfl, l2, k2⟩ := (hl3.out.fresh hbi) (k - 1 - i) (by omega)
          rw [FH.out i hli] at k2
          have ni : (k : Int) - 1 - i = ((k - 1 - i : Nat) : Int) := by omega
          have ni1 : k - 1 - i < k := by omega
          generalize k - 1 - i = m at *
          generalize f i = x at *
          have g0 : (0 : Int) ≤ (m : Int) := by omega
          have g1 : (m : Int) < k := by omega
          have g2 : (m : Int) ≤ k := by omega
          have g3 : (0 : Int) ≤ (i : Int) := by omega
          have g4 : (i : Int) ≤ k := by omega
          go_wp2_with fail
          go_region
          go_wp2_with fail
          go_roundg (gk - 1)
          case measure => omega
          case rel => exact ⟨i + 1, by omega, by go_num, hbi.drew⟩
        · have h5 : ¬ (i : Int) < k := by omega
          go_wp2_with fail
          go_ret
          exact yes_of rfl hgb
end Go.Proofs.Ytkegbagmgjlniaa.Share
