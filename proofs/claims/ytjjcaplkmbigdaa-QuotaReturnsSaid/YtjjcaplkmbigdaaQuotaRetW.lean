/- The walk of QuotaReturns. Conditions: each number is one of its kind. -/
import Derived.Test.YtjjcaplkmbigdaaQuotaCalls
namespace Go.Proofs.Ytjjcaplkmbigdaa.Quota
open Go.ChangeShapes Go.WideShapes Go.ChangeAt Go.RowKit Mem
open Fix (I64)
set_option linter.unusedVariables false
set_option linter.unusedSimpArgs false
set_option maxRecDepth 100000

theorem r1 {q s : Int} (h1 : 1 ≤ q) (h2 : q ≤ 1099511627776) (h3 : 1 ≤ s) (h4 : s ≤ 1099511627776) : setS (newS 3) q s = ⟨q, s, q, [0, 0, 0], 0⟩ := by
  have : badSet q s = false := by simp [badSet]; omega
  simp only [setS, this]
  rw [if_neg (by omega : ¬ q = 0)]
  rfl
theorem r2 {q s n : Int} (h1 : 1 ≤ q) (hn : n = min q s) : ensS ⟨q, s, q, [0, 0, 0], 0⟩ 0 = ⟨q, s, q - n, [n, 0, 0], 0⟩ := by
  subst hn
  have h : lim ⟨q, s, q, [0, 0, 0], 0⟩ = true := by simp [lim]; omega
  simp [ensS, h, here, Bd.at, drawS]
theorem r2b {q s n : Int} (h1 : 1 ≤ q) (h3 : 1 ≤ n) (hn : n = min q s) : ensB ⟨q, s, q, [0, 0, 0], 0⟩ 0 = true := by
  have h : lim ⟨q, s, q, [0, 0, 0], 0⟩ = true := by simp [lim]; omega
  simp only [ensB, h, r2 h1 hn]
  simp [here, Bd.at]; omega
theorem r3 {q s n : Int} (h3 : 1 ≤ n) : retS ⟨q, s, q - n, [n, 0, 0], 0⟩ 0 = ⟨q, s, q, [0, 0, 0], 0⟩ := by
  have h : decide (0 < (⟨q, s, q - n, [n, 0, 0], 0⟩ : Bd).at (0 : Int).toNat) = true := by simp [Bd.at]; omega
  simp only [retS, h]
  simp [here, Bd.at]
theorem r4 {q s n : Int} (h1 : 1 ≤ q) (hn : n = min q s) : ensS ⟨q, s, q, [0, 0, 0], 0⟩ 1 = ⟨q, s, q - n, [0, n, 0], 0⟩ := by
  subst hn
  have h : lim ⟨q, s, q, [0, 0, 0], 0⟩ = true := by simp [lim]; omega
  simp [ensS, h, here, Bd.at, drawS]
theorem r4b {q s n : Int} (h1 : 1 ≤ q) (h3 : 1 ≤ n) (hn : n = min q s) : ensB ⟨q, s, q, [0, 0, 0], 0⟩ 1 = true := by
  have h : lim ⟨q, s, q, [0, 0, 0], 0⟩ = true := by simp [lim]; omega
  simp only [ensB, h, r4 h1 hn]
  simp [here, Bd.at]; omega

set_option maxHeartbeats 1000000 in
theorem returnsLaw (t0 t1 : Int) (w : World) (h0 : 0 ≤ t0) (h1 : t0 < 4294967296) (h2 : 0 ≤ t1) (h3 : t1 < 4294967296) : Calls Try.prog 8 #[.agg #[.int .u32 t0, .int .u32 t1]] w (Yes w) := by
  have ST := Lib.hid (fun w1 => sets w1 w1 2 t0 t1 (Below.refl _ w1) (by omega) (by omega) h0 h1 h2 h3)
  rw [show psOf 2 = 3 from rfl] at ST
  unfold IsSet at ST
  rw [r1 (q := 1 + t0) (s := 1 + t1) (by omega) (by omega) (by omega) (by omega)] at ST
  obtain ⟨n, hn⟩ : ∃ n, n = min (1 + t0) (1 + t1) := ⟨_, rfl⟩
  have n1 : 1 ≤ n := by omega
  have n2 : n ≤ 1 + t0 := by omega
  have I0 : Inv 0 0 ⟨1 + t0, 1 + t1, 1 + t0, [0, 0, 0], 0⟩ := by
    rw [← r1 (q := 1 + t0) (s := 1 + t1) (by omega) (by omega) (by omega) (by omega)]
    exact (Inv.new 3 (by omega) (by omega)).set _ _ (by omega)
  have I1 := I0.ens 0
  rw [r2 (by omega) hn] at I1
  have E0 := Lib.hid (fun w0 O b w1 (h : Held w0 O b ⟨1 + t0, 1 + t1, 1 + t0, [0, 0, 0], 0⟩ w1) => h.ens 0 I0 (by omega))
  rw [r2b (by omega) n1 hn, r2 (by omega) hn] at E0
  have E1 := Lib.hid (fun w0 O b w1 (h : Held w0 O b ⟨1 + t0, 1 + t1, 1 + t0, [0, 0, 0], 0⟩ w1) => h.ens 1 I0 (by omega))
  rw [r4b (by omega) n1 hn, r4 (by omega) hn] at E1
  have R0 := Lib.hid (fun w0 O b w1 (h : Held w0 O b ⟨1 + t0, 1 + t1, 1 + t0 - n, [n, 0, 0], 0⟩ w1) => h.ret 0 I1)
  rw [r3 n1] at R0
  have P0 := Lib.hid (fun w0 O b w1 (h : Held w0 O b ⟨1 + t0, 1 + t1, 1 + t0, [0, 0, 0], 0⟩ w1) => pool w1 b O _ h.band)
  have P1 := Lib.hid (fun w0 O b w1 (h : Held w0 O b ⟨1 + t0, 1 + t1, 1 + t0 - n, [n, 0, 0], 0⟩ w1) => pool w1 b O _ h.band)
  have L0 := Lib.hid (fun w0 O b w1 (h : Held w0 O b ⟨1 + t0, 1 + t1, 1 + t0 - n, [n, 0, 0], 0⟩ w1) => locals w1 b O _ 0 h.band)
  have L1 := Lib.hid (fun w0 O b w1 (h : Held w0 O b ⟨1 + t0, 1 + t1, 1 + t0 - n, [0, n, 0], 0⟩ w1) => locals w1 b O _ 0 h.band)
  have L2 := Lib.hid (fun w0 O b w1 (h : Held w0 O b ⟨1 + t0, 1 + t1, 1 + t0 - n, [0, n, 0], 0⟩ w1) => locals w1 b O _ 1 h.band)
  rw [show (⟨1 + t0, 1 + t1, 1 + t0 - n, [n, 0, 0], 0⟩ : Bd).local 0 = n from rfl] at L0
  rw [show (⟨1 + t0, 1 + t1, 1 + t0 - n, [0, n, 0], 0⟩ : Bd).local 0 = 0 from rfl] at L1
  rw [show (⟨1 + t0, 1 + t1, 1 + t0 - n, [0, n, 0], 0⟩ : Bd).local 1 = n from rfl] at L2
  simp only at P0 P1
  clear I0 I1 hn
  generalize hd0 : (⟨1 + t0, 1 + t1, 1 + t0, [0, 0, 0], 0⟩ : Bd) = d0 at *
  generalize hd1 : (⟨1 + t0, 1 + t1, 1 + t0 - n, [n, 0, 0], 0⟩ : Bd) = d1 at *
  generalize hd2 : (⟨1 + t0, 1 + t1, 1 + t0 - n, [0, n, 0], 0⟩ : Bd) = d2 at *
  clear hd0 hd1 hd2
  obtain ⟨q, hq⟩ : ∃ q, q = 1 + t0 := ⟨_, rfl⟩
  rw [← hq] at P0 P1 n2
  obtain ⟨r, hr⟩ : ∃ r, r = q - n := ⟨_, rfl⟩
  rw [← hr] at P1
  have n3 : n + r = q := by omega
  have q0 : 0 ≤ q := by omega
  have q1 : q ≤ 4294967296 := by omega
  have r0 : 0 ≤ r := by omega
  have n4 : decide (1 ≤ n) = true := by simpa using n1
  clear hr hq h0 h1 h2 h3
  have hgA := alloc1 w (.cells #[.int .u32 t0, .int .u32 t1] 52)
  have hA := heap_alloc_new w (.cells #[.int .u32 t0, .int .u32 t1] 52)
  go_enter Try.func8, Try.ntmps8
  go_wp2_with fail
  generalize w.alloc (.cells #[.int .u32 t0, .int .u32 t1] 52) = W at *
  go_at_call 10; refine (awake _).mono ?_; rintro e w1 ⟨rfl, hg1⟩
  have hA1 := (hg1.block _ (lt_of hA)).trans hA
  obtain ⟨a0, a1, az⟩ := two hA1
  have hg2 : Below w.heap.size w w1 := hgA.trans (hg1.mono hgA.size)
  clear hA hA1 hg1 hgA
  go_wp2_with fail
  go_at_call 24; refine (ST.out _).mono ?_; rintro e w2 ⟨b, rfl, k2, _⟩
  go_wp2_with fail
  go_at_call 28; refine (P0.out _ _ _ _ k2).mono ?_; rintro e w3 ⟨rfl, rfl⟩
  go_wp2_with fail
  go_at_call 15; refine (E0.out _ _ _ _ k2).mono ?_; rintro e w3 ⟨rfl, k3, _⟩
  go_wp2_with fail
  go_at_call 29; refine (L0.out _ _ _ _ k3).mono ?_; rintro e w4 ⟨rfl, rfl⟩
  go_wp2_with fail
  go_at_call 28; refine (P1.out _ _ _ _ k3).mono ?_; rintro e w4 ⟨rfl, rfl⟩
  go_wp2_with fail
  go_at_call 19; refine (R0.out _ _ _ _ k3).mono ?_; rintro e w4 ⟨rfl, k4, _⟩
  go_wp2_with fail
  go_at_call 28; refine (P0.out _ _ _ _ k4).mono ?_; rintro e w5 ⟨rfl, rfl⟩
  go_wp2_with fail
  go_at_call 15; refine (E1.out _ _ _ _ k4).mono ?_; rintro e w5 ⟨rfl, k5, _⟩
  go_wp2_with fail
  go_at_call 29; refine (L1.out _ _ _ _ k5).mono ?_; rintro e w6 ⟨rfl, rfl⟩
  go_wp2_with fail
  go_at_call 29; refine (L2.out _ _ _ _ k5).mono ?_; rintro e w6 ⟨rfl, rfl⟩
  go_wp2_with fail
  go_ret
  exact ⟨by simp, hg2.trans (k5.below.mono hg2.size)⟩
end Go.Proofs.Ytjjcaplkmbigdaa.Quota
