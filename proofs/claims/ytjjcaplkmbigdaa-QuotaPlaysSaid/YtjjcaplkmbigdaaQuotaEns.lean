/- What Ensure, Charge and Return of package quota do. Conditions: a sound band. -/
import Derived.Test.YtjjcaplkmbigdaaQuotaDraw
namespace Go.Proofs.Ytjjcaplkmbigdaa.Quota
open Go.ChangeShapes Go.WideShapes Go.ChangeAt Go.RowKit Mem
open Fix (I64)
set_option linter.unusedVariables false
set_option linter.unusedSimpArgs false
set_option maxRecDepth 100000

theorem ensure_nil (w : World) (p : Int) : Calls Try.prog 15 #[.pointer none, .int .i64 p] w (Still (.bool false) w) := by
  go_enter Try.func15, Try.ntmps15
  go_wp2_with (go_at_call 31; refine (has_nil _ _).mono ?_; rintro e w1 ⟨rfl, rfl⟩)
  go_ret; exact ⟨rfl, rfl⟩
theorem drawS_at {d : Bd} {k : Nat} (hk : k < d.loc.length) : (drawS d k).at k = d.at k + min d.p (d.s - d.at k) := by
  simp [drawS, Bd.at, hk]
theorem drawS_len (d : Bd) (k : Nat) : (drawS d k).loc.length = d.loc.length := by simp [drawS]

theorem ensure (w : World) (b : Nat) (O : Nat → Prop) (d : Bd) (p : Int) (h : Band w b O d) (hO : ∀ k, O k → k < w.heap.size) {M S : Int} (hi : Inv M S d) (hM : M ≤ 1125899906842624) :
    Calls Try.prog 15 #[.pointer (some ⟨b, 0, none⟩), .int .i64 p] w (Did (.bool (ensB d p)) (ensS d p) b O w) := by
  have C := Lib.hid (has w b O d p h)
  cases hh : here d p
  · rw [show ensB d p = false by simp [ensB, hh], show ensS d p = d by simp [ensS, hh]]
    rw [hh] at C
    have H := Lib.hid h
    clear h
    go_enter Try.func15, Try.ntmps15
    go_wp2_with (go_at_call 31; refine C.out.mono ?_; rintro e w1 ⟨rfl, rfl⟩)
    go_ret; exact ⟨rfl, H.out, Same.refl _ _⟩
  rw [hh] at C
  have L := Lib.hid (limited w b O d h)
  cases hl : lim d
  · rw [show ensB d p = true by simp [ensB, hh, hl], show ensS d p = d by simp [ensS, hl]]
    rw [hl] at L
    have H := Lib.hid h
    clear h
    go_enter Try.func15, Try.ntmps15
    go_wp2_with (first
      | (go_at_call 31; refine C.out.mono ?_; rintro e w1 ⟨rfl, rfl⟩)
      | (go_at_call 30; refine L.out.mono ?_; rintro e w1 ⟨rfl, rfl⟩))
    go_ret; exact ⟨rfl, H.out, Same.refl _ _⟩
  rw [hl] at L
  obtain ⟨k, rfl, hk⟩ := here_in hh
  have hk1 : (k : Int) < d.loc.length := by omega
  have hq : 0 < d.q := by simpa [lim] using hl
  have HB := Lib.hid h
  obtain ⟨g, hP⟩ := h
  obtain ⟨c0, c1, c2, c3, c4, fz⟩ := hP.cells
  have ck := hP.cell hk
  by_cases ha : d.at k ≤ 0
  · rw [show ensB d k = decide (0 < (drawS d k).at k) by simp [ensB, ensS, hh, hl, ha], show ensS d k = drawS d k by simp [ensS, hh, hl, ha]]
    have D := Lib.hid (draw w b O d k HB.out hO hk hq ha hi hM)
    have hlen := drawS_len d k
    generalize drawS d k = d' at *
    clear hP HB hi hh hl hq
    rw [← hlen] at hk hk1 c3
    clear hlen
    generalize hn : d'.loc.length = n at *
    generalize d.at k = x at *
    go_enter Try.func15, Try.ntmps15
    go_upto_region 7 with (first
      | (go_at_call 31; refine C.out.mono ?_; rintro e w1 ⟨rfl, rfl⟩)
      | (go_at_call 30; refine L.out.mono ?_; rintro e w1 ⟨rfl, rfl⟩)
      | (go_at_call 32; refine D.out.mono ?_; rintro e w2 ⟨rfl, hB, hs⟩))
    have A := Lib.hid (And.intro hB hs)
    obtain ⟨g2, hP⟩ := hB
    clear c0 c1 c2 c3 c4 fz ck
    obtain ⟨c0, c1, c2, c3, c4, fz⟩ := hP.cells
    have ck := hP.cell (k := k) (by omega)
    rw [hn] at c3
    clear hP hs D C L
    generalize d'.at k = y at *
    go_wp2
    go_ret
    exact ⟨rfl, A.out.1, A.out.2⟩
  · rw [show ensB d k = decide (0 < d.at k) by simp [ensB, ensS, hh, hl, ha], show ensS d k = d by simp [ensS, hh, hl, ha]]
    clear hP hi hh hl hq
    generalize d.at k = x at *
    generalize d.loc.length = n at *
    go_enter Try.func15, Try.ntmps15
    go_wp2_with (first
      | (go_at_call 31; refine C.out.mono ?_; rintro e w1 ⟨rfl, rfl⟩)
      | (go_at_call 30; refine L.out.mono ?_; rintro e w1 ⟨rfl, rfl⟩))
    go_ret
    have h' : decide (0 < x) = true := by simp; omega
    rw [h']
    exact ⟨rfl, HB.out, Same.refl _ _⟩

theorem charge_nil (w : World) (p n : Int) : Calls Try.prog 17 #[.pointer none, .int .i64 p, .int .i64 n] w (Still (.tuple #[.bool false, .int .i64 1]) w) := by
  go_enter Try.func17, Try.ntmps17
  go_wp2_with (go_at_call 31; refine (has_nil _ _).mono ?_; rintro e w1 ⟨rfl, rfl⟩)
  go_ret2; exact ⟨rfl, rfl⟩

theorem paid_len (d : Bd) (k : Nat) (n : Int) : (paidS d k n).loc.length = d.loc.length := len_paid d k n
theorem paid_same {d : Bd} {k : Nat} {n : Int} (h : lim d = false) : paidS d k n = { d with sp := d.sp + n } := by simp [paidS, h]
theorem paid_less {d : Bd} {k : Nat} {n : Int} (h : lim d = true) : paidS d k n = { d with sp := d.sp + n, loc := d.loc.set k (d.at k - n) } := by simp [paidS, h]

set_option maxHeartbeats 4000000 in
theorem charge (w : World) (b : Nat) (O : Nat → Prop) (d : Bd) (p n : Int) (h : Band w b O d) (hO : ∀ k, O k → k < w.heap.size) {M S : Int} (hi : Inv M S d) (hM : M ≤ 1125000000000000) (hS : S ≤ 1125000000000000) :
    Calls Try.prog 17 #[.pointer (some ⟨b, 0, none⟩), .int .i64 p, .int .i64 n] w (Did (.tuple #[.bool (chgB d p n), .int .i64 (chgE d p n)]) (chgS d p n) b O w) := by
  have C := Lib.hid (has w b O d p h)
  cases hh : here d p
  · rw [show chgE d p n = 1 by simp [chgE, hh], show chgB d p n = false by simp [chgB, chgE, hh], show chgS d p n = d by simp [chgS, chgE, hh]]
    rw [hh] at C
    have H := Lib.hid h
    clear h
    go_enter Try.func17, Try.ntmps17
    go_wp2_with (go_at_call 31; refine C.out.mono ?_; rintro e w1 ⟨rfl, rfl⟩)
    go_ret2; exact ⟨rfl, H.out, Same.refl _ _⟩
  rw [hh] at C
  by_cases hb : n < 0 ∨ 1000000000 < n
  · rw [show chgE d p n = 8 by simp [chgE, hh, hb], show chgB d p n = false by simp [chgB, chgE, hh, hb], show chgS d p n = d by simp [chgS, chgE, hh, hb]]
    have H := Lib.hid h
    clear h
    by_cases hb1 : n < 0
    · clear hb
      go_enter Try.func17, Try.ntmps17
      go_wp2_with (go_at_call 31; refine C.out.mono ?_; rintro e w1 ⟨rfl, rfl⟩)
      go_ret2; exact ⟨rfl, H.out, Same.refl _ _⟩
    · have hb2 : 1000000000 < n := by omega
      clear hb
      go_enter Try.func17, Try.ntmps17
      go_wp2_with (go_at_call 31; refine C.out.mono ?_; rintro e w1 ⟨rfl, rfl⟩)
      go_ret2; exact ⟨rfl, H.out, Same.refl _ _⟩
  have hE : chgE d p n = 0 := by simp [chgE, hh, hb]
  obtain ⟨k, rfl, hk⟩ := here_in hh
  rw [show chgB d k n = ensB (paidS d k n) k by simp [chgB, hE], hE, show chgS d k n = ensS (paidS d k n) k by simp [chgS, hE]]
  have n0 : ¬ n < 0 := by omega
  have n1 : ¬ 1000000000 < n := by omega
  have hk1 : (k : Int) < d.loc.length := by omega
  have a1 := hi.at_ge k; have a2 := hi.at_le k; have a3 := hi.p0; have a5 := hi.q1; have a6 := hi.sp0; have a7 := hi.sp1
  have hI2 : Inv (M + n) (S + n) (paidS d k n) := hi.paid hk (by omega) (by omega) (by omega)
  have HE := Lib.hid (fun w1 (h1 : Band w1 b O (paidS d k n)) (hO1 : ∀ k, O k → k < w1.heap.size) => ensure w1 b O (paidS d k n) k h1 hO1 hI2 (by omega))
  have SA := Lib.hid (fun w => Fix.sat d.sp n w (by unfold I64; omega) (by unfold I64; omega))
  rw [i64_in (show I64 (d.sp + n) by unfold I64; omega)] at SA
  have LE := Lib.hid (fun w => Fix.less (d.at k) n w (by unfold I64; omega) (by unfold I64; omega))
  rw [i64_in (show I64 (d.at k - n) by unfold I64; omega)] at LE
  obtain ⟨g, hP⟩ := h
  obtain ⟨c0, c1, c2, c3, c4, fz⟩ := hP.cells
  have X : ∀ w1, Below w.heap.size w w1 → Parts (w1.setCell ⟨b, 4, none⟩ (.int .i64 (d.sp + n))) b g O { d with sp := d.sp + n } ∧ Same O w (w1.setCell ⟨b, 4, none⟩ (.int .i64 (d.sp + n))) := fun w1 h1 => ⟨(hP.fresh h1).setSp _, (hP.fresh h1).sameB (Same.of h1 hO) 4 _⟩
  replace X := Lib.hid X
  have PZ := Lib.hid (fun w1 (h1 : Below w.heap.size w w1) => (hP.fresh h1).cells)
  clear hI2 hi
  cases hl : lim d
  · rw [paid_same hl] at HE ⊢
    have LM := Lib.hid (fun w1 (h1 : Parts w1 b g O { d with sp := d.sp + n }) => limited w1 b O _ ⟨g, h1⟩)
    rw [show lim { d with sp := d.sp + n } = false from hl] at LM
    clear hP hh hE
    generalize hsp : d.sp + n = sp' at *
    generalize d.sp = sp at *
    generalize d.loc.length = len at *
    go_enter Try.func17, Try.ntmps17
    go_upto_region 6 with (first
      | (go_at_call 31; refine C.out.mono ?_; rintro e w1 ⟨rfl, rfl⟩)
      | (go_at_call 35; refine (SA.out _).mono ?_; rintro e w1 ⟨rfl, hg1⟩; obtain ⟨e0, e1, e2, e3, e4, ez⟩ := PZ.out _ hg1))
    obtain ⟨hP, hs⟩ := X.out _ hg1
    have hz : ∀ k, O k → k < (w1.setCell ⟨b, 4, none⟩ (.int .i64 sp')).heap.size := fun k hk => Nat.lt_of_lt_of_le (hO k hk) hs.size
    clear c0 c1 c2 c3 c4 fz e0 e1 e2 e3 e4 ez C SA PZ X hg1
    generalize w1.setCell ⟨b, 4, none⟩ (.int .i64 sp') = W at *
    have LM1 := Lib.hid (LM.out _ hP)
    have HE1 := Lib.hid (HE.out _ ⟨g, hP⟩ hz)
    have SS := Lib.hid hs
    clear LM HE hP hs hz
    go_wp2_with (first
      | (go_at_call 30; refine LM1.out.mono ?_; rintro e w2 ⟨rfl, rfl⟩)
      | (go_at_call 15; refine HE1.out.mono ?_; rintro e w3 ⟨rfl, hB3, hs3⟩))
    go_ret2
    exact ⟨rfl, hB3, SS.out.trans hs3⟩
  · rw [paid_less hl] at HE ⊢
    have LM := Lib.hid (fun w1 (h1 : Parts w1 b g O { d with sp := d.sp + n }) => limited w1 b O _ ⟨g, h1⟩)
    rw [show lim { d with sp := d.sp + n } = true from hl] at LM
    have Y : ∀ w1 w2, Parts w1 b g O { d with sp := d.sp + n } → Same O w w1 → (∀ k, O k → k < w1.heap.size) → Below w1.heap.size w1 w2 → Parts (w2.setCell ⟨g, k, none⟩ (.int .i64 (d.at k - n))) b g O { d with sp := d.sp + n, loc := d.loc.set k (d.at k - n) } ∧ Same O w (w2.setCell ⟨g, k, none⟩ (.int .i64 (d.at k - n))) := fun w1 w2 h1 hs hz h2 =>
      ⟨(h1.fresh h2).setL k _, (h1.fresh h2).sameG (hs.trans (Same.of h2 hz)) k _⟩
    replace Y := Lib.hid Y
    have K : ∀ w1, Parts w1 b g O { d with sp := d.sp + n } → (w1.cell? ⟨b, 3, none⟩ = some (.slice (some ⟨g, 0, none⟩) d.loc.length d.loc.length) ∧ w1.cell? ⟨g, k, none⟩ = some (.int .i64 (d.at k))) ∧ (∀ j, w1.frozen? ⟨g, j, none⟩ = false) := fun w1 h1 => ⟨⟨h1.cells.2.2.2.1, h1.cell (d := { d with sp := d.sp + n }) hk⟩, fun j => h1.free j⟩
    replace K := Lib.hid K
    clear hP hh hE
    generalize hsp : d.sp + n = sp' at *
    generalize d.sp = sp at *
    generalize hat : d.at k = x at *
    go_enter Try.func17, Try.ntmps17
    go_upto_region 6 with (first
      | (go_at_call 31; refine C.out.mono ?_; rintro e w1 ⟨rfl, rfl⟩)
      | (go_at_call 35; refine (SA.out _).mono ?_; rintro e w1 ⟨rfl, hg1⟩; obtain ⟨e0, e1, e2, e3, e4, ez⟩ := PZ.out _ hg1))
    obtain ⟨hP, hs⟩ := X.out _ hg1
    have hz : ∀ k, O k → k < (w1.setCell ⟨b, 4, none⟩ (.int .i64 sp')).heap.size := fun k hk => Nat.lt_of_lt_of_le (hO k hk) hs.size
    clear c0 c1 c2 c3 c4 fz e0 e1 e2 e3 e4 ez C SA PZ X hg1
    generalize w1.setCell ⟨b, 4, none⟩ (.int .i64 sp') = W at *
    have LM1 := Lib.hid (LM.out _ hP)
    have Y1 := Lib.hid (Y.out W · hP hs hz)
    have HP := Lib.hid hP
    obtain ⟨⟨k3, kx⟩, kz⟩ := K.out _ hP
    clear LM Y hP hs hz
    generalize d.loc.length = len at *
    have hg0 := Below.refl W.heap.size W
    go_wp2_with (first
      | (go_at_call 30; refine LM1.out.mono ?_; rintro e w2 ⟨rfl, rfl⟩))
    go_region_with (go_at_call 36; refine (LE.out _).mono ?_; rintro e w2 ⟨rfl, hg2⟩; have hg3 := hg0.drew.trans (hg2.mono hg0.drew.size); clear hg2; obtain ⟨⟨m3, mx⟩, mz⟩ := K.out _ (HP.out.fresh hg3))
    all_goals
      obtain ⟨hP3, hs3⟩ := Y1.out w2 hg3
      have hz3 : ∀ k', O k' → k' < (w2.setCell ⟨g, k, none⟩ (.int .i64 (x - n))).heap.size := fun k' hk' => Nat.lt_of_lt_of_le (hO k' hk') hs3.size
      have HE1 := Lib.hid (HE.out _ ⟨g, hP3⟩ hz3)
      have SS := Lib.hid hs3
      clear hP3 hs3 hz3 HE Y1 K LE HP k3 kx kz m3 mx mz hg0 hg3 LM1
      generalize w2.setCell ⟨g, k, none⟩ (.int .i64 (x - n)) = W3 at *
      go_wp2_with (go_at_call 15; refine HE1.out.mono ?_; rintro e w3 ⟨rfl, hB3, hs3⟩)
      go_ret2
      exact ⟨rfl, hB3, SS.out.trans hs3⟩
end Go.Proofs.Ytjjcaplkmbigdaa.Quota
