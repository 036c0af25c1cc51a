/- The document's Return and Refill. Conditions: a sound band. -/
import Derived.Test.YtjjcaplkmbigdaaQuotaRefC
namespace Go.Proofs.Ytjjcaplkmbigdaa.Quota
open Go.ChangeShapes Go.WideShapes Go.ChangeAt Go.RowKit Mem
open Fix (I64)
set_option linter.unusedVariables false
set_option linter.unusedSimpArgs false
set_option maxRecDepth 100000

set_option maxHeartbeats 1000000 in
theorem refReturn_same (w : World) (B g c : Nat) (d : Bd) (i : Int) (h : RefAt B g c d w) (hc : d.q = 0 ∨ (¬ d.q = 0 ∧ here d i = false) ∨ (¬ d.q = 0 ∧ here d i = true ∧ d.at i.toNat ≤ 0)) :
    Calls Try.prog 20 #[refB d g c, .int .i64 i] w (RefIs (fun v => v) d B g w) := by
  obtain ⟨hbox, hres, hsz, hbw⟩ := Start.of w d g c
  have T := Lib.hid (fun w => theres w d g c i)
  have FIN := Lib.hid (fun W1 hg => ref_same (W1 := W1) h hg)
  have RC := Lib.hid (fun w1 (hg : Below w.heap.size w w1) (k : Nat) (hk : k < d.loc.length) => (h.fresh hg).cell hk)
  unfold RefIs
  unfold refB refO zeroO at *
  clear h
  rcases hc with hq | ⟨hq, hh⟩ | ⟨hq, hh, ha⟩
  · have q1 : (d.q == 0) = true := by simpa using hq
    clear hq T RC
    generalize hqq : d.q = qq at *
    go_enter Try.func20, Try.ntmps20
    go_upto_region 1 with fail
    generalize (w.alloc _).alloc _ = W0 at *
    obtain ⟨a0, a1, a2, a3, a4, az⟩ := five hbox
    obtain ⟨y0, y1, y2, y3, y4, yz⟩ := five hres
    go_wp2
    refine bodyPost_ret (v := .agg #[.int .i64 qq, .int .i64 d.s, .int .i64 d.p, .int .i64 d.sp, .slice (some ⟨g, 0, none⟩) d.loc.length c]) (by simp [results, Try.results20, go_sem, y0, y1, y2, y3, y4]) rfl ?_
    obtain ⟨f1, f2⟩ := FIN.out W0 hbw
    exact ⟨g, c, rfl, f1, .inl rfl, f2⟩
  · have q1 : (d.q == 0) = false := by simpa using hq
    rw [hh] at T
    clear RC
    go_enter Try.func20, Try.ntmps20
    go_upto_region 1 with fail
    generalize (w.alloc _).alloc _ = W0 at *
    obtain ⟨a0, a1, a2, a3, a4, az⟩ := five hbox
    go_wp2_with (go_at_call 33; refine (T.out _).mono ?_; rintro e w1 ⟨rfl, hg1⟩; clear a0 a1 a2 a3 a4 az; obtain ⟨a0, a1, a2, a3, a4, az⟩ := five (box_fresh hbox hg1); obtain ⟨y0, y1, y2, y3, y4, yz⟩ := five (box_fresh hres hg1))
    refine bodyPost_ret (v := .agg #[.int .i64 d.q, .int .i64 d.s, .int .i64 d.p, .int .i64 d.sp, .slice (some ⟨g, 0, none⟩) d.loc.length c]) (by simp [results, Try.results20, go_sem, y0, y1, y2, y3, y4]) rfl ?_
    obtain ⟨f1, f2⟩ := FIN.out w1 (hbw.trans (hg1.mono hbw.size))
    exact ⟨g, c, rfl, f1, .inl rfl, f2⟩
  · have q1 : (d.q == 0) = false := by simpa using hq
    rw [hh] at T
    obtain ⟨k, rfl, hk⟩ := here_in hh
    simp only [Int.toNat_natCast] at ha
    have hk1 : (k : Int) < d.loc.length := by omega
    have RC1 := Lib.hid (fun w1 hg => RC.out w1 hg k hk)
    have ha' : decide (d.at k ≤ 0) = true := by simpa using ha
    clear RC hh
    generalize d.at k = x at *
    go_enter Try.func20, Try.ntmps20
    go_upto_region 1 with fail
    generalize (w.alloc _).alloc _ = W0 at *
    obtain ⟨a0, a1, a2, a3, a4, az⟩ := five hbox
    go_wp2_with (go_at_call 33; refine (T.out _).mono ?_; rintro e w1 ⟨rfl, hg1⟩; clear a0 a1 a2 a3 a4 az; obtain ⟨a0, a1, a2, a3, a4, az⟩ := five (box_fresh hbox hg1); obtain ⟨y0, y1, y2, y3, y4, yz⟩ := five (box_fresh hres hg1); have ck := RC1.out _ (hbw.trans (hg1.mono hbw.size)))
    refine bodyPost_ret (v := .agg #[.int .i64 d.q, .int .i64 d.s, .int .i64 d.p, .int .i64 d.sp, .slice (some ⟨g, 0, none⟩) d.loc.length c]) (by simp [results, Try.results20, go_sem, y0, y1, y2, y3, y4]) rfl ?_
    obtain ⟨f1, f2⟩ := FIN.out w1 (hbw.trans (hg1.mono hbw.size))
    exact ⟨g, c, rfl, f1, .inl rfl, f2⟩

set_option maxHeartbeats 1000000 in
theorem refReturn_gives (w : World) (B g c : Nat) (d : Bd) (k : Nat) (h : RefAt B g c d w) (hB : B ≤ w.heap.size) (hn : d.loc.length ≤ 64) (hq : ¬ d.q = 0) (hk : k < d.loc.length) (ha : 0 < d.at k) {M S : Int} (hi : Inv M S d) :
    Calls Try.prog 20 #[refB d g c, .int .i64 (k : Int)] w (RefIs (fun v => v) { d with p := d.p + d.at k, loc := d.loc.set k 0 } B g w) := by
  obtain ⟨hbox, hres, hsz, hbw⟩ := Start.of w d g c
  have T := Lib.hid (fun w => theres w d g c (k : Int))
  rw [here_nat hk] at T
  have hgl := h.ge
  have a2 := hi.at_le k; have a3 := hi.p0; have a5 := hi.q1
  have RC := Lib.hid (fun w1 (hg : Below w.heap.size w w1) => (h.fresh hg).cell hk)
  have WI := Lib.hid (fun W (hR : RefAt B g c { d with p := d.p + d.at k } W) => withs W B g c { d with p := d.p + d.at k } k 0 hR hk hn)
  have ROW : Hid (∀ W b j x, Below w.heap.size w W → w.heap.size ≤ b → RefAt B g c { d with p := d.p + d.at k } (W.setCell ⟨b, j, none⟩ x)) := fun W b j x hg hb => kept_own (h.fresh hg) (one_grown W b j x) (by omega)
  have q1 : (d.q == 0) = false := by simpa using hq
  have hk1 : (k : Int) < d.loc.length := by omega
  have ha' : decide (d.at k ≤ 0) = false := by simp; omega
  unfold RefIs
  unfold refB refO zeroO at *
  simp only [List.length_set] at WI ⊢
  clear h hi
  have hw : IntKind.i64.wrap (d.p + d.at k) = d.p + d.at k := by rw [IntKind.wrap_i64]; omega
  generalize d.at k = x at *
  go_enter Try.func20, Try.ntmps20
  go_upto_region 1 with fail
  generalize (w.alloc _).alloc _ = W0 at *
  obtain ⟨b0, b1, b2, b3, b4, bz⟩ := five hbox
  go_upto_region 3 with (go_at_call 33; refine (T.out _).mono ?_; rintro e w1 ⟨rfl, hg1⟩; clear b0 b1 b2 b3 b4 bz; have hb1 := box_fresh hbox hg1; have hr1 := box_fresh hres hg1; obtain ⟨b0, b1, b2, b3, b4, bz⟩ := five hb1; have ck := RC.out _ (hbw.trans (hg1.mono hbw.size)))
  go_region
  have hgw := (hbw.trans (hg1.mono hbw.size))
  have hb5 := set_block hb1 2 (.int .i64 (d.p + x))
  simp only [List.setIfInBounds_toArray, List.set_cons_succ, List.set_cons_zero] at hb5
  have hr5 := box_kept hr1 (one_grown w1 w.heap.size 2 (.int .i64 (d.p + x))) (by simp)
  have hR5 := ROW.out w1 w.heap.size 2 (.int .i64 (d.p + x)) hgw (Nat.le_refl _)
  have hg5 := hgw.setCell (p := ⟨w.heap.size, 2, none⟩) (Nat.le_refl _) (.int .i64 (d.p + x))
  replace hb5 := Mem.box_fresh hb5 (Below.refl _ _).drew
  replace hr5 := Mem.box_fresh hr5 (Below.refl _ _).drew
  replace hR5 := hR5.fresh (Below.refl _ _).drew
  replace hg5 := hg5.drew
  clear b0 b1 b2 b3 b4 bz hb1 hr1 hg1 hgw ROW T RC hbox hres ck
  generalize (w1.setCell ⟨w.heap.size, 2, none⟩ (.int .i64 (d.p + x))).drew = W5 at *
  obtain ⟨b0, b1, b2, b3, b4, bz⟩ := five hb5
  have WJ := Lib.hid (WI.out W5 hR5)
  clear WI hR5
  have hz5 := hg5.size
  have hrl := lt_of hr5
  go_wp2_with (go_at_call 34; refine WJ.out.mono ?_; rintro e w2 ⟨g', c', rfl, hR, hg2⟩; obtain ⟨y0, y1, y2, y3, y4, yz⟩ := five (box_fresh hr5 hg2))
  refine bodyPost_ret (v := .agg #[.int .i64 d.q, .int .i64 d.s, .int .i64 (d.p + x), .int .i64 d.sp, .slice (some ⟨g', 0, none⟩) d.loc.length c']) (by simp [results, Try.results20, go_sem, y0, y1, y2, y3, y4]) rfl ?_
  have hgl' := hR.ge
  have f1 := (hR.lower (B' := B) (by omega)).box (b := w.heap.size + 1) (by omega) (.int .i64 d.q) (.int .i64 d.s) (.int .i64 (d.p + x)) (.int .i64 d.sp) (.slice (some ⟨g', 0, none⟩) d.loc.length c')
  have f2 := below_set5 (b := w.heap.size + 1) (hg5.trans (hg2.mono hz5)) (by omega) (.int .i64 d.q) (.int .i64 d.s) (.int .i64 (d.p + x)) (.int .i64 d.sp) (.slice (some ⟨g', 0, none⟩) d.loc.length c')
  exact ⟨g', c', rfl, f1, .inr (by omega), f2⟩
theorem refReturn (w : World) (B g c : Nat) (d : Bd) (i : Int) (h : RefAt B g c d w) (hB : B ≤ w.heap.size) (hn : d.loc.length ≤ 64) {M S : Int} (hi : Inv M S d) :
    Calls Try.prog 20 #[refB d g c, .int .i64 i] w (RefIs (fun v => v) (retS d i) B g w) := by
  by_cases hq : d.q = 0
  · have : ¬ 0 < d.at i.toNat := by have := hi.at_le i.toNat; have := hi.p0; omega
    rw [show retS d i = d by simp [retS, this]]
    exact refReturn_same w B g c d i h (.inl hq)
  cases hh : here d i
  · rw [show retS d i = d by simp [retS, hh]]
    exact refReturn_same w B g c d i h (.inr (.inl ⟨hq, hh⟩))
  by_cases ha : 0 < d.at i.toNat
  · obtain ⟨k, rfl, hk⟩ := here_in hh
    simp only [Int.toNat_natCast] at ha
    rw [show retS d k = { d with p := d.p + d.at k, loc := d.loc.set k 0 } by simp [retS, hh, ha]]
    exact refReturn_gives w B g c d k h hB hn hq hk ha hi
  · rw [show retS d i = d by simp [retS, ha]]
    exact refReturn_same w B g c d i h (.inr (.inr ⟨hq, hh, by omega⟩))
end Go.Proofs.Ytjjcaplkmbigdaa.Quota
