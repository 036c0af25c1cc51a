/- The document's Charge. Conditions: a sound band. -/
import Derived.Test.YtjjcaplkmbigdaaQuotaRefC
namespace Go.Proofs.Ytjjcaplkmbigdaa.Quota
open Go.ChangeShapes Go.WideShapes Go.ChangeAt Go.RowKit Mem
open Fix (I64)
set_option linter.unusedVariables false
set_option linter.unusedSimpArgs false
set_option maxRecDepth 100000

set_option maxHeartbeats 1000000 in
theorem refCharge_bad (w : World) (B g c : Nat) (d : Bd) (i ns code : Int) (h : RefAt B g c d w) (hc : (here d i = false ∧ code = 1) ∨ (here d i = true ∧ (ns < 0 ∨ 1000000000 < ns) ∧ code = 8)) :
    Calls Try.prog 18 #[refB d g c, .int .i64 i, .int .i64 ns] w (RefIs (fun v => .tuple #[v, .bool false, .int .i64 code]) d B g w) := by
  obtain ⟨hbox, hres, hsz, hbw⟩ := Start.of w d g c
  have T := Lib.hid (fun w => theres w d g c i)
  have FIN := Lib.hid (fun W1 hg => ref_same (W1 := W1) h hg)
  unfold RefIs
  unfold refB refO zeroO at *
  clear h
  rcases hc with ⟨hh, rfl⟩ | ⟨hh, hb, rfl⟩
  · rw [hh] at T
    go_enter Try.func18, Try.ntmps18
    go_upto_region 1 with fail
    generalize (w.alloc _).alloc _ = W0 at *
    obtain ⟨a0, a1, a2, a3, a4, az⟩ := five hbox
    go_wp2_with (go_at_call 33; refine (T.out _).mono ?_; rintro e w1 ⟨rfl, hg1⟩; clear a0 a1 a2 a3 a4 az; obtain ⟨a0, a1, a2, a3, a4, az⟩ := five (box_fresh hbox hg1); obtain ⟨y0, y1, y2, y3, y4, yz⟩ := five (box_fresh hres hg1))
    refine bodyPost_ret (v := .tuple #[.agg #[.int .i64 d.q, .int .i64 d.s, .int .i64 d.p, .int .i64 d.sp, .slice (some ⟨g, 0, none⟩) d.loc.length c], .bool false, .int .i64 1]) (by simp [results, Try.results18, go_sem, y0, y1, y2, y3, y4]) rfl ?_
    obtain ⟨f1, f2⟩ := FIN.out w1 (hbw.trans (hg1.mono hbw.size))
    exact ⟨g, c, rfl, f1, .inl rfl, f2⟩
  · rw [hh] at T
    by_cases h1 : ns < 0
    · clear hb
      go_enter Try.func18, Try.ntmps18
      go_upto_region 1 with fail
      generalize (w.alloc _).alloc _ = W0 at *
      obtain ⟨a0, a1, a2, a3, a4, az⟩ := five hbox
      go_wp2_with (go_at_call 33; refine (T.out _).mono ?_; rintro e w1 ⟨rfl, hg1⟩; clear a0 a1 a2 a3 a4 az; obtain ⟨a0, a1, a2, a3, a4, az⟩ := five (box_fresh hbox hg1); obtain ⟨y0, y1, y2, y3, y4, yz⟩ := five (box_fresh hres hg1))
      refine bodyPost_ret (v := .tuple #[.agg #[.int .i64 d.q, .int .i64 d.s, .int .i64 d.p, .int .i64 d.sp, .slice (some ⟨g, 0, none⟩) d.loc.length c], .bool false, .int .i64 8]) (by simp [results, Try.results18, go_sem, y0, y1, y2, y3, y4]) rfl ?_
      obtain ⟨f1, f2⟩ := FIN.out w1 (hbw.trans (hg1.mono hbw.size))
      exact ⟨g, c, rfl, f1, .inl rfl, f2⟩
    · have h2 : 1000000000 < ns := by omega
      clear hb
      go_enter Try.func18, Try.ntmps18
      go_upto_region 1 with fail
      generalize (w.alloc _).alloc _ = W0 at *
      obtain ⟨a0, a1, a2, a3, a4, az⟩ := five hbox
      go_wp2_with (go_at_call 33; refine (T.out _).mono ?_; rintro e w1 ⟨rfl, hg1⟩; clear a0 a1 a2 a3 a4 az; obtain ⟨a0, a1, a2, a3, a4, az⟩ := five (box_fresh hbox hg1); obtain ⟨y0, y1, y2, y3, y4, yz⟩ := five (box_fresh hres hg1))
      refine bodyPost_ret (v := .tuple #[.agg #[.int .i64 d.q, .int .i64 d.s, .int .i64 d.p, .int .i64 d.sp, .slice (some ⟨g, 0, none⟩) d.loc.length c], .bool false, .int .i64 8]) (by simp [results, Try.results18, go_sem, y0, y1, y2, y3, y4]) rfl ?_
      obtain ⟨f1, f2⟩ := FIN.out w1 (hbw.trans (hg1.mono hbw.size))
      exact ⟨g, c, rfl, f1, .inl rfl, f2⟩

set_option maxHeartbeats 2000000 in
theorem refCharge_good (w : World) (B g c : Nat) (d : Bd) (k : Nat) (ns : Int) (h : RefAt B g c d w) (hB : B ≤ w.heap.size) (hk : k < d.loc.length) (hn : d.loc.length ≤ 64) {M S : Int} (hi : Inv M S d) (hM : M ≤ 1120000000000000) (hS : S ≤ 1120000000000000) (n0 : 0 ≤ ns) (n1 : ns ≤ 1000000000) :
    Calls Try.prog 18 #[refB d g c, .int .i64 (k : Int), .int .i64 ns] w (RefIs (fun v => .tuple #[v, .bool (ensB (paidS d k ns) k), .int .i64 0]) (ensS (paidS d k ns) k) B g w) := by
  obtain ⟨hbox, hres, hsz, hbw⟩ := Start.of w d g c
  have T := Lib.hid (fun w => theres w d g c (k : Int))
  rw [here_nat hk] at T
  have hgl := h.ge
  have a1 := hi.at_ge k; have a2 := hi.at_le k; have a3 := hi.p0; have a5 := hi.q1; have a6 := hi.sp0; have a7 := hi.sp1; have q0 := hi.q0
  have hI2 : Inv (M + ns) (S + ns) (paidS d k ns) := hi.paid hk n0 (by omega) (by omega)
  have EN := Lib.hid (fun W g' c' (hR : RefAt B g' c' (paidS d k ns) W) (hBW : B ≤ W.heap.size) => refEnsure W B g' c' (paidS d k ns) (k : Int) hR hBW (by rw [len_paid]; exact hn) hI2 (by omega))
  have SA := Lib.hid (fun w => Fix.refSat d.sp ns w (by unfold I64; omega) (by unfold I64; omega))
  rw [i64_in (show I64 (d.sp + ns) by unfold I64; omega)] at SA
  have n0' : ¬ ns < 0 := by omega
  have n1' : ¬ 1000000000 < ns := by omega
  generalize hd2 : ensS (paidS d k ns) k = d2 at *
  generalize hb2 : ensB (paidS d k ns) k = is2 at *
  clear hd2 hb2 hI2
  cases hl : lim d
  · rw [paid_same hl] at EN
    have hq : decide (0 < d.q) = false := by simpa [lim] using hl
    have ROW : Hid (∀ W b x, Below w.heap.size w W → w.heap.size ≤ b → RefAt B g c { d with sp := d.sp + ns } (W.setCell ⟨b, 3, none⟩ x)) := fun W b x hg hb => kept_own (h.fresh hg) (one_grown W b 3 x) (by omega)
    unfold RefIs at EN ⊢
    unfold refB refO zeroO at *
    simp only at EN
    clear h hi hl
    go_enter Try.func18, Try.ntmps18
    go_upto_region 1 with fail
    generalize (w.alloc _).alloc _ = W0 at *
    obtain ⟨b0, b1, b2, b3, b4, bz⟩ := five hbox
    go_upto_region 6 with (first
      | (go_at_call 33; refine (T.out _).mono ?_; rintro e w1 ⟨rfl, hg1⟩; clear b0 b1 b2 b3 b4 bz; have hb1 := box_fresh hbox hg1; have hr1 := box_fresh hres hg1; obtain ⟨b0, b1, b2, b3, b4, bz⟩ := five hb1)
      | (go_at_call 37; refine (SA.out _).mono ?_; rintro e w2 ⟨rfl, rfl⟩))
    have hgw := hbw.trans (hg1.mono hbw.size)
    have hb5 := set_block hb1 3 (.int .i64 (d.sp + ns))
    simp only [List.setIfInBounds_toArray, List.set_cons_succ, List.set_cons_zero] at hb5
    have hr5 := box_kept hr1 (one_grown w1 w.heap.size 3 (.int .i64 (d.sp + ns))) (by simp)
    have hR5 := ROW.out w1 w.heap.size (.int .i64 (d.sp + ns)) hgw (Nat.le_refl _)
    have hg5 := hgw.setCell (p := ⟨w.heap.size, 3, none⟩) (Nat.le_refl _) (.int .i64 (d.sp + ns))
    clear b0 b1 b2 b3 b4 bz hb1 hr1 hg1 hgw ROW T SA hbox hres
    generalize w1.setCell ⟨w.heap.size, 3, none⟩ (.int .i64 (d.sp + ns)) = W5 at *
    obtain ⟨b0, b1, b2, b3, b4, bz⟩ := five hb5
    have hz5 := hg5.size
    have EN1 := Lib.hid (EN.out W5 g c hR5 (by omega))
    clear EN hR5
    go_wp2_with (go_at_call 16; refine EN1.out.mono ?_; rintro e w2 ⟨g2, c2, rfl, hR2, hgg, hg2⟩; have hn2 := heap_alloc_new w2 (.cells #[.int .i64 d2.q, .int .i64 d2.s, .int .i64 d2.p, .int .i64 d2.sp, .slice (some ⟨g2, 0, none⟩) d2.loc.length c2] 30); have hr2 := box_new (o' := .cells #[.int .i64 d2.q, .int .i64 d2.s, .int .i64 d2.p, .int .i64 d2.sp, .slice (some ⟨g2, 0, none⟩) d2.loc.length c2] 30) (box_fresh hr5 hg2); obtain ⟨y0, y1, y2, y3, y4, yz⟩ := five hr2; obtain ⟨x0, x1, x2, x3, x4, xz⟩ := five hn2)
    refine bodyPost_ret (v := .tuple #[.agg #[.int .i64 d2.q, .int .i64 d2.s, .int .i64 d2.p, .int .i64 d2.sp, .slice (some ⟨g2, 0, none⟩) d2.loc.length c2], .bool is2, .int .i64 0]) (by simp [results, Try.results18, go_sem, y0, y1, y2, y3, y4]) rfl ?_
    have hga := (hg5.trans (hg2.mono hz5)).alloc (by have := hg2.size; omega) (.cells #[.int .i64 d2.q, .int .i64 d2.s, .int .i64 d2.p, .int .i64 d2.sp, .slice (some ⟨g2, 0, none⟩) d2.loc.length c2] 30)
    have hrl := lt_of hr5
    have f1 := (hR2.fresh (alloc1 w2 (.cells #[.int .i64 d2.q, .int .i64 d2.s, .int .i64 d2.p, .int .i64 d2.sp, .slice (some ⟨g2, 0, none⟩) d2.loc.length c2] 30))).box (b := w.heap.size + 1) (by rcases hgg with rfl | hgg <;> omega) (.int .i64 d2.q) (.int .i64 d2.s) (.int .i64 d2.p) (.int .i64 d2.sp) (.slice (some ⟨g2, 0, none⟩) d2.loc.length c2)
    have f2 := below_set5 (b := w.heap.size + 1) hga (by omega) (.int .i64 d2.q) (.int .i64 d2.s) (.int .i64 d2.p) (.int .i64 d2.sp) (.slice (some ⟨g2, 0, none⟩) d2.loc.length c2)
    exact ⟨g2, c2, rfl, f1, (by rcases hgg with rfl | hgg; exact .inl rfl; exact .inr (by omega)), f2⟩
  · rw [paid_less hl] at EN
    have hq : decide (0 < d.q) = true := by simpa [lim] using hl
    have WI := Lib.hid (fun W (hR : RefAt B g c { d with sp := d.sp + ns } W) => withs W B g c { d with sp := d.sp + ns } k (d.at k - ns) hR hk hn)
    have ROW : Hid (∀ W b x, Below w.heap.size w W → w.heap.size ≤ b → RefAt B g c { d with sp := d.sp + ns } (W.setCell ⟨b, 3, none⟩ x) ∧ (W.setCell ⟨b, 3, none⟩ x).cell? ⟨g, k, none⟩ = some (.int .i64 (d.at k))) := fun W b x hg hb => by
      have h1 : RefAt B g c d (W.setCell ⟨b, 3, none⟩ x) := kept_own (h.fresh hg) (one_grown W b 3 x) (by omega)
      exact ⟨h1, h1.cell hk⟩
    have hk1 : (k : Int) < d.loc.length := by omega
    unfold RefIs at EN ⊢
    unfold refB refO zeroO at *
    simp only [List.length_set] at EN WI
    clear h hi hl
    have hw : IntKind.i64.wrap (d.at k - ns) = d.at k - ns := by rw [IntKind.wrap_i64]; omega
    generalize d.at k = x at *
    go_enter Try.func18, Try.ntmps18
    go_upto_region 1 with fail
    generalize (w.alloc _).alloc _ = W0 at *
    obtain ⟨b0, b1, b2, b3, b4, bz⟩ := five hbox
    go_upto_region 6 with (first
      | (go_at_call 33; refine (T.out _).mono ?_; rintro e w1 ⟨rfl, hg1⟩; clear b0 b1 b2 b3 b4 bz; have hb1 := box_fresh hbox hg1; have hr1 := box_fresh hres hg1; obtain ⟨b0, b1, b2, b3, b4, bz⟩ := five hb1)
      | (go_at_call 37; refine (SA.out _).mono ?_; rintro e w2 ⟨rfl, rfl⟩))
    have hgw := hbw.trans (hg1.mono hbw.size)
    have hb5 := set_block hb1 3 (.int .i64 (d.sp + ns))
    simp only [List.setIfInBounds_toArray, List.set_cons_succ, List.set_cons_zero] at hb5
    have hr5 := box_kept hr1 (one_grown w1 w.heap.size 3 (.int .i64 (d.sp + ns))) (by simp)
    obtain ⟨hR5, ck⟩ := ROW.out w1 w.heap.size (.int .i64 (d.sp + ns)) hgw (Nat.le_refl _)
    have hg5 := hgw.setCell (p := ⟨w.heap.size, 3, none⟩) (Nat.le_refl _) (.int .i64 (d.sp + ns))
    clear b0 b1 b2 b3 b4 bz hb1 hr1 hg1 hgw ROW T SA hbox hres
    generalize w1.setCell ⟨w.heap.size, 3, none⟩ (.int .i64 (d.sp + ns)) = W5 at *
    obtain ⟨b0, b1, b2, b3, b4, bz⟩ := five hb5
    have hz5 := hg5.size
    have WJ := Lib.hid (WI.out W5.drew (hR5.fresh (Below.refl _ W5).drew))
    clear WI hR5
    go_upto_region 7 with fail
    go_region_with (go_at_call 34; refine WJ.out.mono ?_; rintro e w2 ⟨g', c', rfl, hR, hg2⟩; have hb2 := (show w2.heap[w.heap.size]? = _ from (box_fresh (w := W5.drew) hb5 hg2)); obtain ⟨e0, e1, e2, e3, e4, ez⟩ := five hb2)
    all_goals
      have hr2 := box_fresh (w := W5.drew) hr5 hg2
      have hrl0 := lt_of hr5
      have hgl' := hR.ge
      have hvs : W5.drew.heap.size = W5.heap.size := rfl
      have hb3 := set5_block hb2 (.int .i64 d.q) (.int .i64 d.s) (.int .i64 d.p) (.int .i64 (d.sp + ns)) (.slice (some ⟨g', 0, none⟩) d.loc.length c')
      have hr7 := box_kept hr2 (set5_grown w2 w.heap.size (.int .i64 d.q) (.int .i64 d.s) (.int .i64 d.p) (.int .i64 (d.sp + ns)) (.slice (some ⟨g', 0, none⟩) d.loc.length c')) (by simp)
      have hR3 := (hR.lower (B' := B) (by omega)).box (b := w.heap.size) (by omega) (.int .i64 d.q) (.int .i64 d.s) (.int .i64 d.p) (.int .i64 (d.sp + ns)) (.slice (some ⟨g', 0, none⟩) d.loc.length c')
      have hg7 := below_set5 (b := w.heap.size) (hg5.drew.trans (hg2.mono (by omega))) (Nat.le_refl _) (.int .i64 d.q) (.int .i64 d.s) (.int .i64 d.p) (.int .i64 (d.sp + ns)) (.slice (some ⟨g', 0, none⟩) d.loc.length c')
      clear e0 e1 e2 e3 e4 ez hb2 hr2 hR WJ b0 b1 b2 b3 b4 bz
      generalize ((((w2.setCell ⟨w.heap.size, 0, none⟩ (.int .i64 d.q)).setCell ⟨w.heap.size, 1, none⟩ (.int .i64 d.s)).setCell ⟨w.heap.size, 2, none⟩ (.int .i64 d.p)).setCell ⟨w.heap.size, 3, none⟩ (.int .i64 (d.sp + ns))).setCell ⟨w.heap.size, 4, none⟩ (.slice (some ⟨g', 0, none⟩) d.loc.length c') = W7 at *
      obtain ⟨b0, b1, b2, b3, b4, bz⟩ := five hb3
      have hz7 := hg7.size
      have hgx : w.heap.size + 1 < g' := by omega
      have EN1 := Lib.hid (EN.out W7 g' c' hR3 (by omega))
      clear EN hR3 hg2 hgl'
      go_wp2_with (go_at_call 16; refine EN1.out.mono ?_; rintro e w9 ⟨g2, c2, rfl, hR9, hgg, hg9⟩; have hn9 := heap_alloc_new w9 (.cells #[.int .i64 d2.q, .int .i64 d2.s, .int .i64 d2.p, .int .i64 d2.sp, .slice (some ⟨g2, 0, none⟩) d2.loc.length c2] 30); have hr9 := box_new (o' := .cells #[.int .i64 d2.q, .int .i64 d2.s, .int .i64 d2.p, .int .i64 d2.sp, .slice (some ⟨g2, 0, none⟩) d2.loc.length c2] 30) (box_fresh hr7 hg9); obtain ⟨y0, y1, y2, y3, y4, yz⟩ := five hr9; obtain ⟨x0, x1, x2, x3, x4, xz⟩ := five hn9)
      refine bodyPost_ret (v := .tuple #[.agg #[.int .i64 d2.q, .int .i64 d2.s, .int .i64 d2.p, .int .i64 d2.sp, .slice (some ⟨g2, 0, none⟩) d2.loc.length c2], .bool is2, .int .i64 0]) (by simp [results, Try.results18, go_sem, y0, y1, y2, y3, y4]) rfl ?_
      have hga := (hg7.trans (hg9.mono hz7)).alloc (by have := hg9.size; omega) (.cells #[.int .i64 d2.q, .int .i64 d2.s, .int .i64 d2.p, .int .i64 d2.sp, .slice (some ⟨g2, 0, none⟩) d2.loc.length c2] 30)
      have hrl := lt_of hr7
      have f1 := (hR9.fresh (alloc1 w9 (.cells #[.int .i64 d2.q, .int .i64 d2.s, .int .i64 d2.p, .int .i64 d2.sp, .slice (some ⟨g2, 0, none⟩) d2.loc.length c2] 30))).box (b := w.heap.size + 1) (by rcases hgg with rfl | hgg <;> omega) (.int .i64 d2.q) (.int .i64 d2.s) (.int .i64 d2.p) (.int .i64 d2.sp) (.slice (some ⟨g2, 0, none⟩) d2.loc.length c2)
      have f2 := below_set5 (b := w.heap.size + 1) hga (by omega) (.int .i64 d2.q) (.int .i64 d2.s) (.int .i64 d2.p) (.int .i64 d2.sp) (.slice (some ⟨g2, 0, none⟩) d2.loc.length c2)
      exact ⟨g2, c2, rfl, f1, (.inr (by rcases hgg with rfl | hgg <;> omega)), f2⟩
theorem refCharge (w : World) (B g c : Nat) (d : Bd) (i ns : Int) (h : RefAt B g c d w) (hB : B ≤ w.heap.size) (hn : d.loc.length ≤ 64) {M S : Int} (hi : Inv M S d) (hM : M ≤ 1120000000000000) (hS : S ≤ 1120000000000000) :
    Calls Try.prog 18 #[refB d g c, .int .i64 i, .int .i64 ns] w (RefIs (fun v => .tuple #[v, .bool (chgB d i ns), .int .i64 (chgE d i ns)]) (chgS d i ns) B g w) := by
  cases hh : here d i
  · rw [show chgE d i ns = 1 by simp [chgE, hh], show chgB d i ns = false by simp [chgB, chgE, hh], show chgS d i ns = d by simp [chgS, chgE, hh]]
    exact refCharge_bad w B g c d i ns 1 h (.inl ⟨hh, rfl⟩)
  by_cases hb : ns < 0 ∨ 1000000000 < ns
  · rw [show chgE d i ns = 8 by simp [chgE, hh, hb], show chgB d i ns = false by simp [chgB, chgE, hh, hb], show chgS d i ns = d by simp [chgS, chgE, hh, hb]]
    exact refCharge_bad w B g c d i ns 8 h (.inr ⟨hh, hb, rfl⟩)
  · have hE : chgE d i ns = 0 := by simp [chgE, hh, hb]
    obtain ⟨k, rfl, hk⟩ := here_in hh
    rw [show chgB d k ns = ensB (paidS d k ns) k by simp [chgB, hE], hE, show chgS d k ns = ensS (paidS d k ns) k by simp [chgS, hE]]
    exact refCharge_good w B g c d k ns h hB hk hn hi hM hS (by omega) (by omega)
end Go.Proofs.Ytjjcaplkmbigdaa.Quota
