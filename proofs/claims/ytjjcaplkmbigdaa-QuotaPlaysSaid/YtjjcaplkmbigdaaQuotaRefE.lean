/- The document's Ensure. Conditions: a sound band. -/
import Derived.Test.YtjjcaplkmbigdaaQuotaRef
namespace Go.Proofs.Ytjjcaplkmbigdaa.Quota
open Go.ChangeShapes Go.WideShapes Go.ChangeAt Go.RowKit Mem
open Fix (I64)
set_option linter.unusedVariables false
set_option linter.unusedSimpArgs false
set_option maxRecDepth 100000

/-- A call's start: the band in its box, the answer's box behind it. -/
structure Start (w : World) (d : Bd) (g c : Nat) (W0 : World) : Prop where
  box : W0.heap[w.heap.size]? = some (.cells #[.int .i64 d.q, .int .i64 d.s, .int .i64 d.p, .int .i64 d.sp, .slice (some ⟨g, 0, none⟩) d.loc.length c] 30 (0, 0))
  res : W0.heap[w.heap.size + 1]? = some (.cells #[.int .i64 0, .int .i64 0, .int .i64 0, .int .i64 0, .slice none 0 0] 30 (0, 0))
  size : W0.heap.size = w.heap.size + 2
  below : Below w.heap.size w W0
theorem Start.of (w : World) (d : Bd) (g c : Nat) : Start w d g c ((w.alloc (refO d g c)).alloc zeroO) :=
  ⟨box_new (heap_alloc_new w _), by have := heap_alloc_new (w.alloc (refO d g c)) zeroO; simp only [World.size_alloc] at this; exact this, by simp, (alloc1 w (refO d g c)).alloc (by simp) zeroO⟩
/-- A band's row and a store into a box. -/
theorem RefAt.box {B g c b : Nat} {d : Bd} {w : World} (h : RefAt B g c d w) (hne : g ≠ b) (x0 x1 x2 x3 x4 : Value) : RefAt B g c d (((((w.setCell ⟨b, 0, none⟩ x0).setCell ⟨b, 1, none⟩ x1).setCell ⟨b, 2, none⟩ x2).setCell ⟨b, 3, none⟩ x3).setCell ⟨b, 4, none⟩ x4) := kept_own h (set5_grown _ _ _ _ _ _ _) hne
theorem below_set5 {w W : World} {b : Nat} (h : Below w.heap.size w W) (hb : w.heap.size ≤ b) (x0 x1 x2 x3 x4 : Value) : Below w.heap.size w (((((W.setCell ⟨b, 0, none⟩ x0).setCell ⟨b, 1, none⟩ x1).setCell ⟨b, 2, none⟩ x2).setCell ⟨b, 3, none⟩ x3).setCell ⟨b, 4, none⟩ x4) :=
  h.grown (set5_grown _ _ _ _ _ _ _) h.size (by intro j hj; simp at hj; omega)

theorem drawS_at' {d : Bd} {k : Nat} (hk : k < d.loc.length) : (drawS d k).at k = d.at k + min d.p (d.s - d.at k) := drawS_at hk
set_option maxHeartbeats 1000000 in
theorem refEnsure_same (w : World) (B g c : Nat) (d : Bd) (i : Int) (is : Bool) (h : RefAt B g c d w) (hl : 0 ≤ d.q) (hc : (here d i = false ∧ is = false) ∨ (here d i = true ∧ lim d = false ∧ is = true) ∨ (here d i = true ∧ lim d = true ∧ ¬ d.at i.toNat ≤ 0 ∧ is = true)) :
    Calls Try.prog 16 #[refB d g c, .int .i64 i] w (RefIs (fun v => .tuple #[v, .bool is]) d B g w) := by
  obtain ⟨hbox, hres, hsz, hbw⟩ := Start.of w d g c
  have T := Lib.hid (fun w => theres w d g c i)
  have hgl := h.ge
  have FIN : Hid (∀ w1 x0 x1 x2 x3 x4, Below w.heap.size w w1 → RefAt B g c d (((((w1.setCell ⟨w.heap.size + 1, 0, none⟩ x0).setCell ⟨w.heap.size + 1, 1, none⟩ x1).setCell ⟨w.heap.size + 1, 2, none⟩ x2).setCell ⟨w.heap.size + 1, 3, none⟩ x3).setCell ⟨w.heap.size + 1, 4, none⟩ x4) ∧ Below w.heap.size w (((((w1.setCell ⟨w.heap.size + 1, 0, none⟩ x0).setCell ⟨w.heap.size + 1, 1, none⟩ x1).setCell ⟨w.heap.size + 1, 2, none⟩ x2).setCell ⟨w.heap.size + 1, 3, none⟩ x3).setCell ⟨w.heap.size + 1, 4, none⟩ x4)) :=
    fun w1 x0 x1 x2 x3 x4 hg => ⟨(h.fresh hg).box (by omega) _ _ _ _ _, below_set5 hg (by omega) _ _ _ _ _⟩
  have RC := Lib.hid (fun w1 (hg : Below w.heap.size w w1) (k : Nat) (hk : k < d.loc.length) => (h.fresh hg).cell hk)
  unfold RefIs
  unfold refB refO zeroO at *
  rcases hc with ⟨hh, rfl⟩ | ⟨hh, hq, rfl⟩ | ⟨hh, hq, ha, rfl⟩
  · rw [hh] at T
    clear h RC
    go_enter Try.func16, Try.ntmps16
    go_upto_region 1 with fail
    generalize (w.alloc _).alloc _ = W0 at *
    obtain ⟨a0, a1, a2, a3, a4, az⟩ := five hbox
    go_wp2_with (go_at_call 33; refine (T.out _).mono ?_; rintro e w1 ⟨rfl, hg1⟩; clear a0 a1 a2 a3 a4 az; obtain ⟨a0, a1, a2, a3, a4, az⟩ := five (box_fresh hbox hg1); obtain ⟨y0, y1, y2, y3, y4, yz⟩ := five (box_fresh hres hg1))
    refine bodyPost_ret (v := .tuple #[.agg #[.int .i64 d.q, .int .i64 d.s, .int .i64 d.p, .int .i64 d.sp, .slice (some ⟨g, 0, none⟩) d.loc.length c], .bool false]) (by simp [results, Try.results16, go_sem, y0, y1, y2, y3, y4]) rfl ?_
    obtain ⟨f1, f2⟩ := FIN.out w1 (.int .i64 d.q) (.int .i64 d.s) (.int .i64 d.p) (.int .i64 d.sp) (.slice (some ⟨g, 0, none⟩) d.loc.length c) (hbw.trans (hg1.mono hbw.size))
    exact ⟨g, c, rfl, f1, .inl rfl, f2⟩
  · rw [hh] at T
    have q0 : d.q = 0 := by simp [lim] at hq; omega
    have q1 : (d.q == 0) = true := by simpa using q0
    clear h RC q0
    go_enter Try.func16, Try.ntmps16
    go_upto_region 1 with fail
    generalize (w.alloc _).alloc _ = W0 at *
    obtain ⟨a0, a1, a2, a3, a4, az⟩ := five hbox
    go_wp2_with (go_at_call 33; refine (T.out _).mono ?_; rintro e w1 ⟨rfl, hg1⟩; clear a0 a1 a2 a3 a4 az; obtain ⟨a0, a1, a2, a3, a4, az⟩ := five (box_fresh hbox hg1); obtain ⟨y0, y1, y2, y3, y4, yz⟩ := five (box_fresh hres hg1))
    refine bodyPost_ret (v := .tuple #[.agg #[.int .i64 d.q, .int .i64 d.s, .int .i64 d.p, .int .i64 d.sp, .slice (some ⟨g, 0, none⟩) d.loc.length c], .bool true]) (by simp [results, Try.results16, go_sem, y0, y1, y2, y3, y4]) rfl ?_
    obtain ⟨f1, f2⟩ := FIN.out w1 (.int .i64 d.q) (.int .i64 d.s) (.int .i64 d.p) (.int .i64 d.sp) (.slice (some ⟨g, 0, none⟩) d.loc.length c) (hbw.trans (hg1.mono hbw.size))
    exact ⟨g, c, rfl, f1, .inl rfl, f2⟩
  · rw [hh] at T
    have q1 : (d.q == 0) = false := by simp [lim] at hq ⊢; omega
    obtain ⟨k, rfl, hk⟩ := here_in hh
    have hk1 : (k : Int) < d.loc.length := by omega
    simp only [Int.toNat_natCast] at ha
    have RC1 := Lib.hid (fun w1 hg => RC.out w1 hg k hk)
    clear h RC hh hq
    generalize d.at k = x at *
    generalize d.loc.length = n at *
    go_enter Try.func16, Try.ntmps16
    go_upto_region 1 with fail
    generalize (w.alloc _).alloc _ = W0 at *
    obtain ⟨a0, a1, a2, a3, a4, az⟩ := five hbox
    go_upto_region 11 with (go_at_call 33; refine (T.out _).mono ?_; rintro e w1 ⟨rfl, hg1⟩; clear a0 a1 a2 a3 a4 az; obtain ⟨a0, a1, a2, a3, a4, az⟩ := five (box_fresh hbox hg1); obtain ⟨y0, y1, y2, y3, y4, yz⟩ := five (box_fresh hres hg1); have ck := RC1.out _ (hbw.trans (hg1.mono hbw.size)))
    have hx : decide (0 < x) = true := by simp; omega
    go_region
    go_wp2
    refine bodyPost_ret (v := .tuple #[.agg #[.int .i64 d.q, .int .i64 d.s, .int .i64 d.p, .int .i64 d.sp, .slice (some ⟨g, 0, none⟩) n c], .bool true]) (by simp [results, Try.results16, go_sem, y0, y1, y2, y3, y4]) rfl ?_
    obtain ⟨f1, f2⟩ := FIN.out w1 (.int .i64 d.q) (.int .i64 d.s) (.int .i64 d.p) (.int .i64 d.sp) (.slice (some ⟨g, 0, none⟩) n c) (hbw.trans (hg1.mono hbw.size))
    exact ⟨g, c, rfl, f1.fresh (Below.refl _ _).drew, .inl rfl, f2.drew⟩

set_option maxHeartbeats 1000000 in
theorem refEnsure_draw (w : World) (B g c : Nat) (d : Bd) (k : Nat) (h : RefAt B g c d w) (hB : B ≤ w.heap.size) (hk : k < d.loc.length) (hn : d.loc.length ≤ 64) (hl : 0 < d.q) (ha : d.at k ≤ 0) {M S : Int} (hi : Inv M S d) (hM : M ≤ 1125000000000000) :
    Calls Try.prog 16 #[refB d g c, .int .i64 (k : Int)] w (RefIs (fun v => .tuple #[v, .bool (decide (0 < (drawS d k).at k))]) (drawS d k) B g w) := by
  obtain ⟨hbox, hres, hsz, hbw⟩ := Start.of w d g c
  have T := Lib.hid (fun w => theres w d g c (k : Int))
  rw [here_nat hk] at T
  have hgl := h.ge
  have a1 := hi.at_ge k; have a2 := hi.at_le k; have a3 := hi.p0; have a4 := hi.pp; have a5 := hi.q1; have a6 := hi.s2; have a7 := hi.s0
  have a8 := pos_nonneg d.loc
  have RC := Lib.hid (fun w1 (hg : Below w.heap.size w w1) => (h.fresh hg).cell hk)
  have WI := Lib.hid (fun w1 x (hg : Below w.heap.size w w1) => withs w1 B g c d k x (h.fresh hg) hk hn)
  have hat : (drawS d k).at k = d.at k + min d.p (d.s - d.at k) := drawS_at' hk
  rw [hat]
  unfold RefIs
  rw [show drawS d k = { d with p := d.p - min d.p (d.s - d.at k), loc := d.loc.set k (d.at k + min d.p (d.s - d.at k)) } from rfl]
  obtain ⟨got, hgot⟩ : ∃ got, got = min d.p (d.s - d.at k) := ⟨_, rfl⟩
  rw [← hgot]
  have FIN : Hid (∀ g' c' W, w.heap.size ≤ g' → RefAt w.heap.size g' c' { d with loc := d.loc.set k (d.at k + got) } W → RefAt B g' c' { d with p := d.p - got, loc := d.loc.set k (d.at k + got) } W) := fun g' c' W h1 h2 => h2.lower hB
  have RN : Hid (∀ g' c' W, RefAt w.heap.size g' c' { d with loc := d.loc.set k (d.at k + got) } W → W.cell? ⟨g', k, none⟩ = some (.int .i64 (d.at k + got))) := fun g' c' W h1 => by
    have := h1.cell (k := k) (by simpa using hk)
    rwa [show (Bd.at { d with loc := d.loc.set k (d.at k + got) } k) = d.at k + got by simp [Bd.at, hk]] at this
  have hk1 : (k : Int) < d.loc.length := by omega
  have g0 : 0 ≤ got := by omega
  have g1 : got ≤ d.p := by omega
  have pq : d.p ≤ 1099511627776 := by omega
  have gg := Lib.hid hgot
  have q1 : (d.q == 0) = false := by simp; omega
  unfold refB refO zeroO at *
  simp only [List.length_set] at *
  clear h hi hgot hat a4
  generalize d.at k = x at *
  generalize d.loc.length = n at *
  go_enter Try.func16, Try.ntmps16
  go_upto_region 1 with fail
  generalize (w.alloc _).alloc _ = W0 at *
  obtain ⟨b0, b1, b2, b3, b4, bz⟩ := five hbox
  go_upto_region 6 with (go_at_call 33; refine (T.out _).mono ?_; rintro e w1 ⟨rfl, hg1⟩; clear b0 b1 b2 b3 b4 bz; have hb1 := box_fresh hbox hg1; have hr1 := box_fresh hres hg1; have hgw := hbw.trans (hg1.mono hbw.size); obtain ⟨b0, b1, b2, b3, b4, bz⟩ := five hb1; have ck := RC.out _ hgw)
  go_region
  have hgV : Below w.heap.size w w1.drew := hgw.drew
  have hbV := (show w1.drew.heap[w.heap.size]? = _ from hb1)
  have hrV := (show w1.drew.heap[w.heap.size + 1]? = _ from hr1)
  have ck2 := RC.out _ hgV
  clear T RC hg1 hbox hres hb1 hr1 hgw b0 b1 b2 b3 b4 bz ck
  generalize w1.drew = V at *
  have WJ := Lib.hid (WI.out V.drew (x + got) hgV.drew)
  clear WI
  obtain ⟨b0, b1, b2, b3, b4, bz⟩ := five hbV
  by_cases hp : d.p < d.s - x
  · have e : got = d.p := by have := gg.out; omega
    subst e
    have hw : IntKind.i64.wrap (x + d.p) = x + d.p := by rw [IntKind.wrap_i64]; omega
    go_upto_region 9 with fail
    go_region_with (go_at_call 34; refine WJ.out.mono ?_; rintro e w2 ⟨g', c', rfl, hR, hg2⟩; have hb2 := (show w2.heap[w.heap.size]? = _ from (box_fresh (w := V.drew) hbV hg2)); obtain ⟨e0, e1, e2, e3, e4, ez⟩ := five hb2)
    all_goals
      have hr2 := box_fresh (w := V.drew) hrV hg2
      have hz0 := lt_of hrV
      have hgl' := hR.ge
      have hvs : V.drew.heap.size = V.heap.size := rfl
      have hb3 := set5_block hb2 (.int .i64 d.q) (.int .i64 d.s) (.int .i64 d.p) (.int .i64 d.sp) (.slice (some ⟨g', 0, none⟩) n c')
      have hr3 := box_kept hr2 (set5_grown w2 w.heap.size (.int .i64 d.q) (.int .i64 d.s) (.int .i64 d.p) (.int .i64 d.sp) (.slice (some ⟨g', 0, none⟩) n c')) (by simp)
      have hR3 := (hR.lower (B' := w.heap.size) (by have := hgV.size; omega)).box (b := w.heap.size) (by omega) (.int .i64 d.q) (.int .i64 d.s) (.int .i64 d.p) (.int .i64 d.sp) (.slice (some ⟨g', 0, none⟩) n c')
      have hg3 := below_set5 (b := w.heap.size) (hgV.drew.trans (hg2.mono (by have := hgV.size; omega))) (Nat.le_refl _) (.int .i64 d.q) (.int .i64 d.s) (.int .i64 d.p) (.int .i64 d.sp) (.slice (some ⟨g', 0, none⟩) n c')
      clear e0 e1 e2 e3 e4 ez hb2 hr2 hR hg2 WJ
      generalize ((((w2.setCell ⟨w.heap.size, 0, none⟩ (.int .i64 d.q)).setCell ⟨w.heap.size, 1, none⟩ (.int .i64 d.s)).setCell ⟨w.heap.size, 2, none⟩ (.int .i64 d.p)).setCell ⟨w.heap.size, 3, none⟩ (.int .i64 d.sp)).setCell ⟨w.heap.size, 4, none⟩ (.slice (some ⟨g', 0, none⟩) n c') = W3 at *
      clear b0 b1 b2 b3 b4 bz ck2 hbV hrV
      obtain ⟨b0, b1, b2, b3, b4, bz⟩ := five hb3
      have hb4 := set_block hb3 2 (.int .i64 (0))
      simp only [List.setIfInBounds_toArray, List.set_cons_succ, List.set_cons_zero] at hb4
      have hr4 := box_kept hr3 (one_grown W3 w.heap.size 2 (.int .i64 (0))) (by simp)
      have hR4 : RefAt w.heap.size g' c' { d with loc := d.loc.set k (x + d.p) } (W3.setCell ⟨w.heap.size, 2, none⟩ (.int .i64 (0))) := kept_own hR3 (one_grown W3 w.heap.size 2 (.int .i64 (0))) (by omega)
      have hg4 := hg3.setCell (p := ⟨w.heap.size, 2, none⟩) (Nat.le_refl _) (.int .i64 (0))
      go_upto_region 11 with fail
      clear b0 b1 b2 b3 b4 bz hb3 hr3 hR3 hg3
      generalize W3.setCell ⟨w.heap.size, 2, none⟩ (.int .i64 (0)) = W4 at *
      obtain ⟨b0, b1, b2, b3, b4, bz⟩ := five hb4
      obtain ⟨y0, y1, y2, y3, y4, yz⟩ := five hr4
      have ck := RN.out _ _ _ hR4
      go_region
      go_wp2
      refine bodyPost_ret (v := .tuple #[.agg #[.int .i64 d.q, .int .i64 d.s, .int .i64 (0), .int .i64 d.sp, .slice (some ⟨g', 0, none⟩) n c'], .bool (decide (0 < x + d.p))]) (by simp [results, Try.results16, go_sem, y0, y1, y2, y3, y4]) rfl ?_
      have hR5 := FIN.out g' c' _ (by have := hgV.size; omega) hR4
      have f1 := hR5.box (b := w.heap.size + 1) (by omega) (.int .i64 d.q) (.int .i64 d.s) (.int .i64 (0)) (.int .i64 d.sp) (.slice (some ⟨g', 0, none⟩) n c')
      have f2 := below_set5 (b := w.heap.size + 1) hg4 (by omega) (.int .i64 d.q) (.int .i64 d.s) (.int .i64 (0)) (.int .i64 d.sp) (.slice (some ⟨g', 0, none⟩) n c')
      exact ⟨g', c', by first | (rw [Int.sub_self]; done) | rfl, f1.fresh (Below.refl _ _).drew, .inr (by have := hgV.size; omega), f2.drew⟩
  · have e : got = d.s - x := by have := gg.out; omega
    subst e
    have hw : IntKind.i64.wrap (x + (d.s - x)) = x + (d.s - x) := by rw [IntKind.wrap_i64]; omega
    have hw2 : IntKind.i64.wrap (d.p - (d.s - x)) = d.p - (d.s - x) := by rw [IntKind.wrap_i64]; omega
    go_upto_region 9 with fail
    go_region_with (go_at_call 34; refine WJ.out.mono ?_; rintro e w2 ⟨g', c', rfl, hR, hg2⟩; have hb2 := (show w2.heap[w.heap.size]? = _ from (box_fresh (w := V.drew) hbV hg2)); obtain ⟨e0, e1, e2, e3, e4, ez⟩ := five hb2)
    all_goals
      have hr2 := box_fresh (w := V.drew) hrV hg2
      have hz0 := lt_of hrV
      have hgl' := hR.ge
      have hvs : V.drew.heap.size = V.heap.size := rfl
      have hb3 := set5_block hb2 (.int .i64 d.q) (.int .i64 d.s) (.int .i64 d.p) (.int .i64 d.sp) (.slice (some ⟨g', 0, none⟩) n c')
      have hr3 := box_kept hr2 (set5_grown w2 w.heap.size (.int .i64 d.q) (.int .i64 d.s) (.int .i64 d.p) (.int .i64 d.sp) (.slice (some ⟨g', 0, none⟩) n c')) (by simp)
      have hR3 := (hR.lower (B' := w.heap.size) (by have := hgV.size; omega)).box (b := w.heap.size) (by omega) (.int .i64 d.q) (.int .i64 d.s) (.int .i64 d.p) (.int .i64 d.sp) (.slice (some ⟨g', 0, none⟩) n c')
      have hg3 := below_set5 (b := w.heap.size) (hgV.drew.trans (hg2.mono (by have := hgV.size; omega))) (Nat.le_refl _) (.int .i64 d.q) (.int .i64 d.s) (.int .i64 d.p) (.int .i64 d.sp) (.slice (some ⟨g', 0, none⟩) n c')
      clear e0 e1 e2 e3 e4 ez hb2 hr2 hR hg2 WJ
      generalize ((((w2.setCell ⟨w.heap.size, 0, none⟩ (.int .i64 d.q)).setCell ⟨w.heap.size, 1, none⟩ (.int .i64 d.s)).setCell ⟨w.heap.size, 2, none⟩ (.int .i64 d.p)).setCell ⟨w.heap.size, 3, none⟩ (.int .i64 d.sp)).setCell ⟨w.heap.size, 4, none⟩ (.slice (some ⟨g', 0, none⟩) n c') = W3 at *
      clear b0 b1 b2 b3 b4 bz ck2 hbV hrV
      obtain ⟨b0, b1, b2, b3, b4, bz⟩ := five hb3
      have hb4 := set_block hb3 2 (.int .i64 (d.p - (d.s - x)))
      simp only [List.setIfInBounds_toArray, List.set_cons_succ, List.set_cons_zero] at hb4
      have hr4 := box_kept hr3 (one_grown W3 w.heap.size 2 (.int .i64 (d.p - (d.s - x)))) (by simp)
      have hR4 : RefAt w.heap.size g' c' { d with loc := d.loc.set k (x + (d.s - x)) } (W3.setCell ⟨w.heap.size, 2, none⟩ (.int .i64 (d.p - (d.s - x)))) := kept_own hR3 (one_grown W3 w.heap.size 2 (.int .i64 (d.p - (d.s - x)))) (by omega)
      have hg4 := hg3.setCell (p := ⟨w.heap.size, 2, none⟩) (Nat.le_refl _) (.int .i64 (d.p - (d.s - x)))
      go_upto_region 11 with fail
      clear b0 b1 b2 b3 b4 bz hb3 hr3 hR3 hg3
      generalize W3.setCell ⟨w.heap.size, 2, none⟩ (.int .i64 (d.p - (d.s - x))) = W4 at *
      obtain ⟨b0, b1, b2, b3, b4, bz⟩ := five hb4
      obtain ⟨y0, y1, y2, y3, y4, yz⟩ := five hr4
      have ck := RN.out _ _ _ hR4
      go_region
      go_wp2
      refine bodyPost_ret (v := .tuple #[.agg #[.int .i64 d.q, .int .i64 d.s, .int .i64 (d.p - (d.s - x)), .int .i64 d.sp, .slice (some ⟨g', 0, none⟩) n c'], .bool (decide (0 < x + (d.s - x)))]) (by simp [results, Try.results16, go_sem, y0, y1, y2, y3, y4]) rfl ?_
      have hR5 := FIN.out g' c' _ (by have := hgV.size; omega) hR4
      have f1 := hR5.box (b := w.heap.size + 1) (by omega) (.int .i64 d.q) (.int .i64 d.s) (.int .i64 (d.p - (d.s - x))) (.int .i64 d.sp) (.slice (some ⟨g', 0, none⟩) n c')
      have f2 := below_set5 (b := w.heap.size + 1) hg4 (by omega) (.int .i64 d.q) (.int .i64 d.s) (.int .i64 (d.p - (d.s - x))) (.int .i64 d.sp) (.slice (some ⟨g', 0, none⟩) n c')
      exact ⟨g', c', by first | (rw [Int.sub_self]; done) | rfl, f1.fresh (Below.refl _ _).drew, .inr (by have := hgV.size; omega), f2.drew⟩
end Go.Proofs.Ytjjcaplkmbigdaa.Quota
