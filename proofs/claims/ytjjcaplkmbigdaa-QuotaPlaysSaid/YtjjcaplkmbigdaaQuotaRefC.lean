/- The document's New, Set. Conditions: a sound band. -/
import Derived.Test.YtjjcaplkmbigdaaQuotaRefE
import Derived.Test.YtjjcaplkmbigdaaFixDocS
namespace Go.Proofs.Ytjjcaplkmbigdaa.Quota
open Go.ChangeShapes Go.WideShapes Go.ChangeAt Go.RowKit Mem
open Fix (I64)
set_option linter.unusedVariables false
set_option linter.unusedSimpArgs false
set_option maxRecDepth 100000

theorem refEnsure (w : World) (B g c : Nat) (d : Bd) (i : Int) (h : RefAt B g c d w) (hB : B ≤ w.heap.size) (hn : d.loc.length ≤ 64) {M S : Int} (hi : Inv M S d) (hM : M ≤ 1125000000000000) :
    Calls Try.prog 16 #[refB d g c, .int .i64 i] w (RefIs (fun v => .tuple #[v, .bool (ensB d i)]) (ensS d i) B g w) := by
  cases hh : here d i
  · rw [show ensB d i = false by simp [ensB, hh], show ensS d i = d by simp [ensS, hh]]
    exact refEnsure_same w B g c d i false h hi.q0 (.inl ⟨hh, rfl⟩)
  cases hl : lim d
  · rw [show ensB d i = true by simp [ensB, hh, hl], show ensS d i = d by simp [ensS, hl]]
    exact refEnsure_same w B g c d i true h hi.q0 (.inr (.inl ⟨hh, hl, rfl⟩))
  by_cases ha : d.at i.toNat ≤ 0
  · obtain ⟨k, rfl, hk⟩ := here_in hh
    simp only [Int.toNat_natCast] at ha
    rw [show ensB d k = decide (0 < (drawS d k).at k) by simp [ensB, ensS, hh, hl, ha], show ensS d k = drawS d k by simp [ensS, hh, hl, ha]]
    exact refEnsure_draw w B g c d k h hB hk hn (by simpa [lim] using hl) ha hi hM
  · rw [show ensB d i = true by simp [ensB, ensS, hh, hl, ha]; omega, show ensS d i = d by simp [ensS, ha]]
    exact refEnsure_same w B g c d i true h hi.q0 (.inr (.inr ⟨hh, hl, ha, rfl⟩))

theorem refNew (w : World) (n : Nat) (h1 : 1 ≤ n) (h2 : n ≤ 64) : Calls Try.prog 12 #[.int .i64 n] w (fun e w' => ∃ g c, e = .returned (.tuple #[refB (newS n) g c, .int .i64 0]) ∧ RefAt w.heap.size g c (newS n) w' ∧ Below w.heap.size w w') := by
  have hw1 := alloc1 w zeroO
  have hr := heap_alloc_new w zeroO
  have hz1 : (w.alloc zeroO).heap.size = w.heap.size + 1 := by simp
  have M := run_make_row' (P := Try.prog) 28 2 (.int .i64 0) 8 Try.underlying28 infoL rfl .i64 .i64 n (by omega) (by omega) (w.alloc zeroO)
  have hn : (1 : Int) ≤ n := by omega
  have h3 : ¬ (n : Int) < 1 := by omega
  have h4 : ¬ (64 : Int) < n := by omega
  have own := World.ownsRow_lit (base := w.heap.size) (e := 2) (size := 1) (w.alloc zeroO) (madeCells #[Value.int .i64 0] n) n (by omega) (by simp [maxLen]; omega) (by simp [size_madeCells])
  rw [made_zero] at own
  have hr2 := box_new (o' := .cells (madeCells #[Value.int .i64 0] n) 2) hr
  have hw2 := hw1.alloc (by omega) (.cells (madeCells #[Value.int .i64 0] n) 2)
  rw [hz1] at M own
  unfold refB zeroO at *
  rw [show (newS n).loc.length = n from len_new n]
  have FIN : Hid (∀ W, W.ownsRow w.heap.size 2 1 (.slice (some ⟨w.heap.size + 1, 0, none⟩) n n) n (cL (List.replicate n 0)) → RefAt w.heap.size (w.heap.size + 1) n (newS n) W) := fun W h => by simpa [RefAt, newS] using h
  obtain ⟨y0, y1, y2, y3, y4, yz⟩ := five hr2
  go_enter Try.func12, Try.ntmps12
  go_upto_region 3 with fail
  generalize w.alloc (.cells #[.int .i64 0, .int .i64 0, .int .i64 0, .int .i64 0, .slice none 0 0] 30) = W0 at *
  generalize W0.alloc (.cells (madeCells #[Value.int .i64 0] n) 2) = W1 at *
  go_wp2
  refine bodyPost_ret (v := .tuple #[.agg #[.int .i64 0, .int .i64 0, .int .i64 0, .int .i64 0, .slice (some ⟨w.heap.size + 1, 0, none⟩) n n], .int .i64 0]) (by simp [results, Try.results12, go_sem, y0, y1, y2, y3, y4]) rfl ?_
  have f1 := kept_own own (set5_grown W1 w.heap.size (.int .i64 0) (.int .i64 0) (.int .i64 0) (.int .i64 0) (.slice (some ⟨w.heap.size + 1, 0, none⟩) n n)) (by omega)
  have f2 := below_set5 (b := w.heap.size) hw2 (Nat.le_refl _) (.int .i64 0) (.int .i64 0) (.int .i64 0) (.int .i64 0) (.slice (some ⟨w.heap.size + 1, 0, none⟩) n n)
  exact ⟨w.heap.size + 1, n, rfl, FIN.out _ f1, f2⟩
theorem refNew_none (w : World) (n : Int) (h : n < 1 ∨ 64 < n) : Calls Try.prog 12 #[.int .i64 n] w (fun e w' => e = .returned (.tuple #[.agg #[.int .i64 0, .int .i64 0, .int .i64 0, .int .i64 0, .slice none 0 0], .int .i64 1]) ∧ Below w.heap.size w w') := by
  have hw1 := alloc1 w zeroO
  obtain ⟨y0, y1, y2, y3, y4, yz⟩ := five (show (w.alloc zeroO).heap[w.heap.size]? = some (.cells #[.int .i64 0, .int .i64 0, .int .i64 0, .int .i64 0, .slice none 0 0] 30 (0, 0)) from heap_alloc_new w zeroO)
  unfold zeroO at *
  by_cases h1 : n < 1
  all_goals
    go_enter Try.func12, Try.ntmps12
    go_wp2
    refine bodyPost_ret (v := .tuple #[.agg #[.int .i64 0, .int .i64 0, .int .i64 0, .int .i64 0, .slice none 0 0], .int .i64 1]) (by simp [results, Try.results12, go_sem, y0, y1, y2, y3, y4]) rfl ?_
    exact ⟨rfl, hw1⟩

/-- The answer is the band as it came in. -/
theorem ref_same {w W1 : World} {B g c : Nat} {d : Bd} (h : RefAt B g c d w) (hg : Below w.heap.size w W1) : RefAt B g c d (((((W1.setCell ⟨w.heap.size + 1, 0, none⟩ (.int .i64 d.q)).setCell ⟨w.heap.size + 1, 1, none⟩ (.int .i64 d.s)).setCell ⟨w.heap.size + 1, 2, none⟩ (.int .i64 d.p)).setCell ⟨w.heap.size + 1, 3, none⟩ (.int .i64 d.sp)).setCell ⟨w.heap.size + 1, 4, none⟩ (.slice (some ⟨g, 0, none⟩) d.loc.length c)) ∧ Below w.heap.size w (((((W1.setCell ⟨w.heap.size + 1, 0, none⟩ (.int .i64 d.q)).setCell ⟨w.heap.size + 1, 1, none⟩ (.int .i64 d.s)).setCell ⟨w.heap.size + 1, 2, none⟩ (.int .i64 d.p)).setCell ⟨w.heap.size + 1, 3, none⟩ (.int .i64 d.sp)).setCell ⟨w.heap.size + 1, 4, none⟩ (.slice (some ⟨g, 0, none⟩) d.loc.length c)) := by
  have := h.ge
  exact ⟨(h.fresh hg).box (by omega) _ _ _ _ _, below_set5 hg (by omega) _ _ _ _ _⟩

set_option maxHeartbeats 1000000 in
theorem refSet_bad (w : World) (B g c : Nat) (d : Bd) (q s : Int) (h : RefAt B g c d w) (hb : badSet q s = true) :
    Calls Try.prog 14 #[refB d g c, .int .i64 q, .int .i64 s] w (RefIs (fun v => .tuple #[v, .int .i64 1]) d B g w) := by
  obtain ⟨hbox, hres, hsz, hbw⟩ := Start.of w d g c
  obtain ⟨f1, f2⟩ := ref_same h hbw
  simp only [badSet, Bool.or_eq_true, Bool.and_eq_true, decide_eq_true_eq] at hb
  unfold RefIs
  unfold refB refO zeroO at *
  have F1 := Lib.hid f1
  have F2 := Lib.hid f2
  obtain ⟨y0, y1, y2, y3, y4, yz⟩ := five hres
  obtain ⟨a0, a1, a2, a3, a4, az⟩ := five hbox
  clear f1 f2 h hbox hres hbw
  by_cases h1 : q < 0
  · clear hb
    go_enter Try.func14, Try.ntmps14
    go_upto_region 1 with fail
    generalize (w.alloc _).alloc _ = W0 at *
    go_wp2
    refine bodyPost_ret (v := .tuple #[.agg #[.int .i64 d.q, .int .i64 d.s, .int .i64 d.p, .int .i64 d.sp, .slice (some ⟨g, 0, none⟩) d.loc.length c], .int .i64 1]) (by simp [results, Try.results14, go_sem, y0, y1, y2, y3, y4]) rfl ?_
    exact ⟨g, c, rfl, F1.out, .inl rfl, F2.out⟩
  by_cases h2 : 1099511627776 < q
  · clear hb
    go_enter Try.func14, Try.ntmps14
    go_upto_region 1 with fail
    generalize (w.alloc _).alloc _ = W0 at *
    go_wp2
    refine bodyPost_ret (v := .tuple #[.agg #[.int .i64 d.q, .int .i64 d.s, .int .i64 d.p, .int .i64 d.sp, .slice (some ⟨g, 0, none⟩) d.loc.length c], .int .i64 1]) (by simp [results, Try.results14, go_sem, y0, y1, y2, y3, y4]) rfl ?_
    exact ⟨g, c, rfl, F1.out, .inl rfl, F2.out⟩
  have h3 : 0 < q := by omega
  have h3' : decide (0 < q) = true := by simpa using h3
  have h4 : s < 1 ∨ 1099511627776 < s := by omega
  clear hb
  by_cases h5 : s < 1
  · have h5' : decide (s < 1) = true := by simpa using h5
    clear h4
    go_enter Try.func14, Try.ntmps14
    go_upto_region 1 with fail
    generalize (w.alloc _).alloc _ = W0 at *
    go_wp2
    refine bodyPost_ret (v := .tuple #[.agg #[.int .i64 d.q, .int .i64 d.s, .int .i64 d.p, .int .i64 d.sp, .slice (some ⟨g, 0, none⟩) d.loc.length c], .int .i64 1]) (by simp [results, Try.results14, go_sem, y0, y1, y2, y3, y4]) rfl ?_
    exact ⟨g, c, rfl, F1.out, .inl rfl, F2.out⟩
  · have h6 : 1099511627776 < s := by omega
    have h5' : decide (s < 1) = false := by simpa using h5
    have h6' : decide (1099511627776 < s) = true := by simpa using h6
    clear h4
    go_enter Try.func14, Try.ntmps14
    go_upto_region 1 with fail
    generalize (w.alloc _).alloc _ = W0 at *
    go_wp2
    refine bodyPost_ret (v := .tuple #[.agg #[.int .i64 d.q, .int .i64 d.s, .int .i64 d.p, .int .i64 d.sp, .slice (some ⟨g, 0, none⟩) d.loc.length c], .int .i64 1]) (by simp [results, Try.results14, go_sem, y0, y1, y2, y3, y4]) rfl ?_
    exact ⟨g, c, rfl, F1.out, .inl rfl, F2.out⟩

set_option maxHeartbeats 1000000 in
theorem refSet_good (w : World) (B g c : Nat) (d : Bd) (q s : Int) (h : RefAt B g c d w) (hB : B ≤ w.heap.size) (hn : d.loc.length ≤ 64) (hb : badSet q s = false) :
    Calls Try.prog 14 #[refB d g c, .int .i64 q, .int .i64 s] w (RefIs (fun v => .tuple #[v, .int .i64 0]) (setS d q s) B g w) := by
  obtain ⟨hbox, hres, hsz, hbw⟩ := Start.of w d g c
  rw [show setS d q s = ⟨q, if q = 0 then 0 else s, q, List.replicate d.loc.length 0, 0⟩ by simp [setS, hb]]
  simp only [badSet, Bool.or_eq_false_iff, Bool.and_eq_false_iff, decide_eq_false_iff_not] at hb
  obtain ⟨⟨q1, q2⟩, hb⟩ := hb
  have M := run_make_row' (P := Try.prog) 28 2 (.int .i64 0) 8 Try.underlying28 infoL rfl .i64 .i64 d.loc.length (by omega) (by omega) ((w.alloc (refO d g c)).alloc zeroO)
  have own := World.ownsRow_lit (base := w.heap.size) (e := 2) (size := 1) ((w.alloc (refO d g c)).alloc zeroO) (madeCells #[Value.int .i64 0] d.loc.length) d.loc.length (by omega) (by simp [maxLen]; omega) (by simp [size_madeCells])
  rw [made_zero] at own
  rw [hsz] at M own
  have hr2 := box_new (o' := .cells (madeCells #[Value.int .i64 0] d.loc.length) 2) hres
  have hw2 := hbw.alloc (by omega) (.cells (madeCells #[Value.int .i64 0] d.loc.length) 2)
  have FIN : Hid (∀ W s', W.ownsRow w.heap.size 2 1 (.slice (some ⟨w.heap.size + 2, 0, none⟩) d.loc.length d.loc.length) d.loc.length (cL (List.replicate d.loc.length 0)) → RefAt B (w.heap.size + 2) d.loc.length ⟨q, s', q, List.replicate d.loc.length 0, 0⟩ W) := fun W s' h => by
    unfold RefAt
    simp only [List.length_replicate]
    exact owns_lower h hB
  unfold RefIs
  unfold refB refO zeroO at *
  simp only [List.length_replicate]
  obtain ⟨y0, y1, y2, y3, y4, yz⟩ := five hr2
  obtain ⟨a0, a1, a2, a3, a4, az⟩ := five hbox
  clear h hbox hres hbw hr2
  generalize d.loc.length = n at *
  by_cases hq : q = 0
  · subst hq
    simp only [if_pos]
    go_enter Try.func14, Try.ntmps14
    go_upto_region 1 with fail
    generalize (w.alloc _).alloc _ = W0 at *
    generalize W0.alloc (.cells (madeCells #[Value.int .i64 0] n) 2) = W1 at *
    go_wp2
    refine bodyPost_ret (v := .tuple #[.agg #[.int .i64 0, .int .i64 0, .int .i64 0, .int .i64 0, .slice (some ⟨w.heap.size + 2, 0, none⟩) n n], .int .i64 0]) (by simp [results, Try.results14, go_sem, y0, y1, y2, y3, y4]) rfl ?_
    have f1 := kept_own own (set5_grown W1 (w.heap.size + 1) (.int .i64 0) (.int .i64 0) (.int .i64 0) (.int .i64 0) (.slice (some ⟨w.heap.size + 2, 0, none⟩) n n)) (by omega)
    have f2 := below_set5 (b := w.heap.size + 1) hw2 (by omega) (.int .i64 0) (.int .i64 0) (.int .i64 0) (.int .i64 0) (.slice (some ⟨w.heap.size + 2, 0, none⟩) n n)
    exact ⟨w.heap.size + 2, n, rfl, FIN.out _ 0 f1, .inr (by omega), f2⟩
  · rw [if_neg hq]
    have h3 : (q == 0) = false := by simpa using hq
    have h3' : decide (0 < q) = true := by simp; omega
    have h4 : decide (s < 1) = false := by simp; omega
    have h5 : decide (1099511627776 < s) = false := by simp; omega
    clear hb
    go_enter Try.func14, Try.ntmps14
    go_upto_region 1 with fail
    generalize (w.alloc _).alloc _ = W0 at *
    generalize W0.alloc (.cells (madeCells #[Value.int .i64 0] n) 2) = W1 at *
    go_wp2
    refine bodyPost_ret (v := .tuple #[.agg #[.int .i64 q, .int .i64 s, .int .i64 q, .int .i64 0, .slice (some ⟨w.heap.size + 2, 0, none⟩) n n], .int .i64 0]) (by simp [results, Try.results14, go_sem, y0, y1, y2, y3, y4]) rfl ?_
    have f1 := kept_own own (set5_grown W1 (w.heap.size + 1) (.int .i64 q) (.int .i64 s) (.int .i64 q) (.int .i64 0) (.slice (some ⟨w.heap.size + 2, 0, none⟩) n n)) (by omega)
    have f2 := below_set5 (b := w.heap.size + 1) hw2 (by omega) (.int .i64 q) (.int .i64 s) (.int .i64 q) (.int .i64 0) (.slice (some ⟨w.heap.size + 2, 0, none⟩) n n)
    exact ⟨w.heap.size + 2, n, rfl, FIN.out _ s f1, .inr (by omega), f2⟩
theorem refSet (w : World) (B g c : Nat) (d : Bd) (q s : Int) (h : RefAt B g c d w) (hB : B ≤ w.heap.size) (hn : d.loc.length ≤ 64) :
    Calls Try.prog 14 #[refB d g c, .int .i64 q, .int .i64 s] w (RefIs (fun v => .tuple #[v, .int .i64 (setE q s)]) (setS d q s) B g w) := by
  cases hb : badSet q s
  · rw [show setE q s = 0 by simp [setE, hb]]
    exact refSet_good w B g c d q s h hB hn hb
  · rw [show setE q s = 1 by simp [setE, hb], show setS d q s = d by simp [setS, hb]]
    exact refSet_bad w B g c d q s h hb
end Go.Proofs.Ytjjcaplkmbigdaa.Quota
