/- The document's own clock. Conditions: each argument is a number of its kind. -/
import Derived.Test.YtfbnnkmjnolnlaaTurnTick
import Derived.Test.YtfbnnkmjnolnlaaWideDocM
namespace Go.Proofs.Ytfbnnkmjnolnlaa.Turn
open Go.ChangeShapes Go.WideShapes Go.ChangeAt Go.RowKit Mem
set_option linter.unusedVariables false
set_option linter.unusedSimpArgs false
set_option maxRecDepth 100000

def docV (c : Ck) : Value := .agg #[.int .u64 c.lat, .int .i64 c.task, .int .u64 c.ran, .int .u64 c.busy, .int .u64 c.idle]
theorem refMore (a b : Int) (w : World) (ha : U64 a) (hb : U64 b) : Calls Try.prog 27 #[.int .u64 a, .int .u64 b] w (Still (.int .u64 (top (a + b))) w) := by
  unfold U64 at ha hb
  by_cases h : 18446744073709551615 < a + b
  · rw [show top (a + b) = 18446744073709551615 by unfold top; rw [if_pos h]]
    have h1 : 18446744073709551615 - b < a := by omega
    clear h
    go_enter Try.func27, Try.ntmps27
    go_wp2
    go_ret; exact ⟨rfl, rfl⟩
  · rw [show top (a + b) = a + b by unfold top; rw [if_neg h]]
    have h1 : ¬ 18446744073709551615 - b < a := by omega
    clear h
    go_enter Try.func27, Try.ntmps27
    go_wp2
    go_ret; exact ⟨rfl, rfl⟩
theorem refSlice (w : World) (l x d : Int) (hl : U64 l) (hx : U64 x) (hd : U64 d) : Calls Try.prog 22 #[.int .u64 l, .int .u64 x, .int .u64 d] w (Fresh (.int .u64 (slice l x d)) w) := by
  have M := Lib.hid (fun W => Wide.refMulDiv l x d W hl hx hd)
  by_cases h : d ≤ x
  · rw [slice_all _ _ _ h]
    go_enter Try.func22, Try.ntmps22
    go_wp2
    go_ret; exact ⟨rfl, Below.refl _ _⟩
  · unfold slice
    rw [if_neg h]
    generalize Wide.quo l x d = q at *
    generalize Wide.rst l x d = r at *
    generalize Wide.can l x d = y at *
    by_cases h1 : q < 1
    · rw [if_pos h1]
      go_enter Try.func22, Try.ntmps22
      go_wp2_with (go_at_call 29; refine (M.out _).mono ?_; rintro e w1 ⟨rfl, hg⟩)
      go_ret; exact ⟨rfl, hg⟩
    · rw [if_neg h1]
      go_enter Try.func22, Try.ntmps22
      go_wp2_with (go_at_call 29; refine (M.out _).mono ?_; rintro e w1 ⟨rfl, hg⟩)
      go_ret; exact ⟨rfl, hg⟩
theorem refNew (w : World) (l : Int) (h : badNew l = false) : Calls Try.prog 12 #[.int .u64 l] w (Fresh (.tuple #[docV (newC l), .int .i64 0]) w) := by
  simp only [badNew, Bool.or_eq_false_iff, decide_eq_false_iff_not] at h
  obtain ⟨h1, h2⟩ := h
  have hw := alloc1 w (.cells #[.int .u64 l, .int .i64 (-1), .int .u64 0, .int .u64 0, .int .u64 0] 30)
  obtain ⟨y0, y1, y2, y3, y4, yz⟩ := five (heap_alloc_new w (.cells #[.int .u64 l, .int .i64 (-1), .int .u64 0, .int .u64 0, .int .u64 0] 30 (0, 0)))
  unfold docV
  go_enter Try.func12, Try.ntmps12
  go_wp2
  refine bodyPost_ret (v := .tuple #[.agg #[.int .u64 l, .int .i64 (-1), .int .u64 0, .int .u64 0, .int .u64 0], .int .i64 0]) (by simp [results, Try.results12, go_sem, y0, y1, y2, y3, y4]) rfl ?_
  exact ⟨rfl, hw⟩
theorem refNew_none (w : World) (l : Int) (h : badNew l = true) : Calls Try.prog 12 #[.int .u64 l] w (Fresh (.tuple #[docV ⟨0, 0, 0, 0, 0⟩, .int .i64 1]) w) := by
  simp only [badNew, Bool.or_eq_true, decide_eq_true_eq] at h
  rcases (show l < 1 ∨ (¬ l < 1 ∧ 1000000000 < l) by omega) with h1 | ⟨h1, h2⟩
  all_goals
    clear h
    have hw := alloc1 w (.cells #[.int .u64 0, .int .i64 0, .int .u64 0, .int .u64 0, .int .u64 0] 30)
    obtain ⟨y0, y1, y2, y3, y4, yz⟩ := five (heap_alloc_new w (.cells #[.int .u64 0, .int .i64 0, .int .u64 0, .int .u64 0, .int .u64 0] 30 (0, 0)))
    unfold docV
    go_enter Try.func12, Try.ntmps12
    go_wp2
    refine bodyPost_ret (v := .tuple #[.agg #[.int .u64 0, .int .i64 0, .int .u64 0, .int .u64 0, .int .u64 0], .int .i64 1]) (by simp [results, Try.results12, go_sem, y0, y1, y2, y3, y4]) rfl ?_
    exact ⟨rfl, hw⟩
theorem refBegin (w : World) (c : Ck) (t : Int) : Calls Try.prog 16 #[docV c, .int .i64 t] w (Fresh (docV (begS c t)) w) := by
  obtain ⟨l, s, r, b, d⟩ := c
  by_cases h1 : t < 0
  · have hw0 : who t = -1 := by unfold who; rw [if_pos h1]
    by_cases h2 : (-1 : Int) = s
    · rw [show begS ⟨l, s, r, b, d⟩ t = ⟨l, s, r, b, d⟩ by unfold begS; simp only [hw0, if_pos h2]]
      have h3 : ((-1 : Int) == s) = true := by simpa using h2
      clear hw0 h2
      have hw := (alloc1 w (.cells #[.int .u64 l, .int .i64 s, .int .u64 r, .int .u64 b, .int .u64 d] 30)).alloc (by simp) (.cells #[.int .u64 l, .int .i64 s, .int .u64 r, .int .u64 b, .int .u64 d] 30)
      obtain ⟨y0, y1, y2, y3, y4, yz⟩ := five (heap_alloc_new (w.alloc (.cells #[.int .u64 l, .int .i64 s, .int .u64 r, .int .u64 b, .int .u64 d] 30)) (.cells #[.int .u64 l, .int .i64 s, .int .u64 r, .int .u64 b, .int .u64 d] 30 (0, 0)))
      rw [show (w.alloc (.cells #[.int .u64 l, .int .i64 s, .int .u64 r, .int .u64 b, .int .u64 d] 30)).heap.size = w.heap.size + 1 by simp] at y0 y1 y2 y3 y4 yz
      unfold docV
      go_enter Try.func16, Try.ntmps16
      go_wp2
      refine bodyPost_ret (v := .agg #[.int .u64 l, .int .i64 s, .int .u64 r, .int .u64 b, .int .u64 d]) (by simp [results, Try.results16, go_sem, y0, y1, y2, y3, y4]) rfl ?_
      exact ⟨rfl, hw⟩
    · rw [show begS ⟨l, s, r, b, d⟩ t = ⟨l, -1, 0, b, d⟩ by unfold begS; simp only [hw0, if_neg h2]]
      have h3 : ((-1 : Int) == s) = false := by simpa using h2
      clear hw0 h2
      have hw := (alloc1 w (.cells #[.int .u64 l, .int .i64 (-1), .int .u64 0, .int .u64 b, .int .u64 d] 30)).alloc (by simp) (.cells #[.int .u64 l, .int .i64 (-1), .int .u64 0, .int .u64 b, .int .u64 d] 30)
      obtain ⟨y0, y1, y2, y3, y4, yz⟩ := five (heap_alloc_new (w.alloc (.cells #[.int .u64 l, .int .i64 (-1), .int .u64 0, .int .u64 b, .int .u64 d] 30)) (.cells #[.int .u64 l, .int .i64 (-1), .int .u64 0, .int .u64 b, .int .u64 d] 30 (0, 0)))
      rw [show (w.alloc (.cells #[.int .u64 l, .int .i64 (-1), .int .u64 0, .int .u64 b, .int .u64 d] 30)).heap.size = w.heap.size + 1 by simp] at y0 y1 y2 y3 y4 yz
      unfold docV
      go_enter Try.func16, Try.ntmps16
      go_wp2
      refine bodyPost_ret (v := .agg #[.int .u64 l, .int .i64 (-1), .int .u64 0, .int .u64 b, .int .u64 d]) (by simp [results, Try.results16, go_sem, y0, y1, y2, y3, y4]) rfl ?_
      exact ⟨rfl, hw⟩
  · have hw0 : who t = t := by unfold who; rw [if_neg h1]
    by_cases h2 : t = s
    · rw [show begS ⟨l, s, r, b, d⟩ t = ⟨l, s, r, b, d⟩ by unfold begS; simp only [hw0, if_pos h2]]
      have h3 : (t == s) = true := by simpa using h2
      clear hw0 h2
      have hw := (alloc1 w (.cells #[.int .u64 l, .int .i64 s, .int .u64 r, .int .u64 b, .int .u64 d] 30)).alloc (by simp) (.cells #[.int .u64 l, .int .i64 s, .int .u64 r, .int .u64 b, .int .u64 d] 30)
      obtain ⟨y0, y1, y2, y3, y4, yz⟩ := five (heap_alloc_new (w.alloc (.cells #[.int .u64 l, .int .i64 s, .int .u64 r, .int .u64 b, .int .u64 d] 30)) (.cells #[.int .u64 l, .int .i64 s, .int .u64 r, .int .u64 b, .int .u64 d] 30 (0, 0)))
      rw [show (w.alloc (.cells #[.int .u64 l, .int .i64 s, .int .u64 r, .int .u64 b, .int .u64 d] 30)).heap.size = w.heap.size + 1 by simp] at y0 y1 y2 y3 y4 yz
      unfold docV
      go_enter Try.func16, Try.ntmps16
      go_wp2
      refine bodyPost_ret (v := .agg #[.int .u64 l, .int .i64 s, .int .u64 r, .int .u64 b, .int .u64 d]) (by simp [results, Try.results16, go_sem, y0, y1, y2, y3, y4]) rfl ?_
      exact ⟨rfl, hw⟩
    · rw [show begS ⟨l, s, r, b, d⟩ t = ⟨l, t, 0, b, d⟩ by unfold begS; simp only [hw0, if_neg h2]]
      have h3 : (t == s) = false := by simpa using h2
      clear hw0 h2
      have hw := (alloc1 w (.cells #[.int .u64 l, .int .i64 t, .int .u64 0, .int .u64 b, .int .u64 d] 30)).alloc (by simp) (.cells #[.int .u64 l, .int .i64 t, .int .u64 0, .int .u64 b, .int .u64 d] 30)
      obtain ⟨y0, y1, y2, y3, y4, yz⟩ := five (heap_alloc_new (w.alloc (.cells #[.int .u64 l, .int .i64 t, .int .u64 0, .int .u64 b, .int .u64 d] 30)) (.cells #[.int .u64 l, .int .i64 t, .int .u64 0, .int .u64 b, .int .u64 d] 30 (0, 0)))
      rw [show (w.alloc (.cells #[.int .u64 l, .int .i64 t, .int .u64 0, .int .u64 b, .int .u64 d] 30)).heap.size = w.heap.size + 1 by simp] at y0 y1 y2 y3 y4 yz
      unfold docV
      go_enter Try.func16, Try.ntmps16
      go_wp2
      refine bodyPost_ret (v := .agg #[.int .u64 l, .int .i64 t, .int .u64 0, .int .u64 b, .int .u64 d]) (by simp [results, Try.results16, go_sem, y0, y1, y2, y3, y4]) rfl ?_
      exact ⟨rfl, hw⟩
theorem refTick_far (w : World) (c : Ck) (n x d : Int) (h1 : 1000000000 < n) : Calls Try.prog 14 #[docV c, .int .u64 n, .int .u64 x, .int .u64 d] w (Fresh (.tuple #[docV c, .bool false, .int .i64 8]) w) := by
  obtain ⟨l, s, r, b, i⟩ := c
  have hw := (alloc1 w (.cells #[.int .u64 l, .int .i64 s, .int .u64 r, .int .u64 b, .int .u64 i] 30)).alloc (by simp) (.cells #[.int .u64 l, .int .i64 s, .int .u64 r, .int .u64 b, .int .u64 i] 30)
  obtain ⟨y0, y1, y2, y3, y4, yz⟩ := five (heap_alloc_new (w.alloc (.cells #[.int .u64 l, .int .i64 s, .int .u64 r, .int .u64 b, .int .u64 i] 30)) (.cells #[.int .u64 l, .int .i64 s, .int .u64 r, .int .u64 b, .int .u64 i] 30 (0, 0)))
  rw [show (w.alloc (.cells #[.int .u64 l, .int .i64 s, .int .u64 r, .int .u64 b, .int .u64 i] 30)).heap.size = w.heap.size + 1 by simp] at y0 y1 y2 y3 y4 yz
  unfold docV
  go_enter Try.func14, Try.ntmps14
  go_wp2
  refine bodyPost_ret (v := .tuple #[.agg #[.int .u64 l, .int .i64 s, .int .u64 r, .int .u64 b, .int .u64 i], .bool false, .int .i64 8]) (by simp [results, Try.results14, go_sem, y0, y1, y2, y3, y4]) rfl ?_
  exact ⟨rfl, hw⟩
theorem refTick_idle (w : World) (c : Ck) (n x d : Int) (g : Good c) (hn : U64 n) (h1 : ¬ 1000000000 < n) (h2 : c.task < 0) : Calls Try.prog 14 #[docV c, .int .u64 n, .int .u64 x, .int .u64 d] w (Fresh (.tuple #[docV { c with idle := top (c.idle + n) }, .bool false, .int .i64 0]) w) := by
  have M := Lib.hid (fun W => refMore c.idle n W g.idle hn)
  obtain ⟨l, s, r, b, i⟩ := c
  simp only at h2 M ⊢
  clear g hn
  unfold docV
  simp only
  generalize top (i + n) = q at *
  go_enter Try.func14, Try.ntmps14
  go_wp2_with (go_at_call 27; refine (M.out _).mono ?_; rintro e w1 ⟨rfl, rfl⟩)
  have hw := (alloc1 w (.cells #[.int .u64 l, .int .i64 s, .int .u64 r, .int .u64 b, .int .u64 q] 30)).alloc (by simp) (.cells #[.int .u64 l, .int .i64 s, .int .u64 r, .int .u64 b, .int .u64 q] 30)
  obtain ⟨y0, y1, y2, y3, y4, yz⟩ := five (heap_alloc_new (w.alloc (.cells #[.int .u64 l, .int .i64 s, .int .u64 r, .int .u64 b, .int .u64 q] 30)) (.cells #[.int .u64 l, .int .i64 s, .int .u64 r, .int .u64 b, .int .u64 q] 30 (0, 0)))
  rw [show (w.alloc (.cells #[.int .u64 l, .int .i64 s, .int .u64 r, .int .u64 b, .int .u64 q] 30)).heap.size = w.heap.size + 1 by simp] at y0 y1 y2 y3 y4 yz
  refine bodyPost_ret (v := .tuple #[.agg #[.int .u64 l, .int .i64 s, .int .u64 r, .int .u64 b, .int .u64 q], .bool false, .int .i64 0]) (by simp [results, Try.results14, go_sem, y0, y1, y2, y3, y4]) rfl ?_
  exact ⟨rfl, hw⟩
theorem put5 {a w2 : World} {B g : Nat} (h : Below B a w2) (hb : B ≤ g) (u0 u1 u2 u3 u4 : Value) : Below B a (((((w2.setCell ⟨g, 0, none⟩ u0).setCell ⟨g, 1, none⟩ u1).setCell ⟨g, 2, none⟩ u2).setCell ⟨g, 3, none⟩ u3).setCell ⟨g, 4, none⟩ u4) :=
  ((((h.setCell (p := ⟨g, 0, none⟩) hb u0).setCell (p := ⟨g, 1, none⟩) hb u1).setCell (p := ⟨g, 2, none⟩) hb u2).setCell (p := ⟨g, 3, none⟩) hb u3).setCell (p := ⟨g, 4, none⟩) hb u4
set_option maxHeartbeats 4000000 in
theorem refTick_busy (w : World) (c : Ck) (n x d : Int) (g : Good c) (hn : U64 n) (hx : U64 x) (hd : U64 d) (h1 : ¬ 1000000000 < n) (h2 : ¬ c.task < 0) : Calls Try.prog 14 #[docV c, .int .u64 n, .int .u64 x, .int .u64 d] w (Fresh (.tuple #[docV { c with ran := top (c.ran + n), busy := top (c.busy + n) }, .bool (decide (slice c.lat x d ≤ top (c.ran + n))), .int .i64 0]) w) := by
  have M := Lib.hid (fun W => refMore c.ran n W g.ran hn)
  have M2 := Lib.hid (fun W => refMore c.busy n W g.busy hn)
  have SL := Lib.hid (fun W => refSlice W c.lat x d g.lat hx hd)
  obtain ⟨l, s, r, b, i⟩ := c
  simp only at h2 M M2 SL ⊢
  clear g hn
  unfold docV
  simp only
  generalize top (r + n) = q at *
  generalize top (b + n) = p at *
  generalize slice l x d = z at *
  go_enter Try.func14, Try.ntmps14
  go_wp2_with (go_at_call 27; (first | (with_reducible refine (M.out _).mono ?_) | (with_reducible refine (M2.out _).mono ?_)); rintro e w1 ⟨rfl, rfl⟩)
  have hw := (alloc1 w (.cells #[.int .u64 l, .int .i64 s, .int .u64 q, .int .u64 p, .int .u64 i] 30)).alloc (by simp) (.cells #[.int .u64 0, .int .i64 0, .int .u64 0, .int .u64 0, .int .u64 0] 30)
  have m1 := box_new (o' := .cells #[.int .u64 0, .int .i64 0, .int .u64 0, .int .u64 0, .int .u64 0] 30 (0, 0)) (heap_alloc_new w (.cells #[.int .u64 l, .int .i64 s, .int .u64 q, .int .u64 p, .int .u64 i] 30 (0, 0)))
  have m2 := heap_alloc_new (w.alloc (.cells #[.int .u64 l, .int .i64 s, .int .u64 q, .int .u64 p, .int .u64 i] 30)) (.cells #[.int .u64 0, .int .i64 0, .int .u64 0, .int .u64 0, .int .u64 0] 30 (0, 0))
  rw [show (w.alloc (.cells #[.int .u64 l, .int .i64 s, .int .u64 q, .int .u64 p, .int .u64 i] 30)).heap.size = w.heap.size + 1 by simp] at m2
  generalize ((w.alloc (.cells #[.int .u64 l, .int .i64 s, .int .u64 q, .int .u64 p, .int .u64 i] 30)).alloc (.cells #[.int .u64 0, .int .i64 0, .int .u64 0, .int .u64 0, .int .u64 0] 30)) = W at *
  have hz : w.heap.size ≤ W.heap.size := hw.size
  have KB := Lib.hid (fun W2 (hg : Below W.heap.size W W2) => (⟨five (box_fresh m1 hg), box_fresh m2 hg⟩ : _ ∧ _))
  obtain ⟨b0, b1, b2, b3, b4, bz⟩ := five m1
  clear m1 m2
  go_region_with (go_at_call 22; refine (SL.out _).mono ?_; rintro e w2 ⟨rfl, hg⟩; replace hg : Below W.heap.size W w2 := (by first | exact hg | exact ⟨hg.os, hg.tape, hg.output, hg.size, hg.block⟩); obtain ⟨⟨z0, z1, z2, z3, z4, zz⟩, mm⟩ := KB.out _ hg; obtain ⟨m0, m1, m2, m3, m4, mz⟩ := five mm; replace mm := Lib.hid mm)
  all_goals
    have hb := put5 (hw.trans (hg.mono hz)) (Nat.le_succ w.heap.size) (.int .u64 l) (.int .i64 s) (.int .u64 q) (.int .u64 p) (.int .u64 i)
    obtain ⟨y0, y1, y2, y3, y4, yz⟩ := five (set_block (set_block (set_block (set_block (set_block mm.out 0 (.int .u64 l)) 1 (.int .i64 s)) 2 (.int .u64 q)) 3 (.int .u64 p)) 4 (.int .u64 i))
    clear m0 m1 m2 m3 m4 mz z0 z1 z2 z3 z4 zz b0 b1 b2 b3 b4 bz
    go_wp2
    refine bodyPost_ret (v := .tuple #[.agg #[.int .u64 l, .int .i64 s, .int .u64 q, .int .u64 p, .int .u64 i], .bool (decide (z ≤ q)), .int .i64 0]) (by simp [results, Try.results14, go_sem, y0, y1, y2, y3, y4]) rfl ?_
    exact ⟨rfl, hb⟩
end Go.Proofs.Ytfbnnkmjnolnlaa.Turn
