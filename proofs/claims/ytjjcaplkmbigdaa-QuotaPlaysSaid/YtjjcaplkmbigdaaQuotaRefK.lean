/- The document's Refill; the law's own same. Conditions: as each fact states them. -/
import Derived.Test.YtjjcaplkmbigdaaQuotaRefF
import Derived.Test.YtjjcaplkmbigdaaQuotaRefG
namespace Go.Proofs.Ytjjcaplkmbigdaa.Quota
open Go.ChangeShapes Go.WideShapes Go.ChangeAt Go.RowKit Mem
open Fix (I64)
set_option linter.unusedVariables false
set_option linter.unusedSimpArgs false
set_option maxRecDepth 100000

theorem cutK_same {d : Bd} {k : Nat} (h : d.at k ≤ 0) : cutK d.loc (k + 1) = cutK d.loc k := by
  apply List.ext_getElem?
  intro j
  rw [cutK_get, cutK_get]
  by_cases h1 : j < k
  · rw [if_pos h1, if_pos (by omega)]
  · rw [if_neg h1]
    by_cases h2 : j = k
    · subst h2
      rw [if_pos (Nat.lt_succ_self j)]
      unfold Bd.at at h
      cases hj : d.loc[j]? with
      | none => rfl
      | some x =>
        rw [hj] at h
        simp only [Option.getD_some] at h
        simp only [Option.map_some]
        congr 1; omega
    · rw [if_neg (by omega)]
theorem cutK_zero {d : Bd} {k : Nat} (h : 0 < d.at k) : cutK d.loc (k + 1) = (cutK d.loc k).set k 0 := by
  rw [cutK]
  unfold Bd.at at h
  congr 1; omega

/-- Behind k of the rounds. -/
def RfI (w : World) (B g : Nat) (d : Bd) (left : Nat) (t : Value) (wr : World) : Prop :=
  ∃ k g' c' : Nat, k ≤ d.loc.length ∧ left = d.loc.length - k ∧ t = .int .i64 k ∧
    wr.heap[w.heap.size]? = some (.cells #[.int .i64 d.q, .int .i64 d.s, .int .i64 d.q, .int .i64 0, .slice (some ⟨g', 0, none⟩) d.loc.length c'] 30 (0, 0)) ∧
    wr.heap[w.heap.size + 1]? = some (.cells #[.int .i64 0, .int .i64 0, .int .i64 0, .int .i64 0, .slice none 0 0] 30 (0, 0)) ∧
    RefAt B g' c' { d with p := d.q, sp := 0, loc := cutK d.loc k } wr ∧ (g' = g ∨ w.heap.size ≤ g') ∧ Below w.heap.size w wr

set_option maxHeartbeats 1000000 in
theorem refRefill (w : World) (B g c : Nat) (d : Bd) (h : RefAt B g c d w) (hB : B ≤ w.heap.size) (hn : d.loc.length ≤ 64) :
    Calls Try.prog 22 #[refB d g c] w (RefIs (fun v => v) (refS d) B g w) := by
  obtain ⟨hbox, hres, hsz, hbw⟩ := Start.of w d g c
  have hgl := h.ge
  rw [show refS d = { d with p := d.q, sp := 0, loc := cutK d.loc d.loc.length } by rw [cutK_all]; rfl]
  have ROW : Hid (∀ W j1 j2 x1 x2, Below w.heap.size w W → RefAt B g c { d with p := d.q, sp := 0, loc := cutK d.loc 0 } ((W.setCell ⟨w.heap.size, j1, none⟩ x1).setCell ⟨w.heap.size, j2, none⟩ x2)) := fun W j1 j2 x1 x2 hg => kept_own (kept_own (h.fresh hg) (one_grown W w.heap.size j1 x1) (by omega)) (one_grown _ w.heap.size j2 x2) (by omega)
  have WI := Lib.hid (fun W k g' c' (hk : k < d.loc.length) (hR : RefAt B g' c' { d with p := d.q, sp := 0, loc := cutK d.loc k } W) => withs W B g' c' { d with p := d.q, sp := 0, loc := cutK d.loc k } k 0 hR (by simpa [cutK_len] using hk) (by simpa [cutK_len] using hn))
  unfold RefIs
  unfold refB refO zeroO at *
  simp only [List.length_set, cutK_len] at WI ⊢
  clear h
  go_enter Try.func22, Try.ntmps22
  go_upto_region 1 with fail
  generalize (w.alloc _).alloc _ = W0 at *
  obtain ⟨b0, b1, b2, b3, b4, bz⟩ := five hbox
  have hb1 := set_block (set_block hbox 3 (.int .i64 0)) 2 (.int .i64 d.q)
  simp only [List.setIfInBounds_toArray, List.set_cons_succ, List.set_cons_zero] at hb1
  have hr1 := box_kept (box_kept hres (one_grown W0 w.heap.size 3 (.int .i64 0)) (by simp)) (one_grown (W0.setCell ⟨w.heap.size, 3, none⟩ (.int .i64 0)) w.heap.size 2 (.int .i64 d.q)) (by simp)
  have hR1 := ROW.out W0 3 2 (.int .i64 0) (.int .i64 d.q) hbw
  have hg1 := (hbw.setCell (p := ⟨w.heap.size, 3, none⟩) (Nat.le_refl _) (.int .i64 0)).setCell (p := ⟨w.heap.size, 2, none⟩) (Nat.le_refl _) (.int .i64 d.q)
  go_upto_region 3 with fail
  clear b0 b1 b2 b3 b4 bz hbox hres hbw ROW
  generalize (W0.setCell ⟨w.heap.size, 3, none⟩ (.int .i64 0)).setCell ⟨w.heap.size, 2, none⟩ (.int .i64 d.q) = W1 at *
  have I0 : RfI w B g d d.loc.length (.int .i64 0) W1 := ⟨0, g, c, by omega, rfl, rfl, hb1, hr1, hR1, .inl rfl, hg1⟩
  replace I0 := Lib.hid I0
  clear hb1 hr1 hR1 hg1
  go_wp2_with fail
  go_loopg [3] d.loc.length (fun left t wr => RfI w B g d left t wr)
  case atStart => exact I0.out
  case round =>
    clear I0
    obtain ⟨k, g', c', hk, rfl, rfl, hb, hr, hR, hgg, hbw⟩ := hrel
    obtain ⟨b0, b1, b2, b3, b4, bz⟩ := five hb
    have hrl := lt_of hr
    by_cases hlt : k < d.loc.length
    · have h3 : (k : Int) < d.loc.length := by omega
      have ck : wr.cell? ⟨g', k, none⟩ = some (.int .i64 (d.at k)) := by
        have := hR.cell (k := k) (by simpa [cutK_len] using hlt)
        rwa [show Bd.at { d with p := d.q, sp := 0, loc := cutK d.loc k } k = d.at k from cutK_here d k] at this
      by_cases hx : 0 < d.at k
      · have WJ := Lib.hid (WI.out wr k g' c' hlt hR)
        rw [← cutK_zero hx] at WJ
        have hgne : g' ≠ w.heap.size + 1 ∧ g' ≠ w.heap.size := by
          refine ⟨fun e => own_ne hR hr (by decide) (by rw [← e]; rfl), fun e => own_ne hR hb (by decide) (by rw [← e]; rfl)⟩
        have NX : Hid (∀ w2 g2 c2, RefAt wr.heap.size g2 c2 { d with p := d.q, sp := 0, loc := cutK d.loc (k + 1) } w2 → Below wr.heap.size wr w2 → RfI w B g d (d.loc.length - (k + 1)) (.int .i64 ((k : Int) + 1)) (((((w2.setCell ⟨w.heap.size, 0, none⟩ (.int .i64 d.q)).setCell ⟨w.heap.size, 1, none⟩ (.int .i64 d.s)).setCell ⟨w.heap.size, 2, none⟩ (.int .i64 d.q)).setCell ⟨w.heap.size, 3, none⟩ (.int .i64 0)).setCell ⟨w.heap.size, 4, none⟩ (.slice (some ⟨g2, 0, none⟩) d.loc.length c2))) := fun w2 g2 c2 hR2 hg2 => by
          have hgl2 := hR2.ge
          have hwz := hbw.size
          refine ⟨k + 1, g2, c2, by omega, rfl, by go_num, set5_block (box_fresh hb hg2) _ _ _ _ _, box_kept (box_fresh hr hg2) (set5_grown _ _ _ _ _ _ _) (by simp), (hR2.lower (by omega)).box (by omega) _ _ _ _ _, .inr (by omega), below_set5 (hbw.trans (hg2.mono hwz)) (Nat.le_refl _) _ _ _ _ _⟩
        have HB := Lib.hid (fun w2 hg2 => five (box_fresh (w' := w2) hb hg2))
        clear WI hR hb hr hgg hbw
        generalize d.at k = x at *
        go_wp2_with (go_at_call 34; refine WJ.out.mono ?_; rintro e w2 ⟨g2, c2, rfl, hR2, hg2⟩; clear b0 b1 b2 b3 b4 bz; obtain ⟨b0, b1, b2, b3, b4, bz⟩ := HB.out _ hg2)
        go_roundg (d.loc.length - (k + 1))
        case measure => omega
        case rel => exact NX.out _ _ _ hR2 hg2
      · have NX := Lib.hid (show RfI w B g d (d.loc.length - (k + 1)) (.int .i64 ((k : Int) + 1)) wr from ⟨k + 1, g', c', by omega, rfl, by go_num, hb, hr, by rw [cutK_same (by omega)]; exact hR, hgg, hbw⟩)
        clear WI hR hb hr hgg hbw
        generalize d.at k = x at *
        go_wp2_with fail
        go_roundg (d.loc.length - (k + 1))
        case measure => omega
        case rel => exact NX.out
    · obtain rfl : k = d.loc.length := by omega
      have h3 : ¬ (d.loc.length : Int) < d.loc.length := by omega
      obtain ⟨y0, y1, y2, y3, y4, yz⟩ := five hr
      have hgne : g' ≠ w.heap.size + 1 := fun e => own_ne hR hr (by decide) (by rw [← e]; rfl)
      have f1 := hR.box (b := w.heap.size + 1) hgne (.int .i64 d.q) (.int .i64 d.s) (.int .i64 d.q) (.int .i64 0) (.slice (some ⟨g', 0, none⟩) d.loc.length c')
      have f2 := below_set5 (b := w.heap.size + 1) hbw (by omega) (.int .i64 d.q) (.int .i64 d.s) (.int .i64 d.q) (.int .i64 0) (.slice (some ⟨g', 0, none⟩) d.loc.length c')
      have F1 := Lib.hid f1
      have F2 := Lib.hid f2
      clear WI f1 f2 hR
      go_wp2_with fail
      refine bodyPost_ret (v := .agg #[.int .i64 d.q, .int .i64 d.s, .int .i64 d.q, .int .i64 0, .slice (some ⟨g', 0, none⟩) d.loc.length c']) (by simp [results, Try.results22, go_sem, y0, y1, y2, y3, y4]) rfl ?_
      exact ⟨g', c', rfl, F1.out, hgg, F2.out⟩
end Go.Proofs.Ytjjcaplkmbigdaa.Quota
