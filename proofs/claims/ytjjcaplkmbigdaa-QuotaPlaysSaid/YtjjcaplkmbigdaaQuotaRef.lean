/- The document's band: There, Local, with. Conditions: as each fact states them. -/
import Derived.Test.YtjjcaplkmbigdaaQuotaLaws
namespace Go.Proofs.Ytjjcaplkmbigdaa.Quota
open Go.ChangeShapes Go.WideShapes Go.ChangeAt Go.RowKit Mem
open Fix (I64)
set_option linter.unusedVariables false
set_option linter.unusedSimpArgs false
set_option maxRecDepth 100000

/-- The document's band as a value, its local times in the block g. -/
def refB (d : Bd) (g c : Nat) : Value := .agg #[.int .i64 d.q, .int .i64 d.s, .int .i64 d.p, .int .i64 d.sp, .slice (some ⟨g, 0, none⟩) d.loc.length c]
def refO (d : Bd) (g c : Nat) : Obj := .cells #[.int .i64 d.q, .int .i64 d.s, .int .i64 d.p, .int .i64 d.sp, .slice (some ⟨g, 0, none⟩) d.loc.length c] 30 (0, 0)
def zeroO : Obj := .cells #[.int .i64 0, .int .i64 0, .int .i64 0, .int .i64 0, .slice none 0 0] 30 (0, 0)
def RefAt (B g c : Nat) (d : Bd) (w : World) : Prop := w.ownsRow B 2 1 (.slice (some ⟨g, 0, none⟩) d.loc.length c) d.loc.length (cL d.loc)
theorem RefAt.fresh {B g c : Nat} {d : Bd} {w w' : World} (h : RefAt B g c d w) (hg : Below w.heap.size w w') : RefAt B g c d w' := owns_fresh h hg
theorem RefAt.lower {B B' g c : Nat} {d : Bd} {w : World} (h : RefAt B g c d w) (hB : B' ≤ B) : RefAt B' g c d w := owns_lower h hB
theorem RefAt.ge {B g c : Nat} {d : Bd} {w : World} (h : RefAt B g c d w) : B ≤ g ∧ g < w.heap.size := h.lt g rfl
theorem RefAt.cell {B g c k : Nat} {d : Bd} {w : World} (h : RefAt B g c d w) (hk : k < d.loc.length) : w.cell? ⟨g, k, none⟩ = some (.int .i64 (d.at k)) := by
  obtain ⟨g', c', e, hc, _⟩ := row_cell h (cL_at hk)
  cases e
  exact hc
theorem cL_one (l : List Int) : ∀ y ∈ cL l, y.oneCell' = true := by intro y hy; obtain ⟨_, _, rfl⟩ := List.mem_map.1 hy; rfl

def IsB (b : Bool) (w : World) (e : Ending) (w' : World) : Prop := e = .returned (.bool b) ∧ Below w.heap.size w w'
def IsI (n : Int) (w : World) (e : Ending) (w' : World) : Prop := e = .returned (.int .i64 n) ∧ Below w.heap.size w w'

theorem set5_grown (w : World) (b : Nat) (x0 x1 x2 x3 x4 : Value) : w.grownBy (((((w.setCell ⟨b, 0, none⟩ x0).setCell ⟨b, 1, none⟩ x1).setCell ⟨b, 2, none⟩ x2).setCell ⟨b, 3, none⟩ x3).setCell ⟨b, 4, none⟩ x4) (some b) :=
  ((((one_grown _ _ _ _).trans (one_grown _ _ _ _)).trans (one_grown _ _ _ _)).trans (one_grown _ _ _ _)).trans (one_grown _ _ _ _)
theorem set5_block {w : World} {b : Nat} {a0 a1 a2 a3 a4 : Value} {t : TypeId} (h : w.heap[b]? = some (.cells #[a0, a1, a2, a3, a4] t (0, 0))) (x0 x1 x2 x3 x4 : Value) :
    (((((w.setCell ⟨b, 0, none⟩ x0).setCell ⟨b, 1, none⟩ x1).setCell ⟨b, 2, none⟩ x2).setCell ⟨b, 3, none⟩ x3).setCell ⟨b, 4, none⟩ x4).heap[b]? = some (.cells #[x0, x1, x2, x3, x4] t (0, 0)) := by
  rw [set_block (set_block (set_block (set_block (set_block h 0 x0) 1 x1) 2 x2) 3 x3) 4 x4]
  rfl

theorem there (w : World) (q s p sp : Int) (a : Option Addr) (n c : Nat) (i : Int) :
    Calls Try.prog 33 #[.agg #[.int .i64 q, .int .i64 s, .int .i64 p, .int .i64 sp, .slice a n c], .int .i64 i] w (IsB (decide (0 ≤ i) && decide (i < n)) w) := by
  have hg := alloc1 w (.cells #[.int .i64 q, .int .i64 s, .int .i64 p, .int .i64 sp, .slice a n c] 30)
  by_cases h : 0 ≤ i
  · have h1 : decide (0 ≤ i) = true := by simpa using h
    rw [h1]
    go_enter Try.func33, Try.ntmps33
    go_wp2
    go_ret; exact ⟨by simp, hg⟩
  · have h1 : decide (0 ≤ i) = false := by simpa using h
    rw [h1]
    go_enter Try.func33, Try.ntmps33
    go_wp2
    go_ret; exact ⟨by simp, hg⟩
theorem theres (w : World) (d : Bd) (g c : Nat) (i : Int) : Calls Try.prog 33 #[refB d g c, .int .i64 i] w (IsB (here d i) w) := there w _ _ _ _ _ _ _ i

theorem refLocal (w : World) (B g c : Nat) (d : Bd) (i : Int) (h : RefAt B g c d w) : Calls Try.prog 38 #[refB d g c, .int .i64 i] w (IsI (d.local i) w) := by
  have hg0 := alloc1 w (refO d g c)
  have hb0 := heap_alloc_new w (refO d g c)
  have T := Lib.hid (theres (w.alloc (refO d g c)) d g c i)
  unfold refB refO at *
  cases hh : here d i
  · rw [show d.local i = 0 by simp [Bd.local, hh]]
    rw [hh] at T
    go_enter Try.func38, Try.ntmps38
    go_wp2_with (go_at_call 33; refine T.out.mono ?_; rintro e w1 ⟨rfl, hg1⟩)
    go_ret; exact ⟨rfl, fresh_trans hg0 hg1⟩
  · rw [show d.local i = d.at i.toNat by simp [Bd.local, hh]]
    obtain ⟨k, rfl, hk⟩ := here_in hh
    rw [hh] at T
    have hk1 : (k : Int) < d.loc.length := by omega
    have HB := Lib.hid (fun w1 hg1 => five (box_fresh (w' := w1) hb0 hg1))
    have HR := Lib.hid (fun w1 hg1 => (h.fresh (fresh_trans hg0 (c := w1) hg1)).cell hk)
    simp only [Int.toNat_natCast]
    clear h hh hb0
    generalize d.loc.length = n at *
    generalize d.at k = x at *
    go_enter Try.func38, Try.ntmps38
    go_wp2_with (go_at_call 33; refine T.out.mono ?_; rintro e w1 ⟨rfl, hg1⟩; obtain ⟨a0, a1, a2, a3, a4, az⟩ := HB.out _ hg1; have ck := HR.out _ hg1)
    go_ret; exact ⟨rfl, fresh_trans hg0 hg1⟩

/-- The answer's band: its row is the old one, or in new memory. -/
def RefIs (mk : Value → Value) (d : Bd) (B g : Nat) (w : World) (e : Ending) (w' : World) : Prop := ∃ g' c', e = .returned (mk (refB d g' c')) ∧ RefAt B g' c' d w' ∧ (g' = g ∨ w.heap.size ≤ g') ∧ Below w.heap.size w w'

set_option maxHeartbeats 1000000 in
theorem withs (w : World) (B g c : Nat) (d : Bd) (k : Nat) (x : Int) (h : RefAt B g c d w) (hk : k < d.loc.length) (hn : d.loc.length ≤ 64) :
    Calls Try.prog 34 #[refB d g c, .int .i64 (k : Int), .int .i64 x] w (fun e w' => ∃ g' c', e = .returned (refB { d with loc := d.loc.set k x } g' c') ∧ RefAt w.heap.size g' c' { d with loc := d.loc.set k x } w' ∧ Below w.heap.size w w') := by
  obtain ⟨i0, hi, hz0, hz1, hz2⟩ := info_parts infoL
  have hk1 : (k : Int) < d.loc.length := by omega
  have hgA := (alloc1 w (refO d g c)).alloc (by simp) zeroO
  have hb0 : ((w.alloc (refO d g c)).alloc zeroO).heap[w.heap.size]? = some (refO d g c) := box_new (heap_alloc_new w _)
  have hr0 : ((w.alloc (refO d g c)).alloc zeroO).heap[w.heap.size + 1]? = some zeroO := by simpa using heap_alloc_new (w.alloc (refO d g c)) zeroO
  have hs0 : ((w.alloc (refO d g c)).alloc zeroO).heap.size = w.heap.size + 2 := by simp
  have r0 := h.fresh hgA
  have LN := Lib.hid (show ∀ g' c' w', w'.ownsRow w.heap.size 2 1 (.slice (some ⟨g', 0, none⟩) d.loc.length c') d.loc.length ((cL d.loc).set k (.int .i64 x)) → RefAt w.heap.size g' c' { d with loc := d.loc.set k x } w' from fun g' c' w' h1 => by unfold RefAt; simp only [List.length_set, cL_set]; exact h1)
  unfold refB refO zeroO at *
  simp only [List.length_set]
  clear h
  unfold RefAt at r0
  generalize hLL : cL d.loc = L at *
  have hL1 : ∀ y ∈ L, y.oneCell' = true := by rw [← hLL]; exact cL_one _
  clear hLL
  generalize hlen : d.loc.length = n at *
  go_enter Try.func34, Try.ntmps34
  go_upto_region 1 with fail
  generalize (w.alloc (.cells #[.int .i64 d.q, .int .i64 d.s, .int .i64 d.p, .int .i64 d.sp, .slice (some ⟨g, 0, none⟩) n c] 30)).alloc (.cells #[.int .i64 0, .int .i64 0, .int .i64 0, .int .i64 0, .slice none 0 0] 30) = W0 at *
  have hb0a := fun o => box_new (o' := o) hb0
  obtain ⟨a0, a1, a2, a3, a4, az⟩ := five (hb0a (.cells #[] 2))
  go_upto_region 2 with (at_builtin; refine wpList_append_copy _ rfl (.tmp 7) (.tmp 9) 28 rfl w.heap.size 2 i0 _ 1 8 Try.underlying28 hi hz0 hz1 hz2 rfl (by decide) (w.heap.size + 2) 0 0 [] rfl (made hs0 (by omega)) B _ _ _ rfl (r0.alloc _) hL1 (by simp only [maxLen]; omega) (by omega) (by simp; omega) (w.heap.size + 3) (by simp; omega) ?_; intro g1 c1 w1 own1 hgrow1 hat1; simp only [Nat.zero_add, List.nil_append] at own1; have hb1 := box_kept (hb0a _) hgrow1 (by first | (simp; done) | (simp; omega)); obtain ⟨b0, b1, b2, b3, b4, bz⟩ := five hb1)
  have hr1 := box_kept (box_new (o' := .cells #[] 2) hr0) hgrow1 (by first | (simp; done) | (simp; omega))
  have h1s := hgrow1.size
  simp only [World.size_alloc] at h1s
  have hg1 : Below w.heap.size w w1 := (hgA.alloc (by omega) (.cells #[] 2)).grown hgrow1 (by simp; omega) (by intro j hj; simp at hj; omega)
  have gne : g1 ≠ w.heap.size := fun e => own_ne own1 hb1 (by decide) (by rw [← e]; rfl)
  have gne2 : g1 ≠ w.heap.size + 1 := fun e => own_ne own1 hr1 (by decide) (by rw [← e]; rfl)
  have glt := (own1.lt g1 rfl)
  have hb2 := set_block hb1 4 (.slice (some ⟨g1, 0, none⟩) n c1)
  have hr2 := box_kept hr1 (one_grown w1 w.heap.size 4 (.slice (some ⟨g1, 0, none⟩) n c1)) (by first | (simp; done) | (simp; omega))
  have own2 := kept_own own1 (one_grown w1 w.heap.size 4 (.slice (some ⟨g1, 0, none⟩) n c1)) gne
  have hg2 := hg1.setCell (p := ⟨w.heap.size, 4, none⟩) (Nat.le_refl _) (.slice (some ⟨g1, 0, none⟩) n c1)
  simp only [List.setIfInBounds_toArray, List.set_cons_succ, List.set_cons_zero] at hb2
  clear hb1 hr1 own1 hg1 b0 b1 b2 b3 b4 bz a0 a1 a2 a3 a4 az hb0a hb0 hr0 hs0 r0 hgrow1 hat1 h1s
  generalize w1.setCell ⟨w.heap.size, 4, none⟩ (.slice (some ⟨g1, 0, none⟩) n c1) = W2 at *
  obtain ⟨a0, a1, a2, a3, a4, az⟩ := five hb2
  have hLl : k < L.length := by have := own2.1; omega
  obtain ⟨u, hu⟩ : ∃ u, L[k]? = some u := ⟨_, List.getElem?_eq_getElem hLl⟩
  have ck : W2.cell? ⟨g1, k, none⟩ = some u := by rw [own2.cellAt _ (by omega), hu]
  have fk := own2.frozenAt k
  have own3 := (own2.stored k (.int .i64 x)).1
  have hb3 := box_kept hb2 (one_grown W2 g1 k (.int .i64 x)) (by simpa using gne)
  have hr3 := box_kept hr2 (one_grown W2 g1 k (.int .i64 x)) (by simpa using gne2)
  have hg3 := hg2.setCell (p := ⟨g1, k, none⟩) glt.1 (.int .i64 x)
  go_upto_region 3 with fail
  clear a0 a1 a2 a3 a4 az hb2 hr2 own2 hg2 ck fk hu hLl
  generalize W2.setCell ⟨g1, k, none⟩ (.int .i64 x) = W3 at *
  obtain ⟨a0, a1, a2, a3, a4, az⟩ := five hb3
  obtain ⟨y0, y1, y2, y3, y4, yz⟩ := five hr3
  have hE := set5_grown W3 (w.heap.size + 1) (.int .i64 d.q) (.int .i64 d.s) (.int .i64 d.p) (.int .i64 d.sp) (.slice (some ⟨g1, 0, none⟩) n c1)
  have own4 := kept_own own3 hE gne2
  have hg4 := hg3.grown hE hg3.size (by intro j hj; simp at hj; omega)
  go_wp2
  refine bodyPost_ret (v := .agg #[.int .i64 d.q, .int .i64 d.s, .int .i64 d.p, .int .i64 d.sp, .slice (some ⟨g1, 0, none⟩) n c1]) (by simp [results, Try.results34, go_sem, y0, y1, y2, y3, y4]) rfl ?_
  exact ⟨g1, c1, rfl, LN.out _ _ _ own4, hg4⟩
end Go.Proofs.Ytjjcaplkmbigdaa.Quota
