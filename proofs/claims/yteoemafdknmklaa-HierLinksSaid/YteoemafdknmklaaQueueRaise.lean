/- What raise of package runq does, as a deferred call. Conditions: none. -/
import Derived.Test.YteoemafdknmklaaQueueTake
import Derived.Test.YteoemafdknmklaaRenormSome
import Derived.Defers
namespace Go.Proofs.Yteoemafdknmklaa.Queue
open Go.ChangeShapes Go.WideShapes Go.ChangeAt Go.RowKit Tree
set_option linter.unusedVariables false
set_option linter.unusedSimpArgs false
set_option maxRecDepth 100000

/-- The least vruntime made higher by the first one's. -/
def rise (st : St) : St := match st.es with
  | [] => st
  | e :: _ => { st with min := max st.min e.v }
theorem higher1 (a v : Int) (w : World) (g : Nat) (hg : g < w.heap.size) (hc : w.cell? ⟨g, 0, none⟩ = some (.int .i64 v)) : Calls Try.prog 66 #[.int .i64 a, .slice (some ⟨g, 0, none⟩) 1 1] w (Still (.int .i64 (max a v)) w) := by
  have hl : Renorm.Lies (some ⟨g, 0, none⟩) 1 (fun _ => v) w := by
    intro j hj
    obtain rfl : j = 0 := by omega
    exact ⟨g, 0, rfl, hg, hc⟩
  have := Renorm.highers a (some ⟨g, 0, none⟩) 1 1 (fun _ => v) w (by omega) hl
  refine this.mono ?_
  rintro e w' ⟨rfl, rfl⟩
  exact ⟨by rw [Renorm.hi_some]; rfl, rfl⟩
def Rose (st : St) (q : Nat) (O : Nat → Prop) (u : FrameMode) (w : World) (e : Ending) (u' : FrameMode) (w' : World) : Prop := u' = u ∧ (e = .returned (.tuple #[]) ∧ Qu w' q O (rise st) ∧ Same O w w')
theorem Ql.setMin {w w' : World} {q m t : Nat} {O : Nat → Prop} {T : Tr} {st : St} (h : Ql w q m t O T st) (hg : Below w.heap.size w w') (x : Int) : Ql (w'.setCell ⟨q, 3, none⟩ (.int .i64 x)) q m t O T { st with min := x } := by
  have h' := h.fresh hg
  refine ⟨h'.blk.setMin x, h'.map.on (Below.heap_setCell _ _ _ _ (fun e => h.qm e.symm)), kept_on h'.kept fun b hb => Below.heap_setCell _ _ _ _ (fun e => h.kept.apart b hb (.inr (.inl e))), h.keys, h.oq, h.om, h.qm⟩
theorem raises (w : World) (q : Nat) (O : Nat → Prop) (st : St) (u : FrameMode) (h : Qu w q O st) (hO : ∀ k, O k → k < w.heap.size) :
    CallsD Try.prog 46 #[.pointer (some ⟨q, 0, none⟩)] u w (Rose st q O u w) := by
  obtain ⟨m, t, T, h⟩ := h
  have M := Lib.hid (fun w' (g : Below w.heap.size w w') => mins w' t T (h.fresh g).kept.top)
  rw [h.keys] at M
  obtain ⟨c0, c1, c2, c3, c4, fz⟩ := h.blk.cells
  have hq := h.blk.lt
  have hg := Below.refl w.heap.size w
  unfold Rose
  obtain ⟨es, cur, mn, fl⟩ := st
  cases es with
  | nil =>
    simp only [rise, List.map_nil, List.head?_nil, keyV] at *
    have H := Lib.hid (fun w' (g : Below w.heap.size w w') => (show Qu w' q O ⟨[], cur, mn, fl⟩ from ⟨m, t, T, h.fresh g⟩))
    clear h
    go_enter_d Try.func46, Try.ntmps46
    go_wp2_with (go_at_call 65; refine (M.out _ hg).mono ?_; rintro e w1 ⟨rfl, hg1⟩)
    go_end0
    have hs := hg1.size
    exact ⟨rfl, H.out _ (by go_grown), Same.of (by go_grown) hO⟩
  | cons e l =>
    simp only [rise, List.map_cons, List.head?_cons, keyV, Ent.key] at *
    have H := Lib.hid (fun w' (g : Below w.heap.size w w') x => (show Qu (w'.setCell ⟨q, 3, none⟩ (.int .i64 x)) q O ⟨e :: l, cur, x, fl⟩ from ⟨m, t, T, h.setMin g x⟩))
    have ho := h.oq
    clear h
    generalize e.v = ev at *
    generalize e.id = ei at *
    have HI := Lib.hid (fun w g hg hc => higher1 mn ev w g hg hc)
    generalize max mn ev = mx at *
    go_enter_d Try.func46, Try.ntmps46
    go_wp2_with (go_at_call 65; refine (M.out _ hg).mono ?_; rintro e w1 ⟨rfl, hg1⟩)
    have hs := hg1.size
    have x3 := (hg1.cell (p := ⟨q, 3, none⟩) hq).trans c3
    have xf : ∀ j, w1.frozen? ⟨q, j, none⟩ = false := fun j => (hg1.frozen (p := ⟨q, j, none⟩) hq).trans (fz j)
    have hgW : Below w.heap.size w (w1.alloc (.cells #[.int .i64 ev, .int .i64 ei] 89)) := fresh_trans hg1 ((Below.refl _ w1).alloc (Nat.le_refl _) _)
    obtain ⟨n0, n1, nz, nn⟩ := new_two (Below.refl _ (w1.alloc (.cells #[.int .i64 ev, .int .i64 ei] 89)))
    have y3 := (hgW.cell (p := ⟨q, 3, none⟩) hq).trans c3
    have yf : ∀ j, (w1.alloc (.cells #[.int .i64 ev, .int .i64 ei] 89)).frozen? ⟨q, j, none⟩ = false := fun j => (hgW.frozen (p := ⟨q, j, none⟩) hq).trans (fz j)
    have hl := lt_of nn
    have hqW : q < (w1.alloc (.cells #[.int .i64 ev, .int .i64 ei] 89)).heap.size := by omega
    clear x3 xf nn nz n1 M c0 c1 c2 c3 c4 fz
    generalize w1.alloc (.cells #[.int .i64 ev, .int .i64 ei] 89) = W at *
    generalize w1.heap.size = s1 at *
    have hqne : ¬ q = W.heap.size := by omega
    go_region_with (go_at_call 66; refine (HI.out _ _ (by simp) (by go_simp)).mono ?_; rintro e' w2 ⟨rfl, rfl⟩)
    all_goals
      go_wp2_with fail
      go_end0
      have hf : Below (W.setCell ⟨q, 3, none⟩ (.int .i64 mx)).heap.size (W.setCell ⟨q, 3, none⟩ (.int .i64 mx)) ((W.setCell ⟨q, 3, none⟩ (.int .i64 mx)).alloc (.cells #[.int .i64 ev] 2)).drew := ((Below.refl _ _).alloc (Nat.le_refl _) _).drew
      exact ⟨rfl, (H.out W hgW mx).fresh hf, ((Same.of hgW hO).trans (Same.setCell (p := ⟨q, 3, none⟩) ho _)).trans (Same.of hf (fun k hk => by have := hO k hk; have := hgW.size; simp [World.setCell]; omega))⟩
end Go.Proofs.Yteoemafdknmklaa.Queue
