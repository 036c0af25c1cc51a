/- What event.May tells of an event. Conditions: the listed variables hold what they are listed with. -/
import Derived.Test.YtikdhfedidknpaaDoorEventRead
import Derived.Deep.RegionWith
import Derived.Laws.StructEq
namespace Go.Proofs.YtikdhfedidknpaaDoor.Event
open Go.ChangeShapes Go.WideShapes Go.ChangeAt Go.RowKit
open Mem (box_fresh owns_fresh)
set_option linter.unusedVariables false
set_option linter.unusedSimpArgs false
set_option maxRecDepth 100000

def bareF (e : Ev) : Ev → List UInt8 → Ev
  | x, [] => x
  | x, f :: fs => bareF e (putF x f (getF e f)) fs
theorem may_bare (e : Ev) : may e = (decide (1 ≤ e.k ∧ e.k ≤ 15 ∧ 0 ≤ e.a ∧ 0 ≤ e.b) && decide (bareF e { Ev.zero with k := e.k } (formU e.k) = e)) := by
  obtain ⟨k, a, b, n, m, s⟩ := e
  have hb : ∀ (x y : Ev), decide (x = y) = (decide (x.k = y.k) && decide (x.a = y.a) && decide (x.b = y.b) && decide (x.n = y.n) && decide (x.m = y.m) && decide (x.s = y.s)) := by
    intro x y
    cases x; cases y
    simp only [Ev.mk.injEq, Bool.decide_and, Bool.and_assoc]
  have hr : (!(decide (k < 1) || decide (15 < k) || decide (a < 0) || decide (b < 0))) = decide (1 ≤ k ∧ k ≤ 15 ∧ 0 ≤ a ∧ 0 ≤ b) := by
    rw [Bool.eq_iff_iff]
    simp only [Bool.not_eq_true', Bool.or_eq_false_iff, decide_eq_false_iff_not, decide_eq_true_eq]
    omega
  unfold may
  simp only
  rw [hr, hb]
  simp only [Bool.and_assoc]
  congr 1
  have p : ∀ z : Int, decide (0 = z) = decide (z = 0) := fun z => decide_eq_decide.2 ⟨Eq.symm, Eq.symm⟩
  have q : ∀ z : Nat, decide (0 = z) = decide (z = 0) := fun z => decide_eq_decide.2 ⟨Eq.symm, Eq.symm⟩
  unfold formU
  rcases form_is k with h | h | h | h | h | h
  all_goals
    rw [h]
    simp [bareF, putF, getF, up, Ev.zero, p, q]
def MaI (e : Ev) (fs : List UInt8) (T : Ev) (eb bb ib : Nat) (w : World) (wr : World) : Prop :=
  ∃ (pos : Nat) (x : Ev), pos ≤ fs.length ∧ EvB wr eb e ∧ EvB wr bb x ∧ ItB wr ib (str fs) pos ∧ Below w.heap.size w wr ∧ Hid (bareF e x (fs.drop pos) = T)

theorem may_out (e : Ev) (h : ¬ (1 ≤ e.k ∧ e.k ≤ 15 ∧ 0 ≤ e.a ∧ 0 ≤ e.b)) (w : World) : Calls Tryd.prog 17 #[evV e] w (IsV (.bool false) w) := by
  have hg := Mem.alloc1 w (.cells (evC e) 33)
  obtain ⟨k, a, b, n, m, s⟩ := e
  unfold evV evC at *
  simp only at *
  by_cases h1 : k < 1
  · clear h
    go_enter Tryd.func17, Tryd.ntmps17
    go_wp2
    go_ret
    exact ⟨rfl, hg⟩
  by_cases h2 : 15 < k
  · clear h
    go_enter Tryd.func17, Tryd.ntmps17
    go_wp2
    go_ret
    exact ⟨rfl, hg⟩
  by_cases h3 : a < 0
  · clear h
    go_enter Tryd.func17, Tryd.ntmps17
    go_wp2
    go_ret
    exact ⟨rfl, hg⟩
  have h4 : b < 0 := by omega
  clear h
  go_enter Tryd.func17, Tryd.ntmps17
  go_wp2
  go_ret
  exact ⟨rfl, hg⟩
set_option maxHeartbeats 4000000 in
theorem may_in (e : Ev) (h : 1 ≤ e.k ∧ e.k ≤ 15 ∧ 0 ≤ e.a ∧ 0 ≤ e.b) (w : World) (hT : Tab w) : Calls Tryd.prog 17 #[evV e] w (IsV (.bool (decide (bareF e { Ev.zero with k := e.k } (formU e.k) = e))) w) := by
  have hg := Mem.alloc1 w (.cells (evC e) 33)
  have hE := new_ev w e
  obtain ⟨hfu, hlen⟩ := form_letters e.k
  have FF := Lib.hid (fun (w : World) (f : UInt8) (hf : Fu f) => field_ e f hf w)
  have F := Lib.hid (fun (w : World) (hT : Tab w) => fields_ e.k h.1 h.2.1 w hT)
  obtain ⟨T, hT0⟩ : ∃ T, T = bareF e { Ev.zero with k := e.k } (formU e.k) := ⟨_, rfl⟩
  rw [← hT0]
  have hTd := Lib.hid hT0
  clear hT0
  obtain ⟨k, a, b, n, m, s⟩ := e
  obtain ⟨R, hR⟩ : ∃ R, R = decide (T = (⟨k, a, b, n, m, s⟩ : Ev)) := ⟨_, rfl⟩
  rw [← hR]
  have hRd := Lib.hid hR
  clear hR
  simp only at *
  obtain ⟨h1, h2, h3, h4⟩ := h
  have n1 : ¬ k < 1 := by omega
  have n2 : ¬ 15 < k := by omega
  have n3 : ¬ a < 0 := by omega
  have n4 : ¬ b < 0 := by omega
  generalize hfs : formU k = fs at *
  have hfs' := Lib.hid hfs
  clear hfs
  unfold evV evC at *
  simp only at hg FF
  go_enter Tryd.func17, Tryd.ntmps17
  go_upto_region 4 with fail
  have hX := new_ev (w.alloc (.cells (evC ⟨k, a, b, n, m, s⟩) 33)) ⟨k, 0, 0, 0, 0, 0⟩
  have hE2 := EvB.fresh hE (Mem.alloc1 _ (.cells (evC ⟨k, 0, 0, 0, 0, 0⟩) 33))
  have hg2 := hg.alloc (show w.heap.size ≤ (w.alloc (.cells (evC ⟨k, a, b, n, m, s⟩) 33)).heap.size by simp) (.cells (evC ⟨k, 0, 0, 0, 0, 0⟩) 33)
  rw [show (w.alloc (.cells (evC ⟨k, a, b, n, m, s⟩) 33)).heap.size = w.heap.size + 1 by simp] at hX
  unfold evC at hX hE2 hg2
  simp only at hX hE2 hg2
  clear hE hg
  have hlt : w.heap.size < w.heap.size + 1 := by omega
  generalize w.heap.size + 1 = bb at *
  generalize (w.alloc _).alloc _ = W4 at *
  have hT4 := hT.fresh hg2
  have st : Hid (MaI ⟨k, a, b, n, m, s⟩ fs T w.heap.size bb W4.heap.size w (W4.iter (str fs) 0)) := by
    have hb : Below W4.heap.size W4 (W4.iter (str fs) 0) := (Below.refl _ W4).alloc (Nat.le_refl _) _
    refine Lib.hid ⟨0, _, Nat.zero_le _, hE2.fresh hb, hX.fresh hb, ?_, hg2.trans (hb.mono hg2.size), Lib.hid ?_⟩
    · show (W4.heap.push _)[W4.heap.size]? = _
      rw [Array.getElem?_push, if_pos rfl]
    · rw [hTd.out]; rfl
  have hei := hX.lt
  obtain ⟨x0, x1, x2, x3, x4, x5, xz⟩ := EvB.six hE2
  simp only at x0 x1 x2 x3 x4 x5
  obtain ⟨ib, hib⟩ : ∃ ib, ib = W4.heap.size := ⟨_, rfl⟩
  have hib' := Lib.hid hib
  clear hib
  go_wp2_with (go_at_call 26; refine (F.out _ hT4).mono ?_; rintro e w5 ⟨rfl, hw⟩; replace hw := hw.symm; subst hw)
  rw [← hib'.out] at st hei ⊢
  clear hib' hT4 hE2 hg2 hX x0 x1 x2 x3 x4 x5 xz F hT hTd hfs' n1 n2 n3 n4 h1 h2 h3 h4 hlen
  generalize W4.iter (str fs) 0 = W5 at *
  go_loopw [5] (fun _ wr => MaI ⟨k, a, b, n, m, s⟩ fs T w.heap.size bb ib w wr) (fun _ wr => (str fs).size - wr.iterPos ib)
  case atStart => exact st.out
  case round =>
    clear st
    obtain ⟨pos, ⟨xk, xa, xb, xn, xm, xs⟩, hp, hE, hX, hI, hg, hgo⟩ := hrel
    have mixed : Tryd.prog.follows Departure.mixedOrders = true := by kernel_rfl
    by_cases hlt' : pos < (str fs).size
    · obtain ⟨f, hf, hdec, hdrop⟩ := letter_at fs hfu pos hlt'
      have hnx : ∀ ty, (Instr.next (.pointer (some ⟨ib, 0, none⟩)) true ty).run Tryd.prog wr = _ := fun ty => Lib.run_next_any_at wr ib (str fs) pos ty hI hlt'
      rw [hdec] at hnx
      simp only at hnx
      have hX1 : EvB (wr.iterAt ib (str fs) (pos + 1)) bb ⟨xk, xa, xb, xn, xm, xs⟩ := by unfold EvB; rw [Lib.iterAt_other _ _ _ _ _ (by omega)]; exact hX
      have hE1 : EvB (wr.iterAt ib (str fs) (pos + 1)) w.heap.size ⟨k, a, b, n, m, s⟩ := by unfold EvB; rw [Lib.iterAt_other _ _ _ _ _ (by omega)]; exact hE
      have hI1 : ItB (wr.iterAt ib (str fs) (pos + 1)) ib (str fs) (pos + 1) := Lib.iterAt_heap _ _ _ _ _ hI
      have hg1 : Below w.heap.size w (wr.iterAt ib (str fs) (pos + 1)) := Lib.below_iterAt hg (by omega) _ _
      have hI0 := Lib.hid hI
      generalize wr.iterAt ib (str fs) (pos + 1) = W1 at *
      clear hX hE hI hg
      have hgo' := Lib.hid (show bareF ⟨k, a, b, n, m, s⟩ (putF ⟨xk, xa, xb, xn, xm, xs⟩ f (getF ⟨k, a, b, n, m, s⟩ f)) (fs.drop (pos + 1)) = T by
        have := hgo.out
        rw [hdrop] at this
        exact this)
      have hpl : pos + 1 ≤ fs.length := by rw [str_size] at hlt'; omega
      have FW := Lib.hid (fun (w : World) => FF.out w f hf)
      have hz : f = 83 → 0 ≤ getF ⟨k, a, b, n, m, s⟩ f := fun h => by subst h; simp [getF]
      have WW := Lib.hid (fun (w : World) => with_ ⟨xk, xa, xb, xn, xm, xs⟩ f hf (getF ⟨k, a, b, n, m, s⟩ f) hz w)
      unfold evV evC at WW
      simp only at WW
      generalize putF ⟨xk, xa, xb, xn, xm, xs⟩ f (getF ⟨k, a, b, n, m, s⟩ f) = e2 at *
      generalize fvOf f (getF ⟨k, a, b, n, m, s⟩ f) = FX at *
      clear hgo hdec hdrop hfu hz FF
      have FIN : Hid (∀ W, EvB W w.heap.size ⟨k, a, b, n, m, s⟩ → EvB W bb ⟨xk, xa, xb, xn, xm, xs⟩ → ItB W ib (str fs) (pos + 1) → Below w.heap.size w W → MaI ⟨k, a, b, n, m, s⟩ fs T w.heap.size bb ib w (put6 W bb e2) ∧ ItB (put6 W bb e2) ib (str fs) (pos + 1)) :=
        Lib.hid (fun W q1 q2 q3 q4 => ⟨⟨pos + 1, e2, hpl, put6_other q1 (by omega) e2, put6_block q2 e2, put6_other q3 (by omega) e2, put6_below q4 (by omega) e2, hgo'⟩, put6_other q3 (by omega) e2⟩)
      have hg := hg1
      have hE := hE1
      have hX := hX1
      have hI := hI1
      clear hg1 hX1 hE1 hI1
      go_upto_region 7 with fail
      obtain ⟨x0, x1, x2, x3, x4, x5, xz⟩ := EvB.six hX; simp only at x0 x1 x2 x3 x4 x5
      obtain ⟨y0, y1, y2, y3, y4, y5, yz⟩ := EvB.six hE; simp only at y0 y1 y2 y3 y4 y5
      have xd : ∀ j, W1.drew.frozen? ⟨bb, j, none⟩ = false := fun j => xz j
      have hg0 : Below w.heap.size w W1.drew := hg.trans ⟨rfl, rfl, rfl, Nat.le_refl _, fun _ _ => rfl⟩
      have hX0 : EvB W1.drew bb ⟨xk, xa, xb, xn, xm, xs⟩ := hX
      have hE0 : EvB W1.drew w.heap.size ⟨k, a, b, n, m, s⟩ := hE
      have hI00 : ItB W1.drew ib (str fs) (pos + 1) := hI
      clear hg hX hE hI
      go_region_with (first
        | (go_at_call 28; refine (FW.out _).mono ?_; rintro e w1 ⟨rfl, h1⟩; replace hX0 := EvB.fresh hX0 h1; replace hE0 := EvB.fresh hE0 h1; replace hI00 := ItB.fresh hI00 h1; replace hg0 := hg0.trans (h1.mono hg0.size); clear h1; obtain ⟨x0, x1, x2, x3, x4, x5, xz⟩ := EvB.six hX0; simp only at x0 x1 x2 x3 x4 x5)
        | (go_at_call 27; refine (WW.out _).mono ?_; rintro e w2 ⟨rfl, h1⟩; replace hX0 := EvB.fresh hX0 h1; replace hE0 := EvB.fresh hE0 h1; replace hI00 := ItB.fresh hI00 h1; replace hg0 := hg0.trans (h1.mono hg0.size); clear h1; obtain ⟨x0, x1, x2, x3, x4, x5, xz⟩ := EvB.six hX0; simp only at x0 x1 x2 x3 x4 x5))
      all_goals
        have FQ := FIN.out _ hE0 hX0 hI00 hg0
        go_wp2_with fail
        go_roundw
        case rel => exact FQ.1
        case measure =>
          have hI2 := FQ.2
          unfold put6 ItB at hI2
          simp only [World.iterPos, hI2]
          rw [show wr.heap[ib]? = some (.stringIter (str fs) pos) from hI0.out]
          simp only
          omega
    · have hnx : ∀ ty, (Instr.next (.pointer (some ⟨ib, 0, none⟩)) true ty).run Tryd.prog wr = _ := fun ty => Lib.run_next_end_at wr ib (str fs) pos ty hI hlt'
      have hge : Hid (T = ⟨xk, xa, xb, xn, xm, xs⟩) := Lib.hid (by
        have := hgo.out
        rw [List.drop_eq_nil_of_le (by rw [str_size] at hlt'; omega)] at this
        exact this.symm)
      obtain ⟨x0, x1, x2, x3, x4, x5, xz⟩ := EvB.six hX; simp only at x0 x1 x2 x3 x4 x5
      obtain ⟨y0, y1, y2, y3, y4, y5, yz⟩ := EvB.six hE; simp only at y0 y1 y2 y3 y4 y5
      have hg' := Lib.hid hg
      clear hgo hI hE hX hg hfu FF
      go_upto_region 8 with fail
      go_wp2_with fail
      all_goals
        go_ret
        refine ⟨?_, hg'.out⟩
        rw [hRd.out, hge.out]
        first
          | (rw [decide_eq_true (by simp only [Ev.mk.injEq]; omega)]; rfl)
          | (rw [decide_eq_false (by simp only [Ev.mk.injEq]; omega)]; rfl)
theorem may_ (e : Ev) (w : World) (hT : Tab w) : Calls Tryd.prog 17 #[evV e] w (IsV (.bool (may e)) w) := by
  rw [may_bare]
  by_cases h : 1 ≤ e.k ∧ e.k ≤ 15 ∧ 0 ≤ e.a ∧ 0 ≤ e.b
  · rw [decide_eq_true h, Bool.true_and]
    exact may_in e h w hT
  · rw [decide_eq_false h, Bool.false_and]
    exact may_out e h w
end Go.Proofs.YtikdhfedidknpaaDoor.Event
