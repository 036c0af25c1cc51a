/- What the listed table of package state holds, cell by cell, and that it goes on holding it whatever is laid anew. Conditions: the row's own, that the listed variable reads as listed. -/
import Derived.Test.YtmcfmkganljbmaaDoorRows
import Derived.WalkKit
import Derived.ProofKit
import Derived.OpenShut
import Derived.Below
import Derived.LaidMore
import Derived.Stop.Joined
import Derived.Lib.LaidTab
namespace Go.Proofs.YtmcfmkganljbmaaDoor.State
open Go.ChangeShapes Go.WideShapes Go.ChangeAt Go.RowKit
set_option linter.unusedVariables false
set_option linter.unusedSimpArgs false

def cellZ : List Int := [1, 7, 2, 2, 101, 3, 3, 8, 1, 3, 9, 2, 3, 10, 4, 3, 102, 2]
/-- The table's cells. -/
def Tab (w : World) : Prop := ∀ j, j < 18 → w.cell? ⟨0, j, none⟩ = some (.int .i64 (cellZ.getD j 0))

theorem Tab.fresh {w w' : World} (h : Tab w) (hb : Below w.heap.size w w') : Tab w' := fun j hj => by
  have h0 := h j hj
  rw [hb.cell (by simpa using World.block_lt_of_cell? _ _ h0)]
  exact h0

theorem gTab : Tryd.prog.globalNamed "dole/state.steps" = some 0 := by kernel_rfl
def laid1 : List (String × DataW Unit) := [("dole/state.steps", Rows.laid_dole_state_steps)]

theorem row3 {H : Type} {enc : TypeId × Value → H} {P : Program} {w : World} {base m : Nat} {sp : Nat → Bool} {held : Bool} {e : TypeId} {f0 f1 f2 : Field} {k : IntKind} {cs : List Value} {a b c : Int} {x : DataW H × List MemPlace}
    (he : P.underlying e = some (.struct #[f0, f1, f2])) (ho : (f0.offset, f1.offset, f2.offset) = (0, 1, 2)) (hc : (P.cellsOf f0.type, P.cellsOf f1.type, P.cellsOf f2.type) = (1, 1, 1)) (hC : P.cellsOf e = 3)
    (u0 : P.underlying f0.type = some (.int k)) (u1 : P.underlying f1.type = some (.int k)) (u2 : P.underlying f2.type = some (.int k))
    (h : DataW.trod enc P w base sp held m e cs = some x) (hx : x.1 = .agg [.lit (.int k a), .lit (.int k b), .lit (.int k c)]) : cs = [.int k a, .int k b, .int k c] := by
  obtain ⟨ys, n', _, hx', r3, r4, hfl⟩ := DataW.trod_struct he h
  rw [hC] at r3
  have hyl : ys.length = 3 := by simpa using r4
  simp only [Prod.mk.injEq] at ho hc
  obtain ⟨o0, o1, o2⟩ := ho
  obtain ⟨s0, s1, s2⟩ := hc
  match cs, r3 with
  | [c0, c1, c2], _ =>
    have x0 := hfl 0 f0 rfl
    have x1 := hfl 1 f1 rfl
    have x2 := hfl 2 f2 rfl
    rw [o0, s0] at x0
    rw [o1, s1] at x1
    rw [o2, s2] at x2
    simp only [List.drop_zero, List.drop_succ_cons, List.take_succ_cons, List.take_zero] at x0 x1 x2
    match ys, hyl with
    | [y0, y1, y2], _ =>
      simp only [List.getElem?_cons_zero, List.getElem?_cons_succ] at x0 x1 x2
      obtain ⟨d0, e0, z0, _⟩ := DataW.trod_int u0 x0
      obtain ⟨d1, e1, z1, _⟩ := DataW.trod_int u1 x1
      obtain ⟨d2, e2, z2, _⟩ := DataW.trod_int u2 x2
      subst z0 z1 z2 hx'
      simp at hx e0 e1 e2
      obtain ⟨rfl, rfl, rfl⟩ := hx
      rw [e0, e1, e2]

theorem tab_of_laid {W : World} (h : laidMetH Tryd.prog laid1 W) : Tab W := by
  rw [MakeChecks.laidMetH_plain _ _ _ (by kernel_rfl)] at h
  obtain ⟨ps, ⟨g0, t0, cs0, f0, p0, q0, hg0, ht0, hv0, hd0, _, _⟩, _, _⟩ := h
  obtain rfl := Option.some.inj (gTab.symm.trans hg0)
  obtain rfl := Option.some.inj ((show (Tryd.prog.globals[0]?).map (·.type) = some 34 by kernel_rfl).symm.trans ht0)
  obtain ⟨xs, m, _, hx, hl, hxl, hel⟩ := DataW.trod_array Tryd.underlying34 hd0
  have c33 : Tryd.prog.cellsOf 33 = 3 := by kernel_rfl
  have c34 : Tryd.prog.cellsOf 34 = 18 := by kernel_rfl
  rw [c34] at hl
  rw [c33] at hel
  have hc : ∀ j, W.cell? ⟨0, j, none⟩ = cs0[j]? := by
    intro j
    have := World.var?_cell hg0 hv0 j
    simpa using this
  have hx2 : xs.map (·.1) = [.agg [.lit (.int .i64 1), .lit (.int .i64 7), .lit (.int .i64 2)], .agg [.lit (.int .i64 2), .lit (.int .i64 101), .lit (.int .i64 3)], .agg [.lit (.int .i64 3), .lit (.int .i64 8), .lit (.int .i64 1)], .agg [.lit (.int .i64 3), .lit (.int .i64 9), .lit (.int .i64 2)], .agg [.lit (.int .i64 3), .lit (.int .i64 10), .lit (.int .i64 4)], .agg [.lit (.int .i64 3), .lit (.int .i64 102), .lit (.int .i64 2)]] := by
    have := congrArg Prod.fst hx
    simp only [Rows.laid_dole_state_steps, DataW.agg.injEq] at this
    exact this.symm
  match xs, hxl, hx2 with
  | [x0, x1, x2, x3, x4, x5], _, hx2 =>
    simp only [List.map_cons, List.map_nil, List.cons.injEq, and_true] at hx2
    obtain ⟨a0, a1, a2, a3, a4, a5⟩ := hx2
    have b0 := row3 Tryd.underlying33 (by kernel_rfl) (by kernel_rfl) c33 Tryd.underlying3 Tryd.underlying3 Tryd.underlying3 (hel 0 (by decide)) a0
    have b1 := row3 Tryd.underlying33 (by kernel_rfl) (by kernel_rfl) c33 Tryd.underlying3 Tryd.underlying3 Tryd.underlying3 (hel 1 (by decide)) a1
    have b2 := row3 Tryd.underlying33 (by kernel_rfl) (by kernel_rfl) c33 Tryd.underlying3 Tryd.underlying3 Tryd.underlying3 (hel 2 (by decide)) a2
    have b3 := row3 Tryd.underlying33 (by kernel_rfl) (by kernel_rfl) c33 Tryd.underlying3 Tryd.underlying3 Tryd.underlying3 (hel 3 (by decide)) a3
    have b4 := row3 Tryd.underlying33 (by kernel_rfl) (by kernel_rfl) c33 Tryd.underlying3 Tryd.underlying3 Tryd.underlying3 (hel 4 (by decide)) a4
    have b5 := row3 Tryd.underlying33 (by kernel_rfl) (by kernel_rfl) c33 Tryd.underlying3 Tryd.underlying3 Tryd.underlying3 (hel 5 (by decide)) a5
    obtain ⟨l⟩ := cs0
    simp only [List.getElem?_toArray] at hc
    simp only at hl b0 b1 b2 b3 b4 b5
    match l, hl with
    | [c0, c1, c2, c3, c4, c5, c6, c7, c8, c9, c10, c11, c12, c13, c14, c15, c16, c17], _ =>
      simp at b0 b1 b2 b3 b4 b5
      intro j hj
      rw [hc]
      obtain ⟨rfl, rfl, rfl⟩ := b0
      obtain ⟨rfl, rfl, rfl⟩ := b1
      obtain ⟨rfl, rfl, rfl⟩ := b2
      obtain ⟨rfl, rfl, rfl⟩ := b3
      obtain ⟨rfl, rfl, rfl⟩ := b4
      obtain ⟨rfl, rfl, rfl⟩ := b5
      match j, hj with
      | 0, _ | 1, _ | 2, _ | 3, _ | 4, _ | 5, _ | 6, _ | 7, _ | 8, _ | 9, _ | 10, _ | 11, _ | 12, _ | 13, _ | 14, _ | 15, _ | 16, _ | 17, _ => rfl
      | j + 18, hj => omega

/-- The door's own heap meets the condition. -/
theorem door_met (os : Os) (args : Array Value) : laidMetH Tryd.prog laid1 ((World.doorLaid Tryd.prog 20 os).forCall (fun _ _ => 0) ⟨#[], args, []⟩).memory :=
  laidMetH_of_parts3 (fuel := 8) (laidMet_of_run' 8 (by kernel_rfl) (by kernel_rfl)) (by kernel_rfl) (by kernel_rfl)
end Go.Proofs.YtmcfmkganljbmaaDoor.State
