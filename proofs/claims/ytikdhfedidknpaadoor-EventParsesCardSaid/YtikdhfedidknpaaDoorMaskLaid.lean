/- What the listed variables hold, cell by cell, and that they go on holding it whatever is laid anew. Conditions: the row's own, that the listed variables read as listed. -/
import Derived.Test.YtikdhfedidknpaaDoorRows
import Derived.WalkKit
import Derived.ProofKit
import Derived.OpenShut
import Derived.Below
import Derived.LaidMore
import Derived.Stop.Joined
import Derived.Stop.LaidErr
import Derived.Lib.LaidTab
import Derived.Lib.TrailingZeros
import Derived.Lib.ItoaNum
namespace Go.Proofs.YtikdhfedidknpaaDoor.Mask
open Go.ChangeShapes Go.WideShapes Go.ChangeAt Go.RowKit
set_option linter.unusedVariables false
set_option linter.unusedSimpArgs false

def tabZ : List Int := Lib.deBruijn64tab.map Int.ofNat

/-- The table's cells. -/
def Tab (w : World) : Prop := ∀ j, j < 64 → w.cell? ⟨2, j, none⟩ = some (.int .u8 (tabZ.getD j 0))

theorem Tab.fresh {w w' : World} (h : Tab w) (hb : Below w.heap.size w w') : Tab w' := fun j hj => by
  have h0 := h j hj
  rw [hb.cell (by simpa using World.block_lt_of_cell? _ _ h0)]
  exact h0

theorem gTab : Tryd.prog.globalNamed "math/bits.deBruijn64tab" = some 2 := by kernel_rfl
end Go.Proofs.YtikdhfedidknpaaDoor.Mask
namespace Go.Proofs.YtikdhfedidknpaaDoor.Event
open Go.ChangeShapes Go.WideShapes Go.ChangeAt Go.RowKit
set_option linter.unusedVariables false
set_option linter.unusedSimpArgs false

def laid6 : List (String × DataW Unit) := [("math/bits.deBruijn32tab", Rows.laid_math_bits_deBruijn32tab), ("math/bits.deBruijn64tab", Rows.laid_math_bits_deBruijn64tab), ("internal/strconv.uint64pow10", Rows.laid_internal_strconv_uint64pow10), ("strconv.ErrRange", Rows.laid_strconv_ErrRange), ("strconv.ErrSyntax", Rows.laid_strconv_ErrSyntax), ("dole/event.kinds", Rows.laid_dole_event_kinds)]
/-- The kinds' words and fields, one behind the other. -/
def kindL : List (List UInt8) := [[103, 114, 111, 117, 112], [65, 78], [100, 114, 111, 112], [65], [109, 111, 118, 101], [65, 66], [115, 104, 97, 114, 101, 115], [65, 78], [113, 117, 111, 116, 97], [65, 78, 77], [115, 112, 97, 119, 110], [65, 78, 83], [119, 97, 107, 101], [65], [98, 108, 111, 99, 107], [65], [121, 105, 101, 108, 100], [65], [101, 120, 105, 116], [65], [116, 105, 99, 107], [65, 78], [114, 101, 102, 105, 108, 108], [65], [112, 117, 108, 108], [65], [110, 105, 99, 101], [65, 78], [109, 97, 115, 107], [65, 83]]
def kindS (j : Nat) : ByteArray := ⟨(kindL.getD j []).toArray⟩
/-- What all the listed variables hold, as far as anything reads them. -/
structure Tab (w : World) : Prop where
  tz : Mask.Tab w
  pow : Lib.TabIs Tryd.prog w "internal/strconv.uint64pow10" .u64 Lib.pow10Tab
  es : ∃ tp p, w.var? Tryd.prog "strconv.ErrSyntax" = some #[.iface tp p]
  er : ∃ tp p, w.var? Tryd.prog "strconv.ErrRange" = some #[.iface tp p]
  kinds : ∀ j, j < 30 → w.cell? ⟨0, j, none⟩ = some (.string (kindS j))
theorem var_below {P : Program} {w w' : World} {n : String} {cs : Array Value} (h : w.var? P n = some cs) (hb : Below w.heap.size w w') : w'.var? P n = some cs := by
  unfold World.var? at h ⊢
  cases hg : P.globalNamed n with
  | none => simp [hg] at h
  | some g =>
    simp only [hg, Option.bind_some] at h ⊢
    have hlt : g < w.heap.size := by
      rcases Nat.lt_or_ge g w.heap.size with h' | h'
      · exact h'
      · simp [Array.getElem?_eq_none h'] at h
    rw [hb.block g hlt]
    exact h
theorem Tab.fresh {w w' : World} (h : Tab w) (hb : Below w.heap.size w w') : Tab w' where
  tz := h.tz.fresh hb
  pow := var_below h.pow hb
  es := by obtain ⟨tp, p, h⟩ := h.es; exact ⟨tp, p, var_below h hb⟩
  er := by obtain ⟨tp, p, h⟩ := h.er; exact ⟨tp, p, var_below h hb⟩
  kinds := fun j hj => by
    have h0 := h.kinds j hj
    rw [hb.cell (by simpa using World.block_lt_of_cell? _ _ h0)]
    exact h0
theorem row2 {H : Type} {enc : TypeId × Value → H} {P : Program} {w : World} {base m : Nat} {sp : Nat → Bool} {held : Bool} {e : TypeId} {f0 f1 : Field} {cs : List Value} {a b : List UInt8} {x : DataW H × List MemPlace}
    (he : P.underlying e = some (.struct #[f0, f1])) (ho : (f0.offset, f1.offset) = (0, 1)) (hc : (P.cellsOf f0.type, P.cellsOf f1.type) = (1, 1)) (hC : P.cellsOf e = 2)
    (u0 : P.underlying f0.type = some .string) (u1 : P.underlying f1.type = some .string)
    (h : DataW.trod enc P w base sp held m e cs = some x) (hx : x.1 = .agg [.lit (.string a), .lit (.string b)]) : cs = [.string ⟨a.toArray⟩, .string ⟨b.toArray⟩] := by
  obtain ⟨ys, n', _, hx', r3, r4, hfl⟩ := DataW.trod_struct he h
  rw [hC] at r3
  have hyl : ys.length = 2 := by simpa using r4
  simp only [Prod.mk.injEq] at ho hc
  obtain ⟨o0, o1⟩ := ho
  obtain ⟨s0, s1⟩ := hc
  match cs, r3 with
  | [c0, c1], _ =>
    have x0 := hfl 0 f0 rfl
    have x1 := hfl 1 f1 rfl
    rw [o0, s0] at x0
    rw [o1, s1] at x1
    simp only [List.drop_zero, List.drop_succ_cons, List.take_succ_cons, List.take_zero] at x0 x1
    match ys, hyl with
    | [y0, y1], _ =>
      simp only [List.getElem?_cons_zero, List.getElem?_cons_succ] at x0 x1
      obtain ⟨d0, e0, z0, _⟩ := DataW.trod_string u0 x0
      obtain ⟨d1, e1, z1, _⟩ := DataW.trod_string u1 x1
      subst z0 z1 hx'
      simp at hx e0 e1
      obtain ⟨rfl, rfl⟩ := hx
      rw [e0, e1]
theorem cells_of_rows {W : World} {cs0 : Array Value} {g n : Nat} (hc : ∀ j, W.cell? ⟨g, j, none⟩ = cs0[j]?) (hr : ∀ i, i < n → (cs0.toList.drop (2 * i)).take 2 = [.string (kindS (2 * i)), .string (kindS (2 * i + 1))]) :
    ∀ j, j < 2 * n → W.cell? ⟨g, j, none⟩ = some (.string (kindS j)) := by
  intro j hj
  rw [hc, ← Array.getElem?_toList]
  have h := hr (j / 2) (by omega)
  rcases Nat.mod_two_eq_zero_or_one j with h2 | h2
  · have e : j = 2 * (j / 2) := by omega
    have h3 := congrArg (·[0]?) h
    simp only [List.getElem?_take, List.getElem?_drop] at h3
    rw [e]
    simpa using h3
  · have e : j = 2 * (j / 2) + 1 := by omega
    have h3 := congrArg (·[1]?) h
    simp only [List.getElem?_take, List.getElem?_drop] at h3
    rw [e]
    simpa using h3
set_option maxRecDepth 100000 in
theorem tab_of_laid {W : World} (h : laidMetH Tryd.prog laid6 W) : Tab W := by
  rw [MakeChecks.laidMetH_plain _ _ _ (by kernel_rfl)] at h
  obtain ⟨ps, ⟨g0, t0, cs0, f0, p0, q0, hg0, ht0, hv0, hd0, ⟨g1, t1, cs1, f1, p1, q1, hg1, ht1, hv1, hd1, ⟨g2, t2, cs2, f2, p2, q2, hg2, ht2, hv2, hd2, ⟨g3, t3, cs3, f3, p3, q3, hg3, ht3, hv3, hd3, ⟨g4, t4, cs4, f4, p4, q4, hg4, ht4, hv4, hd4, ⟨g5, t5, cs5, f5, p5, q5, hg5, ht5, hv5, hd5, _, _⟩, _⟩, _⟩, _⟩, _⟩, _⟩, _, _⟩ := h
  refine ⟨?_, ?_, ?_, ?_, ?_⟩
  · obtain ⟨t, e, n, hty, ht, he, hce, hct⟩ : ∃ t e n, (Tryd.prog.globals[2]?).map (·.type) = some t ∧ Tryd.prog.underlying t = some (.array n e) ∧ Tryd.prog.underlying e = some (.int .u8) ∧ Tryd.prog.cellsOf e = 1 ∧ Tryd.prog.cellsOf t = n := ⟨109, 5, 64, by kernel_rfl, by kernel_rfl, by kernel_rfl, by kernel_rfl, by kernel_rfl⟩
    obtain rfl := Option.some.inj (Mask.gTab.symm.trans hg1)
    obtain rfl := Option.some.inj (hty.symm.trans ht1)
    have hD : (Rows.laid_math_bits_deBruijn64tab : DataW Unit) = Lib.tabData .u8 Mask.tabZ := by kernel_rfl
    rw [hD] at hd1
    have hT : Lib.TabIs Tryd.prog W "math/bits.deBruijn64tab" .u8 Mask.tabZ := by
      unfold Lib.TabIs
      rw [hv1, ← Lib.cells_of_tab ht he hce hct hd1]
    intro j hj
    exact hT.cell Mask.gTab j (show j < 64 from hj)
  · obtain ⟨t, e, n, hty, ht, he, hce, hct⟩ : ∃ t e n, (Tryd.prog.globals[3]?).map (·.type) = some t ∧ Tryd.prog.underlying t = some (.array n e) ∧ Tryd.prog.underlying e = some (.int .u64) ∧ Tryd.prog.cellsOf e = 1 ∧ Tryd.prog.cellsOf t = n := ⟨120, 31, 20, by kernel_rfl, by kernel_rfl, by kernel_rfl, by kernel_rfl, by kernel_rfl⟩
    obtain rfl := Option.some.inj ((show Tryd.prog.globalNamed "internal/strconv.uint64pow10" = some 3 by kernel_rfl).symm.trans hg2)
    obtain rfl := Option.some.inj (hty.symm.trans ht2)
    have hD : (Rows.laid_internal_strconv_uint64pow10 : DataW Unit) = Lib.tabData .u64 Lib.pow10Tab := by kernel_rfl
    rw [hD] at hd2
    unfold Lib.TabIs
    rw [hv2, ← Lib.cells_of_tab ht he hce hct hd2]
  · obtain ⟨t, ms, hty, hi⟩ : ∃ t ms, (Tryd.prog.globals[4]?).map (·.type) = some t ∧ Tryd.prog.underlying t = some (.interface ms) := ⟨83, _, by kernel_rfl, Tryd.underlying83⟩
    obtain rfl := Option.some.inj ((show Tryd.prog.globalNamed "strconv.ErrSyntax" = some 4 by kernel_rfl).symm.trans hg4)
    obtain rfl := Option.some.inj (hty.symm.trans ht4)
    obtain ⟨_, u, v, e, _, _⟩ := iface_of_trod hi hd4
    refine ⟨u, v, ?_⟩
    rw [hv4, ← e]
  · obtain ⟨t, ms, hty, hi⟩ : ∃ t ms, (Tryd.prog.globals[5]?).map (·.type) = some t ∧ Tryd.prog.underlying t = some (.interface ms) := ⟨83, _, by kernel_rfl, Tryd.underlying83⟩
    obtain rfl := Option.some.inj ((show Tryd.prog.globalNamed "strconv.ErrRange" = some 5 by kernel_rfl).symm.trans hg3)
    obtain rfl := Option.some.inj (hty.symm.trans ht3)
    obtain ⟨_, u, v, e, _, _⟩ := iface_of_trod hi hd3
    refine ⟨u, v, ?_⟩
    rw [hv3, ← e]
  · have gK : Tryd.prog.globalNamed "dole/event.kinds" = some 0 := by kernel_rfl
    obtain rfl := Option.some.inj (gK.symm.trans hg5)
    obtain rfl := Option.some.inj ((show (Tryd.prog.globals[0]?).map (·.type) = some 58 by kernel_rfl).symm.trans ht5)
    obtain ⟨xs, m, _, hx, hl, hxl, hel⟩ := DataW.trod_array Tryd.underlying58 hd5
    have c33 : Tryd.prog.cellsOf 57 = 2 := by kernel_rfl
    rw [c33] at hel
    have hc : ∀ j, W.cell? ⟨0, j, none⟩ = cs5[j]? := by
      intro j
      have := World.var?_cell gK hv5 j
      simpa using this
    have hx2 : xs.map (·.1) = (List.range 15).map fun i => (.agg [.lit (.string (kindL.getD (2 * i) [])), .lit (.string (kindL.getD (2 * i + 1) []))] : DataW Unit) := by
      have := congrArg Prod.fst hx
      simp only [Rows.laid_dole_event_kinds, DataW.agg.injEq] at this
      rw [← this]
      rfl
    refine cells_of_rows (n := 15) hc (fun i hi => ?_)
    have hxi : i < xs.length := by rw [hxl]; exact hi
    have e1 : xs[i]? = some xs[i] := List.getElem?_eq_getElem hxi
    have e2 : (xs[i]).1 = .agg [.lit (.string (kindL.getD (2 * i) [])), .lit (.string (kindL.getD (2 * i + 1) []))] := by
      have := congrArg (·[i]?) hx2
      simp only [List.getElem?_map, e1, Option.map_some] at this
      rw [List.getElem?_range hi] at this
      simpa using this
    have := row2 Tryd.underlying57 (by kernel_rfl) (by kernel_rfl) c33 Tryd.underlying9 Tryd.underlying9 ((hel i hi).trans e1) e2
    rw [Nat.mul_comm i 2] at this
    exact this

/-- The door's own heap meets the condition. -/
theorem door_met (os : Os) (args : Array Value) : laidMetH Tryd.prog laid6 ((World.doorLaid Tryd.prog 82 os).forCall (fun _ _ => 0) ⟨#[], args, []⟩).memory :=
  laidMetH_of_parts3 (fuel := 8) (laidMet_of_run' 8 (by kernel_rfl) (by kernel_rfl)) (by kernel_rfl) (by kernel_rfl)
end Go.Proofs.YtikdhfedidknpaaDoor.Event
