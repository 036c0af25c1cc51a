/- What the document's field makes of what was read so far, a letter and a text. Conditions: the letter is one of the five; the text is of at most 2^40 bytes. -/
import Derived.Test.YtikdhfedidknpaaDoorEventDocN
import Derived.Test.YtikdhfedidknpaaDoorEventRead
namespace Go.Proofs.YtikdhfedidknpaaDoor.Event
open Go.ChangeShapes Go.WideShapes Go.ChangeAt Go.RowKit
open Mem (box_fresh set_block one_grown box_kept box_new)
set_option linter.unusedVariables false
set_option linter.unusedSimpArgs false
set_option maxRecDepth 100000

/-- What was read so far, as a value. -/
def gotC (g : Got) : Array Value := #[.int .i64 g.e.k, .int .i64 g.e.a, .int .i64 g.e.b, .int .i64 g.e.n, .int .i64 g.e.m, .int .u64 (g.e.s : Int), .int .i64 g.bad]
def gotV (g : Got) : Value := .agg (gotC g)
def GotB (w : World) (b : Nat) (g : Got) : Prop := w.heap[b]? = some (.cells (gotC g) 52 (0, 0))
theorem GotB.fresh {w w' : World} {b : Nat} {g : Got} (h : GotB w b g) (hg : Below w.heap.size w w') : GotB w' b g := box_fresh h hg
theorem GotB.lt {w : World} {b : Nat} {g : Got} (h : GotB w b g) : b < w.heap.size := Mem.lt_of h
theorem GotB.seven {w : World} {b : Nat} {g : Got} (h : GotB w b g) : w.cell? ⟨b, 0, none⟩ = some (.int .i64 g.e.k) ∧ w.cell? ⟨b, 1, none⟩ = some (.int .i64 g.e.a) ∧ w.cell? ⟨b, 2, none⟩ = some (.int .i64 g.e.b) ∧ w.cell? ⟨b, 3, none⟩ = some (.int .i64 g.e.n) ∧ w.cell? ⟨b, 4, none⟩ = some (.int .i64 g.e.m) ∧ w.cell? ⟨b, 5, none⟩ = some (.int .u64 (g.e.s : Int)) ∧ w.cell? ⟨b, 6, none⟩ = some (.int .i64 g.bad) ∧ (∀ j, w.frozen? ⟨b, j, none⟩ = false) := by
  refine ⟨?_, ?_, ?_, ?_, ?_, ?_, ?_, fun j => frozen_of_row w b j _ _ h⟩
  all_goals rw [cell_of_row w b _ _ _ _ h]; rfl
def put7 (W : World) (b : Nat) (g : Got) : World := ((((((W.setCell ⟨b, 0, none⟩ (.int .i64 g.e.k)).setCell ⟨b, 1, none⟩ (.int .i64 g.e.a)).setCell ⟨b, 2, none⟩ (.int .i64 g.e.b)).setCell ⟨b, 3, none⟩ (.int .i64 g.e.n)).setCell ⟨b, 4, none⟩ (.int .i64 g.e.m)).setCell ⟨b, 5, none⟩ (.int .u64 (g.e.s : Int))).setCell ⟨b, 6, none⟩ (.int .i64 g.bad)
theorem put7_grown (w : World) (b : Nat) (g : Got) : w.grownBy (put7 w b g) (some b) :=
  ((((((one_grown _ _ _ _).trans (one_grown _ _ _ _)).trans (one_grown _ _ _ _)).trans (one_grown _ _ _ _)).trans (one_grown _ _ _ _)).trans (one_grown _ _ _ _)).trans (one_grown _ _ _ _)
theorem put7_block {w : World} {b : Nat} {g0 : Got} (h : GotB w b g0) (g : Got) : GotB (put7 w b g) b g := by
  unfold GotB put7
  rw [set_block (set_block (set_block (set_block (set_block (set_block (set_block h 0 _) 1 _) 2 _) 3 _) 4 _) 5 _) 6 _]
  rfl
theorem put7_below {n b : Nat} {w W : World} (h : Below n w W) (hb : n ≤ b) (g : Got) : Below n w (put7 W b g) :=
  ((((((h.setCell (p := ⟨b, 0, none⟩) hb _).setCell (p := ⟨b, 1, none⟩) hb _).setCell (p := ⟨b, 2, none⟩) hb _).setCell (p := ⟨b, 3, none⟩) hb _).setCell (p := ⟨b, 4, none⟩) hb _).setCell (p := ⟨b, 5, none⟩) hb _).setCell (p := ⟨b, 6, none⟩) hb _
theorem new_got (w : World) (g : Got) : GotB (w.alloc (.cells (gotC g) 52)) w.heap.size g := heap_alloc_new w _
def Got.zero : Got := ⟨Ev.zero, 0⟩
/-- The same, but for the event where anything is wrong. -/
def Alike (g T : Got) : Prop := g.bad = T.bad ∧ (T.bad = 0 → g.e = T.e)
def IsGot (T : Got) (w : World) (e : Ending) (w' : World) : Prop := ∃ g, e = .returned (gotV g) ∧ Alike g T ∧ Below w.heap.size w w'
theorem infoGot : (Tryd.prog.info? 52).map (fun i => (i.zero, i.size)) = some (some (gotV Got.zero), 7) := by kernel_rfl
/-- The end: what is in the box is put where the result lies. -/
theorem got_end {W w : World} {b : Nat} {g0 g T : Got} (hg : Below w.heap.size w W) (hb : w.heap.size ≤ b) (hR : GotB W b g0) (ha : Alike g T) :
    IsGot T w (.returned (gotV g)) (put7 W b g) ∧ GotB (put7 W b g) b g := ⟨⟨g, rfl, ha, put7_below hg hb g⟩, put7_block hR g⟩
/-- field's first step: what was read lies in a box, the result beside it. -/
theorem field_boxes (g : Got) (w : World) : GotB ((w.alloc (.cells (gotC g) 52)).alloc (.cells (gotC Got.zero) 52)) w.heap.size g ∧ GotB ((w.alloc (.cells (gotC g) 52)).alloc (.cells (gotC Got.zero) 52)) (w.heap.size + 1) Got.zero ∧ Below w.heap.size w ((w.alloc (.cells (gotC g) 52)).alloc (.cells (gotC Got.zero) 52)) := by
  have h1 := box_new (o' := .cells (gotC Got.zero) 52) (new_got w g)
  have h2 := new_got (w.alloc (.cells (gotC g) 52)) Got.zero
  refine ⟨h1, ?_, (Mem.alloc1 w _).alloc (by simp) _⟩
  simpa using h2
theorem field_none (g : Got) (w : World) : Calls Tryd.prog 36 #[gotV g, .int .u8 115, .string (str noneT)] w (IsGot g w) := by
  obtain ⟨hB, hR, hg⟩ := field_boxes g w
  have hq : (str noneT).toList = noneT := str_toList _
  have hA : Alike g g := ⟨rfl, fun _ => rfl⟩
  have HA := Lib.hid hA
  have hEnd := fun W (h1 : GotB W (w.heap.size + 1) Got.zero) (h2 : Below w.heap.size w W) => got_end (b := w.heap.size + 1) h2 (by omega) h1 HA.out
  have HE := Lib.hid hEnd
  clear hA HA hEnd
  obtain ⟨⟨k, a, b, n, m, s⟩, bad⟩ := g
  unfold gotV gotC Got.zero Ev.zero at *
  simp only at *
  generalize str noneT = F at *
  go_enter Tryd.func36, Tryd.ntmps36
  go_upto_region 1 with fail
  generalize World.alloc _ _ = W at *
  obtain ⟨x0, x1, x2, x3, x4, x5, x6, xz⟩ := hB.seven
  obtain ⟨y0, y1, y2, y3, y4, y5, y6, yz⟩ := hR.seven
  obtain ⟨F1, F2⟩ := HE.out W hR hg
  have G := Lib.hid F2.seven
  replace F1 := Lib.hid F1
  unfold put7 at F1 G
  simp only at *
  clear hB hR hg HE F2
  go_wp2_with fail
  obtain ⟨z0, z1, z2, z3, z4, z5, z6, _⟩ := G.out
  have F3 := F1.out
  clear G F1
  generalize World.setCell _ ⟨w.heap.size + 1, 6, none⟩ _ = WF at *
  refine bodyPost_ret (v := .agg #[.int .i64 k, .int .i64 a, .int .i64 b, .int .i64 n, .int .i64 m, .int .u64 (s : Int), .int .i64 bad]) (by simp [results, Tryd.results36, go_sem, z0, z1, z2, z3, z4, z5, z6]) rfl ?_
  exact F3
end Go.Proofs.YtikdhfedidknpaaDoor.Event
