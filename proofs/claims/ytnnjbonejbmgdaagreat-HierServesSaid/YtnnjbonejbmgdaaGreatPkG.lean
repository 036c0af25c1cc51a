/- What Yield of package runq does where there is no other one. Conditions: each number is one of its kind. -/
import Derived.Test.YtnnjbonejbmgdaaGreatPkF
import Derived.Test.YtnnjbonejbmgdaaGreatPkB
namespace Go.Proofs.YtnnjbonejbmgdaaGreat.Queue
open Go.ChangeShapes Go.WideShapes Go.ChangeAt Go.RowKit Tree
set_option linter.unusedVariables false
set_option linter.unusedSimpArgs false
set_option maxRecDepth 100000

theorem yields_close (w : World) (q bq bi : Nat) (x : Int) (v : Value) (u : FrameMode) (h1 : w.cell? ⟨bq, 0, none⟩ = some (.pointer (some ⟨q, 0, none⟩))) (h2 : w.cell? ⟨bi, 0, none⟩ = some (.int .i64 x)) (h3 : w.cell? ⟨q, 2, none⟩ = some v) (h4 : w.frozen? ⟨q, 2, none⟩ = false) :
    CallsD Tryz.prog 130 #[.pointer (some ⟨bi, 0, none⟩), .pointer (some ⟨bq, 0, none⟩)] u w fun e u' w' => u' = u ∧ (e = .returned (.tuple #[]) ∧ w' = w.setCell ⟨q, 2, none⟩ (.int .i64 x)) := by
  go_enter_d Tryz.func130, Tryz.ntmps130
  go_wp2
  go_end0
  exact ⟨rfl, rfl⟩
/-- Four cells of one block, stored one by one. -/
theorem set4 {w1 : World} {b : Nat} {T : TypeId} {a0 a1 a2 a3 : Value} (h : w1.heap[b]? = some (.cells #[a0, a1, a2, a3] T (0, 0))) (x0 x1 x2 x3 : Value) :
    ((((w1.setCell ⟨b, 0, none⟩ x0).setCell ⟨b, 1, none⟩ x1).setCell ⟨b, 2, none⟩ x2).setCell ⟨b, 3, none⟩ x3).heap[b]? = some (.cells #[x0, x1, x2, x3] T (0, 0)) ∧
    Chg (fun k => k = b) w1 ((((w1.setCell ⟨b, 0, none⟩ x0).setCell ⟨b, 1, none⟩ x1).setCell ⟨b, 2, none⟩ x2).setCell ⟨b, 3, none⟩ x3) := by
  have h1 : (w1.setCell ⟨b, 0, none⟩ x0).heap[b]? = some (.cells #[x0, a1, a2, a3] T (0, 0)) := by rw [heap_setCell_same w1 b 0 _ _ _ h]; rfl
  have h2 : ((w1.setCell ⟨b, 0, none⟩ x0).setCell ⟨b, 1, none⟩ x1).heap[b]? = some (.cells #[x0, x1, a2, a3] T (0, 0)) := by rw [heap_setCell_same _ b 1 _ _ _ h1]; rfl
  have h3 : (((w1.setCell ⟨b, 0, none⟩ x0).setCell ⟨b, 1, none⟩ x1).setCell ⟨b, 2, none⟩ x2).heap[b]? = some (.cells #[x0, x1, x2, a3] T (0, 0)) := by rw [heap_setCell_same _ b 2 _ _ _ h2]; rfl
  refine ⟨by rw [heap_setCell_same _ b 3 _ _ _ h3]; rfl, ((((Chg.refl (fun k => k = b) w1).setCell (p := ⟨b, 0, none⟩) (fun _ => rfl) x0).setCell (p := ⟨b, 1, none⟩) (fun _ => rfl) x1).setCell (p := ⟨b, 2, none⟩) (fun _ => rfl) x2).setCell (p := ⟨b, 3, none⟩) (fun _ => rfl) x3⟩
/-- What stands when the current one was found: the box of the queue, the box of the answer, the box of the one found. -/
structure Found (w : World) (q b : Nat) (cur nc : Int) (X : World) : Prop where
  box : X.cell? ⟨w.heap.size, 0, none⟩ = some (.pointer (some ⟨q, 0, none⟩))
  ans : X.cell? ⟨w.heap.size + 1, 0, none⟩ = some (.int .i64 0)
  fz : ∀ j, X.frozen? ⟨w.heap.size + 1, j, none⟩ = false
  now : X.cell? ⟨b, 2, none⟩ = some (.int .i64 nc)
  lt : b < X.heap.size
  big : w.heap.size + 1 < X.heap.size
  grow : Below w.heap.size w X
theorem Found.fresh {w : World} {q b : Nat} {cur nc : Int} {X Y : World} (h : Found w q b cur nc X) (g : Below X.heap.size X Y) : Found w q b cur nc Y :=
  ⟨(g.cell (p := ⟨w.heap.size, 0, none⟩) (by have := h.big; simp; omega)).trans h.box, (g.cell (p := ⟨w.heap.size + 1, 0, none⟩) h.big).trans h.ans, fun j => (g.frozen (p := ⟨w.heap.size + 1, j, none⟩) h.big).trans (h.fz j), (g.cell (p := ⟨b, 2, none⟩) h.lt).trans h.now, Nat.lt_of_lt_of_le h.lt g.size, Nat.lt_of_lt_of_le h.big g.size, h.grow.trans (g.mono h.grow.size)⟩
theorem found_a {w w1 : World} {q : Nat} {cur na nb nc nd : Int} (y0 : w1.cell? ⟨w.heap.size, 0, none⟩ = some (.pointer (some ⟨q, 0, none⟩))) (y1 : w1.cell? ⟨w.heap.size + 1, 0, none⟩ = some (.int .i64 0)) (yf : ∀ j, w1.frozen? ⟨w.heap.size + 1, j, none⟩ = false) (hgX : Below w.heap.size w w1) (hb : w.heap.size + 1 < w1.heap.size) :
    Found w q w1.heap.size cur nc (w1.alloc (.cells #[.int .i64 na, .int .u64 nb, .int .i64 nc, .int .u64 nd] 34)) := by
  have G := (Below.refl w1.heap.size w1).alloc (Nat.le_refl _) (.cells #[.int .i64 na, .int .u64 nb, .int .i64 nc, .int .u64 nd] 34)
  obtain ⟨n0, n1, n2, n3, nz, nn⟩ := new_four (Below.refl _ (w1.alloc (.cells #[.int .i64 na, .int .u64 nb, .int .i64 nc, .int .u64 nd] 34)))
  exact ⟨(G.cell (p := ⟨w.heap.size, 0, none⟩) (by simp; omega)).trans y0, (G.cell (p := ⟨w.heap.size + 1, 0, none⟩) hb).trans y1, fun j => (G.frozen (p := ⟨w.heap.size + 1, j, none⟩) hb).trans (yf j), n2, lt_of nn, Nat.lt_of_lt_of_le hb G.size, hgX.trans (G.mono hgX.size)⟩
theorem found_b {w w1 : World} {q b : Nat} {cur na nb nc nd : Int} {a0 a1 a2 a3 : Value} (y0 : w1.cell? ⟨w.heap.size, 0, none⟩ = some (.pointer (some ⟨q, 0, none⟩))) (y1 : w1.cell? ⟨w.heap.size + 1, 0, none⟩ = some (.int .i64 0)) (yf : ∀ j, w1.frozen? ⟨w.heap.size + 1, j, none⟩ = false) (hgX : Below w.heap.size w w1) (hb : w.heap.size + 1 < b) (hs : w1.heap[b]? = some (.cells #[a0, a1, a2, a3] 34 (0, 0))) :
    Found w q b cur nc ((((w1.setCell ⟨b, 0, none⟩ (.int .i64 na)).setCell ⟨b, 1, none⟩ (.int .u64 nb)).setCell ⟨b, 2, none⟩ (.int .i64 nc)).setCell ⟨b, 3, none⟩ (.int .u64 nd)) := by
  obtain ⟨s1, s2⟩ := set4 hs (.int .i64 na) (.int .u64 nb) (.int .i64 nc) (.int .u64 nd)
  have hl := lt_of hs
  have G : Below (w.heap.size + 2) w1 _ := s2.below (by omega) (fun i hi => by omega)
  refine ⟨(G.cell (p := ⟨w.heap.size, 0, none⟩) (by simp)).trans y0, (G.cell (p := ⟨w.heap.size + 1, 0, none⟩) (by simp)).trans y1, fun j => (G.frozen (p := ⟨w.heap.size + 1, j, none⟩) (by simp)).trans (yf j), ?_, lt_of s1, ?_, hgX.trans (G.mono (by omega))⟩
  · rw [cell_of_row _ _ _ _ _ _ s1]; rfl
  · have := G.size
    omega
/-- Whether the current one goes for another one. -/
def goes (st : St) (g : Int) : Bool := named st.es st.cur && (match other st with
  | none => false
  | some o => decide (o.v ≤ reach (find st.es st.cur).v g))
def yielded (st : St) (g : Int) : Int := if goes st g then (match other st with
  | none => -1
  | some o => o.id) else chosen st g
set_option maxHeartbeats 4000000 in
theorem yields0 (w : World) (q : Nat) (O : Nat → Prop) (st : St) (g : Int) (h : Qu w q O st) (hO : ∀ k, O k → k < w.heap.size) (ho : Once st.es) (hc : I64 st.cur) (hg : I64 g) (hv : ∀ e ∈ st.es, I64 e.v) (hoo : other st = none) :
    Calls Tryz.prog 87 #[.pointer (some ⟨q, 0, none⟩), .int .i64 g] w (Did (.int .i64 (chosen st g)) { st with cur := chosen st g } q O w) := by
  have hmf := makes
  have M := Lib.hid (fun w' (g : Below w.heap.size w w') => made w' q O st (h.fresh g))
  have F := Lib.hid (fun w' (g : Below w.heap.size w w') => finds w' q O st st.cur (h.fresh g) hc)
  have B := Lib.hid (fun w' (g : Below w.heap.size w w') => firstOthers w' q O st (h.fresh g) ho)
  rw [hoo] at B
  simp only [Option.map_none, keyV] at B
  have S := Lib.hid (fun w' (gb : Below w.heap.size w w') => stayOrFirsts w' q O st g (h.fresh gb) ho hc hg hv)
  have H := Lib.hid (fun w' (gb : Below w.heap.size w w') x => h.setCur gb x)
  have hq := h.lt
  have hqo := h.out
  have c2 : w.cell? ⟨q, 2, none⟩ = some (.int .i64 st.cur) ∧ w.frozen? ⟨q, 2, none⟩ = false := by
    obtain ⟨m, t, T, h⟩ := h
    exact ⟨h.blk.cells.2.2.1, h.blk.cells.2.2.2.2.2 2⟩
  obtain ⟨p0, p1, pf, hg0, hl0⟩ := ones (Below.refl _ ((w.alloc (.cells #[.pointer (some ⟨q, 0, none⟩)] 85)).alloc (.cells #[.int .i64 0] 3)))
  have x2 := (hg0.cell (p := ⟨q, 2, none⟩) hq).trans c2.1
  clear h
  generalize find st.es st.cur = now at *
  generalize named st.es st.cur = sv at *
  obtain ⟨na, nb, nc, nd⟩ := now
  simp only [Ent.val] at F
  generalize hcu : st.cur = cur at *
  generalize chosen st g = x at *
  go_enter_defers Tryz.func87, Tryz.ntmps87
  go_wp2_with (go_at_call 105; refine (M.out _ hg0).mono ?_; rintro e w1 ⟨rfl, rfl⟩)
  have hqW : q < ((w.alloc (.cells #[.pointer (some ⟨q, 0, none⟩)] 85)).alloc (.cells #[.int .i64 0] 3)).heap.size := by omega
  have hbW : w.heap.size < ((w.alloc (.cells #[.pointer (some ⟨q, 0, none⟩)] 85)).alloc (.cells #[.int .i64 0] 3)).heap.size := by omega
  generalize (w.alloc (.cells #[.pointer (some ⟨q, 0, none⟩)] 85)).alloc (.cells #[.int .i64 0] 3) = W at *
  have hWn : ¬ W.heap.size = w.heap.size := by omega
  have hWq : ¬ W.heap.size = q := by omega
  have hgZ := (hg0.alloc hg0.size Z4).drew
  have p0z := cell_alloc p0 Z4
  have x2z := cell_alloc x2 Z4
  go_region_held3 (fun w' => w'.cell? ⟨w.heap.size, 0, none⟩ = some (.pointer (some ⟨q, 0, none⟩)) ∧ w'.cell? ⟨q, 2, none⟩ = some (.int .i64 cur)) (first | exact ⟨p0, x2⟩ | exact ⟨y0, y2⟩ | exact ⟨p0z, x2z⟩ | go_keep)
    (first
      | (go_at_call 109; refine (F.out _ hg0.drew).mono ?_; rintro e w1 ⟨rfl, hg1⟩; replace hg1 := undrew hg1; have y0 := (hg1.cell (p := ⟨w.heap.size, 0, none⟩) hbW).trans p0; have y2 := (hg1.cell (p := ⟨q, 2, none⟩) hqW).trans x2; have y1 := (hg1.cell (p := ⟨w.heap.size + 1, 0, none⟩) hl0).trans p1; have yf : ∀ j, w1.frozen? ⟨w.heap.size + 1, j, none⟩ = false := fun j => (hg1.frozen (p := ⟨w.heap.size + 1, j, none⟩) hl0).trans (pf j); have hgX := hg0.trans (hg1.mono hg0.size); have hs1 := hg1.size; clear hg1)
      | (go_at_call 109; refine (F.out _ hgZ).mono ?_; rintro e w1 ⟨rfl, hg1⟩; replace hg1 := undrew hg1; have y0 := (hg1.cell (p := ⟨w.heap.size, 0, none⟩) (by simp; omega)).trans p0z; have y2 := (hg1.cell (p := ⟨q, 2, none⟩) (by simp; omega)).trans x2z; obtain ⟨s0, s1, s2, s3, sz, ss⟩ := new_four hg1; have hs1 := lt_of ss; replace hg1 := fresh_trans ((Below.refl _ W).alloc (Nat.le_refl _) Z4) hg1; have y1 := (hg1.cell (p := ⟨w.heap.size + 1, 0, none⟩) hl0).trans p1; have yf : ∀ j, w1.frozen? ⟨w.heap.size + 1, j, none⟩ = false := fun j => (hg1.frozen (p := ⟨w.heap.size + 1, j, none⟩) hl0).trans (pf j); have hgX := hg0.trans (hg1.mono hg0.size); clear hg1))
  all_goals
    first
      | (obtain ⟨b, hb, FX⟩ : ∃ b, b = w1.heap.size ∧ Found w q b cur nc (w1.alloc (.cells #[.int .i64 na, .int .u64 nb, .int .i64 nc, .int .u64 nd] 34)) := ⟨_, rfl, found_a y0 y1 yf hgX (by omega)⟩
         rw [← hb]
         generalize w1.alloc (.cells #[.int .i64 na, .int .u64 nb, .int .i64 nc, .int .u64 nd] 34) = X at *
         clear hb)
      | (obtain ⟨b, hb, FX⟩ : ∃ b, b = W.heap.size ∧ Found w q b cur nc ((((w1.setCell ⟨b, 0, none⟩ (.int .i64 na)).setCell ⟨b, 1, none⟩ (.int .u64 nb)).setCell ⟨b, 2, none⟩ (.int .i64 nc)).setCell ⟨b, 3, none⟩ (.int .u64 nd)) := ⟨_, rfl, found_b y0 y1 yf hgX (by omega) ss⟩
         rw [← hb]
         generalize (((w1.setCell ⟨b, 0, none⟩ (.int .i64 na)).setCell ⟨b, 1, none⟩ (.int .u64 nb)).setCell ⟨b, 2, none⟩ (.int .i64 nc)).setCell ⟨b, 3, none⟩ (.int .u64 nd) = X at *
         clear hb)
    have FX' := Lib.hid FX
    have x0 := FX.box
    clear y0 y1 y2 yf hgX FX
    try clear s0 s1 s2 s3 sz ss hs1
    try clear hs1
    go_wp2_with (go_at_call 131; refine (B.out _ FX'.out.grow).mono ?_; rintro e w2 ⟨rfl, hg2⟩; have FY := Lib.hid (FX'.out.fresh hg2); clear hg2)
    have FZ := FY.out.fresh ((Below.refl _ w2).alloc (Nat.le_refl _) (.cells #[.int .i64 0, .int .i64 0] 155))
    generalize w2.alloc (.cells #[.int .i64 0, .int .i64 0] 155) = X3 at *
    generalize w2.heap.size = s2 at *
    have z0 := FZ.box
    have FZ' := Lib.hid FZ
    clear FZ x0 FX' FY B F M
    cases sv
    all_goals
      go_quiet (fail)
      have FD := Lib.hid (FZ'.out.fresh (drawn X3 nq))
      have d0 := FD.out.box
      clear FZ' z0
      generalize X3.drewN nq = X4 at *
      go_wp2_with (go_at_call 129; refine (S.out _ FD.out.grow).mono ?_; rintro e w5 ⟨rfl, hg5⟩; have FE := FD.out.fresh hg5; have o0 := FE.box; have o1 := FE.ans; have of := FE.fz; clear hg5)
      have hqn : ¬ q = w.heap.size + 1 := by omega
      have hnq : ¬ w.heap.size + 1 = q := by omega
      have x2' := (FE.grow.cell (p := ⟨q, 2, none⟩) hq).trans c2.1
      have xf' := (FE.grow.frozen (p := ⟨q, 2, none⟩) hq).trans c2.2
      have hgY : Below w.heap.size w (w5.setCell ⟨w.heap.size + 1, 0, none⟩ (.int .i64 x)) := FE.grow.setCell (by simp) _
      have Z := Lib.hid (H.out _ hgY x)
      refine leaves_cons (f := 130) (args := #[.pointer (some ⟨w.heap.size + 1, 0, none⟩), .pointer (some ⟨w.heap.size, 0, none⟩)]) (by simp) (by simp [go_sem]) ?_
      refine (yields_close _ q w.heap.size (w.heap.size + 1) x (.int .i64 cur) .returning (by go_simp) (by go_simp) (by go_simp) (by go_simp)).mono ?_
      rintro e u' w'' ⟨rfl, rfl, rfl⟩
      exact ⟨.int .i64 x, by simp [results, Tryz.results87, go_sem, hqn, hnq, o1], rfl, Z.out, (Same.of hgY hO).trans (Same.setCell (p := ⟨q, 2, none⟩) hqo _)⟩
end Go.Proofs.YtnnjbonejbmgdaaGreat.Queue

/- What Yield of package runq does. Conditions: each number is one of its kind. -/
namespace Go.Proofs.YtnnjbonejbmgdaaGreat.Queue
open Go.ChangeShapes Go.WideShapes Go.ChangeAt Go.RowKit Tree
set_option linter.unusedVariables false
set_option linter.unusedSimpArgs false
set_option maxRecDepth 100000

set_option maxHeartbeats 4000000 in
theorem yields1 (w : World) (q : Nat) (O : Nat → Prop) (st : St) (g : Int) (h : Qu w q O st) (hO : ∀ k, O k → k < w.heap.size) (ho : Once st.es) (hc : I64 st.cur) (hg : I64 g) (hv : ∀ e ∈ st.es, I64 e.v) (o : Ent) (hoo : other st = some o) :
    Calls Tryz.prog 87 #[.pointer (some ⟨q, 0, none⟩), .int .i64 g] w (Did (.int .i64 (yielded st g)) { st with cur := yielded st g } q O w) := by
  have hmf := makes
  have M := Lib.hid (fun w' (g : Below w.heap.size w w') => made w' q O st (h.fresh g))
  have F := Lib.hid (fun w' (g : Below w.heap.size w w') => finds w' q O st st.cur (h.fresh g) hc)
  have B := Lib.hid (fun w' (g : Below w.heap.size w w') => firstOthers w' q O st (h.fresh g) ho)
  rw [hoo] at B
  simp only [Option.map_some, keyV, Ent.key] at B
  have hnc : named st.es st.cur = true → I64 (find st.es st.cur).v := fun h => hv _ (find_of h).1
  have ey : yielded st g = if (named st.es st.cur && decide (o.v ≤ reach (find st.es st.cur).v g)) = true then o.id else chosen st g := by
    unfold yielded goes
    rw [hoo]
  have EY := Lib.hid ey
  generalize yielded st g = y at *
  clear ey hoo
  generalize o.v = ov at *
  generalize o.id = oi at *
  have S := Lib.hid (fun w' (gb : Below w.heap.size w w') => stayOrFirsts w' q O st g (h.fresh gb) ho hc hg hv)
  have H := Lib.hid (fun w' (gb : Below w.heap.size w w') x => h.setCur gb x)
  have hq := h.lt
  have hqo := h.out
  have c2 : w.cell? ⟨q, 2, none⟩ = some (.int .i64 st.cur) ∧ w.frozen? ⟨q, 2, none⟩ = false := by
    obtain ⟨m, t, T, h⟩ := h
    exact ⟨h.blk.cells.2.2.1, h.blk.cells.2.2.2.2.2 2⟩
  obtain ⟨p0, p1, pf, hg0, hl0⟩ := ones (Below.refl _ ((w.alloc (.cells #[.pointer (some ⟨q, 0, none⟩)] 85)).alloc (.cells #[.int .i64 0] 3)))
  have x2 := (hg0.cell (p := ⟨q, 2, none⟩) hq).trans c2.1
  clear h
  generalize find st.es st.cur = now at *
  generalize named st.es st.cur = sv at *
  obtain ⟨na, nb, nc, nd⟩ := now
  simp only [Ent.val] at F
  generalize hcu : st.cur = cur at *
  generalize chosen st g = x at *
  go_enter_defers Tryz.func87, Tryz.ntmps87
  go_wp2_with (go_at_call 105; refine (M.out _ hg0).mono ?_; rintro e w1 ⟨rfl, rfl⟩)
  have hqW : q < ((w.alloc (.cells #[.pointer (some ⟨q, 0, none⟩)] 85)).alloc (.cells #[.int .i64 0] 3)).heap.size := by omega
  have hbW : w.heap.size < ((w.alloc (.cells #[.pointer (some ⟨q, 0, none⟩)] 85)).alloc (.cells #[.int .i64 0] 3)).heap.size := by omega
  generalize (w.alloc (.cells #[.pointer (some ⟨q, 0, none⟩)] 85)).alloc (.cells #[.int .i64 0] 3) = W at *
  have hWn : ¬ W.heap.size = w.heap.size := by omega
  have hWq : ¬ W.heap.size = q := by omega
  have hgZ := (hg0.alloc hg0.size Z4).drew
  have p0z := cell_alloc p0 Z4
  have x2z := cell_alloc x2 Z4
  go_region_held3 (fun w' => w'.cell? ⟨w.heap.size, 0, none⟩ = some (.pointer (some ⟨q, 0, none⟩)) ∧ w'.cell? ⟨q, 2, none⟩ = some (.int .i64 cur)) (first | exact ⟨p0, x2⟩ | exact ⟨y0, y2⟩ | exact ⟨p0z, x2z⟩ | go_keep)
    (first
      | (go_at_call 109; refine (F.out _ hg0.drew).mono ?_; rintro e w1 ⟨rfl, hg1⟩; replace hg1 := undrew hg1; have y0 := (hg1.cell (p := ⟨w.heap.size, 0, none⟩) hbW).trans p0; have y2 := (hg1.cell (p := ⟨q, 2, none⟩) hqW).trans x2; have y1 := (hg1.cell (p := ⟨w.heap.size + 1, 0, none⟩) hl0).trans p1; have yf : ∀ j, w1.frozen? ⟨w.heap.size + 1, j, none⟩ = false := fun j => (hg1.frozen (p := ⟨w.heap.size + 1, j, none⟩) hl0).trans (pf j); have hgX := hg0.trans (hg1.mono hg0.size); have hs1 := hg1.size; clear hg1)
      | (go_at_call 109; refine (F.out _ hgZ).mono ?_; rintro e w1 ⟨rfl, hg1⟩; replace hg1 := undrew hg1; have y0 := (hg1.cell (p := ⟨w.heap.size, 0, none⟩) (by simp; omega)).trans p0z; have y2 := (hg1.cell (p := ⟨q, 2, none⟩) (by simp; omega)).trans x2z; obtain ⟨s0, s1, s2, s3, sz, ss⟩ := new_four hg1; have hs1 := lt_of ss; replace hg1 := fresh_trans ((Below.refl _ W).alloc (Nat.le_refl _) Z4) hg1; have y1 := (hg1.cell (p := ⟨w.heap.size + 1, 0, none⟩) hl0).trans p1; have yf : ∀ j, w1.frozen? ⟨w.heap.size + 1, j, none⟩ = false := fun j => (hg1.frozen (p := ⟨w.heap.size + 1, j, none⟩) hl0).trans (pf j); have hgX := hg0.trans (hg1.mono hg0.size); clear hg1))
  all_goals
    first
      | (obtain ⟨b, hb, FX⟩ : ∃ b, b = w1.heap.size ∧ Found w q b cur nc (w1.alloc (.cells #[.int .i64 na, .int .u64 nb, .int .i64 nc, .int .u64 nd] 34)) := ⟨_, rfl, found_a y0 y1 yf hgX (by omega)⟩
         rw [← hb]
         generalize w1.alloc (.cells #[.int .i64 na, .int .u64 nb, .int .i64 nc, .int .u64 nd] 34) = X at *
         clear hb)
      | (obtain ⟨b, hb, FX⟩ : ∃ b, b = W.heap.size ∧ Found w q b cur nc ((((w1.setCell ⟨b, 0, none⟩ (.int .i64 na)).setCell ⟨b, 1, none⟩ (.int .u64 nb)).setCell ⟨b, 2, none⟩ (.int .i64 nc)).setCell ⟨b, 3, none⟩ (.int .u64 nd)) := ⟨_, rfl, found_b y0 y1 yf hgX (by omega) ss⟩
         rw [← hb]
         generalize (((w1.setCell ⟨b, 0, none⟩ (.int .i64 na)).setCell ⟨b, 1, none⟩ (.int .u64 nb)).setCell ⟨b, 2, none⟩ (.int .i64 nc)).setCell ⟨b, 3, none⟩ (.int .u64 nd) = X at *
         clear hb)
    have FX' := Lib.hid FX
    have x0 := FX.box
    clear y0 y1 y2 yf hgX FX
    try clear s0 s1 s2 s3 sz ss hs1
    try clear hs1
    go_wp2_with (go_at_call 131; refine (B.out _ FX'.out.grow).mono ?_; rintro e w2 ⟨rfl, hg2⟩; have FY := Lib.hid (FX'.out.fresh hg2); clear hg2)
    have GK := (Below.refl _ w2).alloc (Nat.le_refl _) (.cells #[.int .i64 ov, .int .i64 oi] 155)
    have FZ := FY.out.fresh GK
    obtain ⟨u0, u1, uz, uu⟩ := new_two (Below.refl _ (w2.alloc (.cells #[.int .i64 ov, .int .i64 oi] 155)))
    have hu := lt_of uu
    clear uz uu GK
    generalize w2.alloc (.cells #[.int .i64 ov, .int .i64 oi] 155) = X3 at *
    generalize w2.heap.size = s2 at *
    have z0 := FZ.box
    have FZ' := Lib.hid FZ
    clear FZ x0 FX' FY B F M
    cases sv
    · clear hnc u0 u1 hu
      have ey : y = x := by simpa using EY.out
      clear EY
      subst ey
      go_quiet (fail)
      have FD := Lib.hid (FZ'.out.fresh (drawn X3 nq))
      have d0 := FD.out.box
      clear FZ' z0
      generalize X3.drewN nq = X4 at *
      go_wp2_with (go_at_call 129; refine (S.out _ FD.out.grow).mono ?_; rintro e w5 ⟨rfl, hg5⟩; have FE := FD.out.fresh hg5; have o0 := FE.box; have o1 := FE.ans; have of := FE.fz; clear hg5)
      have hqn : ¬ q = w.heap.size + 1 := by omega
      have hnq : ¬ w.heap.size + 1 = q := by omega
      have x2' := (FE.grow.cell (p := ⟨q, 2, none⟩) hq).trans c2.1
      have xf' := (FE.grow.frozen (p := ⟨q, 2, none⟩) hq).trans c2.2
      have hgY : Below w.heap.size w (w5.setCell ⟨w.heap.size + 1, 0, none⟩ (.int .i64 y)) := FE.grow.setCell (by simp) _
      have Z := Lib.hid (H.out _ hgY y)
      refine leaves_cons (f := 130) (args := #[.pointer (some ⟨w.heap.size + 1, 0, none⟩), .pointer (some ⟨w.heap.size, 0, none⟩)]) (by simp) (by simp [go_sem]) ?_
      refine (yields_close _ q w.heap.size (w.heap.size + 1) y (.int .i64 cur) .returning (by go_simp) (by go_simp) (by go_simp) (by go_simp)).mono ?_
      rintro e u' w'' ⟨rfl, rfl, rfl⟩
      exact ⟨.int .i64 y, by simp [results, Tryz.results87, go_sem, hqn, hnq, o1], rfl, Z.out, (Same.of hgY hO).trans (Same.setCell (p := ⟨q, 2, none⟩) hqo _)⟩
    · have AH := Lib.hid (fun w => aheads nc g w (hnc rfl) hg)
      clear hnc
      generalize reach nc g = rc at *
      have xn := FZ'.out.now
      have hb5 := FZ'.out.lt
      by_cases hle : ov ≤ rc
      · have ey : y = oi := by simpa [hle] using EY.out
        clear EY
        subst ey
        go_region_held3 (fun w' => w'.cell? ⟨b, 2, none⟩ = some (.int .i64 nc) ∧ w'.cell? ⟨s2, 0, none⟩ = some (.int .i64 ov)) (first | exact ⟨xn, u0⟩ | exact ⟨y2, v0⟩)
          (first
            | (go_at_call 132; refine (AH.out _).mono ?_; rintro e w3 ⟨rfl, hg3⟩; replace hg3 := undrew hg3; have y2 := (hg3.cell (p := ⟨b, 2, none⟩) hb5).trans xn; have v0 := (hg3.cell (p := ⟨s2, 0, none⟩) hu).trans u0; have v1 := (hg3.cell (p := ⟨s2, 1, none⟩) hu).trans u1; have FE := FZ'.out.fresh hg3; have o0 := FE.box; have o1 := FE.ans; have of := FE.fz; clear hg3))
        all_goals
          go_wp2_with fail
          have hqn : ¬ q = w.heap.size + 1 := by omega
          have hnq : ¬ w.heap.size + 1 = q := by omega
          have x2' := (FE.grow.cell (p := ⟨q, 2, none⟩) hq).trans c2.1
          have xf' := (FE.grow.frozen (p := ⟨q, 2, none⟩) hq).trans c2.2
          have hgY : Below w.heap.size w (w3.setCell ⟨w.heap.size + 1, 0, none⟩ (.int .i64 y)) := FE.grow.setCell (by simp) _
          have Z := Lib.hid (H.out _ hgY y)
          refine leaves_cons (f := 130) (args := #[.pointer (some ⟨w.heap.size + 1, 0, none⟩), .pointer (some ⟨w.heap.size, 0, none⟩)]) (by simp) (by simp [go_sem]) ?_
          refine (yields_close _ q w.heap.size (w.heap.size + 1) y (.int .i64 cur) .returning (by go_simp) (by go_simp) (by go_simp) (by go_simp)).mono ?_
          rintro e u' w'' ⟨rfl, rfl, rfl⟩
          exact ⟨.int .i64 y, by simp [results, Tryz.results87, go_sem, hqn, hnq, o1], rfl, Z.out, (Same.of hgY hO).trans (Same.setCell (p := ⟨q, 2, none⟩) hqo _)⟩
      · have ey : y = x := by simpa [hle] using EY.out
        clear EY
        subst ey
        have hdec : decide (ov ≤ rc) = false := decide_eq_false hle
        go_region_held3 (fun w' => w'.cell? ⟨b, 2, none⟩ = some (.int .i64 nc) ∧ w'.cell? ⟨s2, 0, none⟩ = some (.int .i64 ov)) (first | exact ⟨xn, u0⟩ | exact ⟨y2, v0⟩)
          (first
            | (go_at_call 132; refine (AH.out _).mono ?_; rintro e w3 ⟨rfl, hg3⟩; replace hg3 := undrew hg3; have y2 := (hg3.cell (p := ⟨b, 2, none⟩) hb5).trans xn; have v0 := (hg3.cell (p := ⟨s2, 0, none⟩) hu).trans u0; have FE3 := Lib.hid (FZ'.out.fresh hg3); have d0 := FE3.out.box; clear hg3))
        all_goals
          go_wp2_with (go_at_call 129; refine (S.out _ FE3.out.grow).mono ?_; rintro e w5 ⟨rfl, hg5⟩; have FE := FE3.out.fresh hg5; have o0 := FE.box; have o1 := FE.ans; have of := FE.fz; clear hg5)
          have hqn : ¬ q = w.heap.size + 1 := by omega
          have hnq : ¬ w.heap.size + 1 = q := by omega
          have x2' := (FE.grow.cell (p := ⟨q, 2, none⟩) hq).trans c2.1
          have xf' := (FE.grow.frozen (p := ⟨q, 2, none⟩) hq).trans c2.2
          have hgY : Below w.heap.size w (w5.setCell ⟨w.heap.size + 1, 0, none⟩ (.int .i64 y)) := FE.grow.setCell (by simp) _
          have Z := Lib.hid (H.out _ hgY y)
          refine leaves_cons (f := 130) (args := #[.pointer (some ⟨w.heap.size + 1, 0, none⟩), .pointer (some ⟨w.heap.size, 0, none⟩)]) (by simp) (by simp [go_sem]) ?_
          refine (yields_close _ q w.heap.size (w.heap.size + 1) y (.int .i64 cur) .returning (by go_simp) (by go_simp) (by go_simp) (by go_simp)).mono ?_
          rintro e u' w'' ⟨rfl, rfl, rfl⟩
          exact ⟨.int .i64 y, by simp [results, Tryz.results87, go_sem, hqn, hnq, o1], rfl, Z.out, (Same.of hgY hO).trans (Same.setCell (p := ⟨q, 2, none⟩) hqo _)⟩
/-- Yield. -/
theorem yields (w : World) (q : Nat) (O : Nat → Prop) (st : St) (g : Int) (h : Qu w q O st) (hO : ∀ k, O k → k < w.heap.size) (ho : Once st.es) (hc : I64 st.cur) (hg : I64 g) (hv : ∀ e ∈ st.es, I64 e.v) :
    Calls Tryz.prog 87 #[.pointer (some ⟨q, 0, none⟩), .int .i64 g] w (Did (.int .i64 (yielded st g)) { st with cur := yielded st g } q O w) := by
  cases hoo : other st with
  | none =>
    have e : yielded st g = chosen st g := by
      unfold yielded goes
      rw [hoo]
      simp
    rw [e]
    exact yields0 w q O st g h hO ho hc hg hv hoo
  | some o => exact yields1 w q O st g h hO ho hc hg hv o hoo
end Go.Proofs.YtnnjbonejbmgdaaGreat.Queue

/- What Weigh of package runq does. Conditions: each number is one of its kind. -/
namespace Go.Proofs.YtnnjbonejbmgdaaGreat.Queue
open Go.ChangeShapes Go.WideShapes Go.ChangeAt Go.RowKit Tree
set_option linter.unusedVariables false
set_option linter.unusedSimpArgs false
set_option maxRecDepth 100000

/-- One in another one's place. -/
def setE (e : Ent) (es : List Ent) : List Ent := es.map fun d => if d.id = e.id then e else d
theorem setE_none {e : Ent} {es : List Ent} (h : named es e.id = false) : setE e es = es := by
  unfold setE
  conv => rhs; rw [← List.map_id es]
  apply List.map_congr_left
  intro d hd
  have : d.id ≠ e.id := by
    intro e2
    unfold named at h
    rw [List.any_eq_false] at h
    exact h d hd (by simpa using e2)
  simp [this]
theorem setE_perm {es : List Ent} (ho : Once es) {e : Ent} (hn : named es e.id = true) : (e :: drop es e.id).Perm (setE e es) := by
  induction es with
  | nil => simp [named] at hn
  | cons d l ih =>
    have ho' : (∀ x ∈ l, d.id ≠ x.id) ∧ Once l := by
      unfold Once at ho ⊢
      rw [List.pairwise_cons] at ho
      exact ho
    by_cases hd : d.id = e.id
    · have hl : named l e.id = false := by
        unfold named
        rw [List.any_eq_false]
        intro x hx
        have := ho'.1 x hx
        rw [hd] at this
        simpa using fun e2 => this e2.symm
      have e1 : drop (d :: l) e.id = drop l e.id := by simp [drop, hd]
      have e2 : setE e (d :: l) = e :: setE e l := by simp [setE, hd]
      rw [e1, e2, drop_none hl, setE_none hl]
    · have hl : named l e.id = true := by
        unfold named at hn ⊢
        rw [List.any_cons, show (d.id == e.id) = false by simpa using hd, Bool.false_or] at hn
        exact hn
      have e1 : drop (d :: l) e.id = d :: drop l e.id := by simp [drop, hd]
      have e2 : setE e (d :: l) = d :: setE e l := by simp [setE, hd]
      rw [e1, e2]
      exact (List.Perm.swap d e _).trans ((ih ho'.2 hl).cons d)
theorem setE_keys {es : List Ent} (ho : Once es) {e f : Ent} (hf : f ∈ es) (h1 : f.id = e.id) (h2 : f.v = e.v) : (setE e es).map Ent.key = es.map Ent.key := by
  unfold setE
  rw [List.map_map]
  apply List.map_congr_left
  intro d hd
  show (if d.id = e.id then e else d).key = d.key
  by_cases hx : d.id = e.id
  · have : d = f := once_eq ho hd hf (by omega)
    subst this
    rw [if_pos hx]
    unfold Ent.key
    rw [h1, h2]
  · rw [if_neg hx]

def errWeigh (st : St) (id x : Int) : Int := if named st.es id then Vrun.cerr x 0 0 else 12
def weighed (e : Ent) (x : Int) : Ent := { e with wt := x, rm := Wide.quo e.rm x e.wt }
def weighS (st : St) (id x : Int) : St := if errWeigh st id x = 0 then rise { st with es := setE (weighed (find st.es id) x) st.es } else st

/-- The map's one entry turned. -/
theorem Ql.turned {W w1 : World} {q m t : Nat} {O : Nat → Prop} {T : Tr} {st : St} {e f : Ent} (h : Ql W q m t O T st) (ho : Once st.es) (hf : f ∈ st.es) (h1 : f.id = e.id) (h2 : f.v = e.v) (hm : Mp w1 m (e :: drop st.es e.id)) (ht : W.mapTurned w1 m) (hO : ∀ k, O k → k < W.heap.size) :
    Qu w1 q O { st with es := setE e st.es } ∧ Same O W w1 ∧ ∀ b, b < W.heap.size → b ≠ m → w1.heap[b]? = W.heap[b]? := by
  have hg := ht.grown
  have hn : named st.es e.id = true := by unfold named; rw [List.any_eq_true]; exact ⟨f, hf, by simpa using h1⟩
  have bl : ∀ b, b < W.heap.size → b ≠ m → w1.heap[b]? = W.heap[b]? := fun b hb hbm => hg.block b hb (fun e => hbm (by cases e; rfl))
  refine ⟨⟨m, t, T, h.blk.on (bl q h.blk.lt h.qm), hm.perm (setE_perm ho hn), kept_on h.kept fun b hb => bl b (kept_lt h.kept b hb) (fun e => h.kept.apart b hb (.inr (.inr e))), ?_, h.oq, h.om, h.qm⟩, Same.grown hg hO h.om, bl⟩
  rw [h.keys]
  exact (setE_keys ho hf h1 h2).symm

theorem weighs_err (w : World) (q : Nat) (O : Nat → Prop) (st : St) (id x : Int) (h : Qu w q O st) (hO : ∀ k, O k → k < w.heap.size) (hid : I64 id) (hx : 0 ≤ x) (hz : errWeigh st id x ≠ 0) :
    Calls Tryz.prog 83 #[.pointer (some ⟨q, 0, none⟩), .int .i64 id, .int .u64 x] w (Did (.int .i64 (errWeigh st id x)) st q O w) := by
  have H := Lib.hid (fun w' (g : Below w.heap.size w w') => h.fresh g)
  have F := Lib.hid (finds w q O st id h hid)
  have MB := Lib.hid (fun w => mayBes x 0 w hx (by omega))
  unfold errWeigh at hz ⊢
  cases hnm : named st.es id
  · simp only [hnm, Bool.false_eq_true, if_false] at F ⊢
    generalize find st.es id = fe at *
    obtain ⟨fa, fb, fc, fd⟩ := fe
    simp only [Ent.val] at F
    clear h hz MB
    go_enter_defers Tryz.func83, Tryz.ntmps83
    go_wp2_with (go_at_call 109; refine (F.out).mono ?_; rintro e w1 ⟨rfl, hg1⟩)
    have hg2 := fresh_trans hg1 ((Below.refl _ w1).alloc (Nat.le_refl _) (.cells #[.int .i64 fa, .int .u64 fb, .int .i64 fc, .int .u64 fd] 34))
    exact ⟨_, results_tmp rfl _ _ _, rfl, H.out _ hg2, Same.of hg2 hO⟩
  · simp only [hnm, if_true] at F hz ⊢
    generalize find st.es id = fe at *
    obtain ⟨fa, fb, fc, fd⟩ := fe
    simp only [Ent.val] at F
    have h2 : (Vrun.cerr x 0 0 == 0) = false := by simpa using hz
    generalize Vrun.cerr x 0 0 = ce at *
    clear h hz
    go_enter_defers Tryz.func83, Tryz.ntmps83
    go_wp2_with (first
      | (go_at_call 109; refine (F.out).mono ?_; rintro e w1 ⟨rfl, hg1⟩)
      | (go_at_call 125; refine (MB.out _).mono ?_; rintro e w2 ⟨rfl, hg2⟩))
    have hg3 := fresh_trans (fresh_trans hg1 ((Below.refl _ w1).alloc (Nat.le_refl _) (.cells #[.int .i64 fa, .int .u64 fb, .int .i64 fc, .int .u64 fd] 34))) hg2
    exact ⟨_, results_tmp rfl _ _ _, rfl, H.out _ hg3, Same.of hg3 hO⟩

set_option maxHeartbeats 4000000 in
theorem weighs_ok (w : World) (q : Nat) (O : Nat → Prop) (st : St) (id x : Int) (h : Qu w q O st) (hO : ∀ k, O k → k < w.heap.size) (hs : Sound st) (hid : I64 id) (hz : errWeigh st id x = 0) (hx : 0 ≤ x) :
    Calls Tryz.prog 83 #[.pointer (some ⟨q, 0, none⟩), .int .i64 id, .int .u64 x] w (Did (.int .i64 0) (weighS st id x) q O w) := by
  have hnm : named st.es id = true := by
    unfold errWeigh at hz
    cases hh : named st.es id
    · rw [hh] at hz; simp at hz
    · rfl
  have hce : Vrun.cerr x 0 0 = 0 := by unfold errWeigh at hz; rw [hnm] at hz; simpa using hz
  have hxb := cerr_zero hce
  obtain ⟨f1, f2⟩ := find_of hnm
  have he := hs.each _ f1
  have F := Lib.hid (finds w q O st id h hid)
  rw [hnm] at F
  have MB := Lib.hid (fun w => mayBes x 0 w hx (by omega))
  rw [hce] at MB
  have MD := Lib.hid (fun w => Wide.mulDiv (find st.es id).rm x (find st.es id).wt w ⟨by omega, by omega⟩ ⟨by omega, by omega⟩ ⟨by omega, by omega⟩)
  have QY : Hid (∀ w1 w3, Below w.heap.size w w1 → Below w1.heap.size w1 w3 → w1.heap.size < w3.heap.size → ∀ u v, Qu ((w3.setCell ⟨w1.heap.size, 1, none⟩ u).setCell ⟨w1.heap.size, 3, none⟩ v) q (fun k => O k ∨ k = w1.heap.size) st) := by
    refine Lib.hid (fun w1 w3 g1 g2 hlt u v => ?_)
    have h1 : Qu w1 q (fun k => O k ∨ k = w1.heap.size) st := (h.fresh g1).other (fun k hk => hk.imp _root_.id (fun e => by omega))
    exact ((h1.fresh g2).away (p := ⟨w1.heap.size, 1, none⟩) (.inr rfl) u).away (p := ⟨w1.heap.size, 3, none⟩) (.inr rfl) v
  have hw : weighS st id x = rise { st with es := setE (weighed (find st.es id) x) st.es } := by unfold weighS; rw [if_pos hz]
  rw [hw]
  have hwid : (weighed (find st.es id) x).id = id := f2
  have ON := Lib.hid hs.once
  have F1 := Lib.hid f1
  have FEW := Lib.hid hs.few
  have hq := h.lt
  clear h hz hnm hce he hw hs
  have hE : weighed (find st.es id) x = ⟨(find st.es id).id, x, (find st.es id).v, Wide.quo (find st.es id).rm x (find st.es id).wt⟩ := rfl
  rw [hE] at *
  generalize hfe : find st.es id = fe at *
  generalize Wide.quo fe.rm x fe.wt = r at *
  generalize Wide.rst fe.rm x fe.wt = r2 at *
  generalize Wide.can fe.rm x fe.wt = r3 at *
  obtain ⟨fa, fb, fc, fd⟩ := fe
  simp only [Ent.val] at *
  subst f2
  go_enter_defers Tryz.func83, Tryz.ntmps83
  go_wp2_with (first
    | (go_at_call 109; refine (F.out).mono ?_; rintro e w1 ⟨rfl, hg1⟩)
    | (go_at_call 125; refine (MB.out _).mono ?_; rintro e w2 ⟨rfl, hg2⟩; have hgW := fresh_trans (Below.refl _ (w1.alloc (.cells #[.int .i64 fa, .int .u64 fb, .int .i64 fc, .int .u64 fd] 34))) hg2; obtain ⟨n0, n1, n2, n3, nz, nn⟩ := new_four hg2; have hl2 := lt_of nn; clear hg2)
    | (go_at_call 84; refine (MD.out _).mono ?_; rintro e w3 ⟨rfl, hg3⟩; have nn3 := (hg3.block _ hl2).trans nn; have m0 := cell_of_row w3 _ 0 _ _ _ nn3; have m1 := cell_of_row w3 _ 1 _ _ _ nn3; have m2 := cell_of_row w3 _ 2 _ _ _ nn3; have m3 := cell_of_row w3 _ 3 _ _ _ nn3; have mf : ∀ j, w3.frozen? ⟨w1.heap.size, j, none⟩ = false := fun j => frozen_of_row w3 _ j _ _ nn3; have hgX := fresh_trans hgW hg3; clear hg3))
  have g13 := fresh_trans ((Below.refl _ w1).alloc (Nat.le_refl _) (.cells #[.int .i64 fa, .int .u64 fb, .int .i64 fc, .int .u64 fd] 34)) hgX
  have hl3 := lt_of nn3
  have QQ := QY.out w1 w3 hg1 g13 hl3 (.int .u64 x) (.int .u64 r)
  have e1 : (w3.setCell ⟨w1.heap.size, 1, none⟩ (.int .u64 x)).heap[w1.heap.size]? = some (.cells #[.int .i64 fa, .int .u64 x, .int .i64 fc, .int .u64 fd] 34 (0, 0)) := by rw [heap_setCell_same _ _ 1 _ _ _ nn3]; rfl
  have e2 : ((w3.setCell ⟨w1.heap.size, 1, none⟩ (.int .u64 x)).setCell ⟨w1.heap.size, 3, none⟩ (.int .u64 r)).heap[w1.heap.size]? = some (.cells #[.int .i64 fa, .int .u64 x, .int .i64 fc, .int .u64 r] 34 (0, 0)) := by rw [heap_setCell_same _ _ 3 _ _ _ e1]; rfl
  have ne1 : ¬ O w1.heap.size := fun e => by have := hO _ e; have := hg1.size; omega
  have hS3 : Same O w3 ((w3.setCell ⟨w1.heap.size, 1, none⟩ (.int .u64 x)).setCell ⟨w1.heap.size, 3, none⟩ (.int .u64 r)) := (Same.setCell (p := ⟨w1.heap.size, 1, none⟩) ne1 _).trans (Same.setCell (p := ⟨w1.heap.size, 3, none⟩) ne1 _)
  have SY := Lib.hid ((Same.of (fresh_trans hg1 g13) hO).trans hS3)
  have hbq : ¬ w1.heap.size = q := by have := hg1.size; omega
  have hbw : w.heap.size ≤ w1.heap.size := hg1.size
  clear e1 hS3 m0 m1 m2 m3 mf nn nn3 n0 n1 n2 n3 nz hgW hgX g13 hl2 hl3 hg1 MB MD F QY
  generalize (w3.setCell ⟨w1.heap.size, 1, none⟩ (.int .u64 x)).setCell ⟨w1.heap.size, 3, none⟩ (.int .u64 r) = Y at *
  generalize w1.heap.size = b at *
  obtain ⟨m, t, T, hl⟩ := QQ
  have hnY : named st.es fa = true := by unfold named; rw [List.any_eq_true]; exact ⟨_, F1.out, by simp⟩
  obtain ⟨w5, hrun, hmp, hturn⟩ := (hl.map.on (show Y.drew.heap[m]? = Y.heap[m]? from rfl)).set (e := ⟨fa, x, fc, r⟩) hid ON.out hnY (Nat.le_trans FEW.out (by omega))
  have hOY : ∀ k, (O k ∨ k = b) → k < Y.heap.size := by
    rintro k (hk | rfl)
    · exact Nat.lt_of_lt_of_le (hO k hk) SY.out.size
    · exact lt_of e2
  have TU := Lib.hid ((hl.fresh ((Below.refl _ Y).drew)).turned (e := ⟨fa, x, fc, r⟩) ON.out F1.out rfl rfl hmp hturn hOY)
  obtain ⟨c0, c1, c2, c3, c4, fz⟩ := hl.blk.cells
  have k0 := cell_of_row Y b 0 _ _ _ e2
  have k1 := cell_of_row Y b 1 _ _ _ e2
  have k2 := cell_of_row Y b 2 _ _ _ e2
  have k3 := cell_of_row Y b 3 _ _ _ e2
  simp only [Ent.val, mapT] at hrun
  clear hmp hturn hl e2 hfe
  go_region
  all_goals
    go_wp2_with fail
    obtain ⟨q5, s5, bl5⟩ := TU.out
    have hsz : Y.heap.size ≤ w5.heap.size := s5.size
    have s5' : Same O Y w5 := ⟨s5.os, s5.tape, s5.output, s5.size, fun i hi => s5.block i (.inl hi)⟩
    refine leaves_cons (f := 111) (args := #[.pointer (some ⟨q, 0, none⟩)]) (by simp) (by simp [go_sem]) ?_
    refine (raises _ q (fun k => O k ∨ k = b) _ .returning q5 (fun k hk => Nat.lt_of_lt_of_le (hOY k hk) hsz)).mono ?_
    rintro e u' w8 ⟨rfl, rfl, hq8, hs8⟩
    exact ⟨_, results_tmp rfl _ _ _, rfl, hq8.other (fun k hk => .inl (.inl hk)), (SY.out.trans s5').trans (hs8.mono (fun k hk => .inl hk))⟩

theorem weighs (w : World) (q : Nat) (O : Nat → Prop) (st : St) (id x : Int) (h : Qu w q O st) (hO : ∀ k, O k → k < w.heap.size) (hs : Sound st) (hid : I64 id) (hx : 0 ≤ x) :
    Calls Tryz.prog 83 #[.pointer (some ⟨q, 0, none⟩), .int .i64 id, .int .u64 x] w (Did (.int .i64 (errWeigh st id x)) (weighS st id x) q O w) := by
  by_cases hz : errWeigh st id x = 0
  · rw [hz]
    exact weighs_ok w q O st id x h hO hs hid hz hx
  · have : weighS st id x = st := by unfold weighS; rw [if_neg hz]
    rw [this]
    exact weighs_err w q O st id x h hO hid hx hz
end Go.Proofs.YtnnjbonejbmgdaaGreat.Queue
