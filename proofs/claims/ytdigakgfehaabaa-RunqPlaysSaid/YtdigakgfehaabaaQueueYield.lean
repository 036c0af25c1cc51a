/- What Yield of package runq does where there is no other one. Conditions: each number is one of its kind. -/
import Derived.Test.YtdigakgfehaabaaQueueDrop
namespace Go.Proofs.Ytdigakgfehaabaa.Queue
open Go.ChangeShapes Go.WideShapes Go.ChangeAt Go.RowKit Tree
set_option linter.unusedVariables false
set_option linter.unusedSimpArgs false
set_option maxRecDepth 100000

theorem yields_close (w : World) (q bq bi : Nat) (x : Int) (v : Value) (u : FrameMode) (h1 : w.cell? ⟨bq, 0, none⟩ = some (.pointer (some ⟨q, 0, none⟩))) (h2 : w.cell? ⟨bi, 0, none⟩ = some (.int .i64 x)) (h3 : w.cell? ⟨q, 2, none⟩ = some v) (h4 : w.frozen? ⟨q, 2, none⟩ = false) :
    CallsD Try.prog 46 #[.pointer (some ⟨bi, 0, none⟩), .pointer (some ⟨bq, 0, none⟩)] u w fun e u' w' => u' = u ∧ (e = .returned (.tuple #[]) ∧ w' = w.setCell ⟨q, 2, none⟩ (.int .i64 x)) := by
  go_enter_d Try.func46, Try.ntmps46
  go_wp2
  go_end0
  exact ⟨rfl, rfl⟩
/-- Four cells of one block, stored one by one. -/
theorem set4 {w1 : World} {b : Nat} {T : TypeId} {a0 a1 a2 a3 : Value} (h : w1.heap[b]? = some (.cells #[a0, a1, a2, a3] T (0, 0))) (x0 x1 x2 x3 : Value) :
    ((((w1.setCell ⟨b, 0, none⟩ x0).setCell ⟨b, 1, none⟩ x1).setCell ⟨b, 2, none⟩ x2).setCell ⟨b, 3, none⟩ x3).heap[b]? = some (.cells #[x0, x1, x2, x3] T (0, 0)) ∧
    Chg (fun k => k = b) w1 ((((w1.setCell ⟨b, 0, none⟩ x0).setCell ⟨b, 1, none⟩ x1).setCell ⟨b, 2, none⟩ x2).setCell ⟨b, 3, none⟩ x3) := by
  have h1 : (w1.setCell ⟨b, 0, none⟩ x0).heap[b]? = some (.cells #[x0, a1, a2, a3] T (0, 0)) := by rw [heap_setCell_same w1 b 0 _ _ _ h]; rfl
  have h2 : ((w1.setCell ⟨b, 0, none⟩ x0).setCell ⟨b, 1, none⟩ x1).heap[b]? = some (.cells #[x0, x1, a2, a3] T (0, 0)) := by rw [heap_setCell_same _ b 1 _ _ _ h1]; rfl
  have h3 : (((w1.setCell ⟨b, 0, none⟩ x0).setCell ⟨b, 1, none⟩ x1).setCell ⟨b, 2, none⟩ x2).heap[b]? = some (.cells #[x0, x1, x2, a3] T (0, 0)) := by rw [heap_setCell_same _ b 2 _ _ _ h2]; rfl
  refine ⟨by rw [heap_setCell_same _ b 3 _ _ _ h3]; rfl, ((((Chg.refl (fun k => k = b) w1).setCell (p := ⟨b, 0, none⟩) (fun _ => rfl) x0).setCell (p := ⟨b, 1, none⟩) (fun _ => rfl) x1).setCell (p := ⟨b, 2, none⟩) (fun _ => rfl) x2).setCell (p := ⟨b, 3, none⟩) (fun _ => rfl) x3⟩
/-- What stands when the current one was found: the box of the queue, the box of the answer, the box of the one found. -/
structure Found (w : World) (q b : Nat) (cur nc : Int) (X : World) : Prop where
  box : X.cell? ⟨w.heap.size, 0, none⟩ = some (.pointer (some ⟨q, 0, none⟩))
  ans : X.cell? ⟨w.heap.size + 1, 0, none⟩ = some (.int .i64 0)
  fz : ∀ j, X.frozen? ⟨w.heap.size + 1, j, none⟩ = false
  now : X.cell? ⟨b, 2, none⟩ = some (.int .i64 nc)
  lt : b < X.heap.size
  big : w.heap.size + 1 < X.heap.size
  grow : Below w.heap.size w X
theorem Found.fresh {w : World} {q b : Nat} {cur nc : Int} {X Y : World} (h : Found w q b cur nc X) (g : Below X.heap.size X Y) : Found w q b cur nc Y :=
  ⟨(g.cell (p := ⟨w.heap.size, 0, none⟩) (by have := h.big; simp; omega)).trans h.box, (g.cell (p := ⟨w.heap.size + 1, 0, none⟩) h.big).trans h.ans, fun j => (g.frozen (p := ⟨w.heap.size + 1, j, none⟩) h.big).trans (h.fz j), (g.cell (p := ⟨b, 2, none⟩) h.lt).trans h.now, Nat.lt_of_lt_of_le h.lt g.size, Nat.lt_of_lt_of_le h.big g.size, h.grow.trans (g.mono h.grow.size)⟩
theorem found_a {w w1 : World} {q : Nat} {cur na nb nc nd : Int} (y0 : w1.cell? ⟨w.heap.size, 0, none⟩ = some (.pointer (some ⟨q, 0, none⟩))) (y1 : w1.cell? ⟨w.heap.size + 1, 0, none⟩ = some (.int .i64 0)) (yf : ∀ j, w1.frozen? ⟨w.heap.size + 1, j, none⟩ = false) (hgX : Below w.heap.size w w1) (hb : w.heap.size + 1 < w1.heap.size) :
    Found w q w1.heap.size cur nc (w1.alloc (.cells #[.int .i64 na, .int .u64 nb, .int .i64 nc, .int .u64 nd] 32)) := by
  have G := (Below.refl w1.heap.size w1).alloc (Nat.le_refl _) (.cells #[.int .i64 na, .int .u64 nb, .int .i64 nc, .int .u64 nd] 32)
  obtain ⟨n0, n1, n2, n3, nz, nn⟩ := new_four (Below.refl _ (w1.alloc (.cells #[.int .i64 na, .int .u64 nb, .int .i64 nc, .int .u64 nd] 32)))
  exact ⟨(G.cell (p := ⟨w.heap.size, 0, none⟩) (by simp; omega)).trans y0, (G.cell (p := ⟨w.heap.size + 1, 0, none⟩) hb).trans y1, fun j => (G.frozen (p := ⟨w.heap.size + 1, j, none⟩) hb).trans (yf j), n2, lt_of nn, Nat.lt_of_lt_of_le hb G.size, hgX.trans (G.mono hgX.size)⟩
theorem found_b {w w1 : World} {q b : Nat} {cur na nb nc nd : Int} {a0 a1 a2 a3 : Value} (y0 : w1.cell? ⟨w.heap.size, 0, none⟩ = some (.pointer (some ⟨q, 0, none⟩))) (y1 : w1.cell? ⟨w.heap.size + 1, 0, none⟩ = some (.int .i64 0)) (yf : ∀ j, w1.frozen? ⟨w.heap.size + 1, j, none⟩ = false) (hgX : Below w.heap.size w w1) (hb : w.heap.size + 1 < b) (hs : w1.heap[b]? = some (.cells #[a0, a1, a2, a3] 32 (0, 0))) :
    Found w q b cur nc ((((w1.setCell ⟨b, 0, none⟩ (.int .i64 na)).setCell ⟨b, 1, none⟩ (.int .u64 nb)).setCell ⟨b, 2, none⟩ (.int .i64 nc)).setCell ⟨b, 3, none⟩ (.int .u64 nd)) := by
  obtain ⟨s1, s2⟩ := set4 hs (.int .i64 na) (.int .u64 nb) (.int .i64 nc) (.int .u64 nd)
  have hl := lt_of hs
  have G : Below (w.heap.size + 2) w1 _ := s2.below (by omega) (fun i hi => by omega)
  refine ⟨(G.cell (p := ⟨w.heap.size, 0, none⟩) (by simp)).trans y0, (G.cell (p := ⟨w.heap.size + 1, 0, none⟩) (by simp)).trans y1, fun j => (G.frozen (p := ⟨w.heap.size + 1, j, none⟩) (by simp)).trans (yf j), ?_, lt_of s1, ?_, hgX.trans (G.mono (by omega))⟩
  · rw [cell_of_row _ _ _ _ _ _ s1]; rfl
  · have := G.size
    omega
/-- Whether the current one goes for another one. -/
def goes (st : St) (g : Int) : Bool := named st.es st.cur && (match other st with
  | none => false
  | some o => decide (o.v ≤ reach (find st.es st.cur).v g))
def yielded (st : St) (g : Int) : Int := if goes st g then (match other st with
  | none => -1
  | some o => o.id) else chosen st g
set_option maxHeartbeats 4000000 in
theorem yields0 (w : World) (q : Nat) (O : Nat → Prop) (st : St) (g : Int) (h : Qu w q O st) (hO : ∀ k, O k → k < w.heap.size) (ho : Once st.es) (hc : I64 st.cur) (hg : I64 g) (hv : ∀ e ∈ st.es, I64 e.v) (hoo : other st = none) :
    Calls Try.prog 17 #[.pointer (some ⟨q, 0, none⟩), .int .i64 g] w (Did (.int .i64 (chosen st g)) { st with cur := chosen st g } q O w) := by
  have hmf := makes
  have M := Lib.hid (fun w' (g : Below w.heap.size w w') => made w' q O st (h.fresh g))
  have F := Lib.hid (fun w' (g : Below w.heap.size w w') => finds w' q O st st.cur (h.fresh g) hc)
  have B := Lib.hid (fun w' (g : Below w.heap.size w w') => firstOthers w' q O st (h.fresh g) ho)
  rw [hoo] at B
  simp only [Option.map_none, keyV] at B
  have S := Lib.hid (fun w' (gb : Below w.heap.size w w') => stayOrFirsts w' q O st g (h.fresh gb) ho hc hg hv)
  have H := Lib.hid (fun w' (gb : Below w.heap.size w w') x => h.setCur gb x)
  have hq := h.lt
  have hqo := h.out
  have c2 : w.cell? ⟨q, 2, none⟩ = some (.int .i64 st.cur) ∧ w.frozen? ⟨q, 2, none⟩ = false := by
    obtain ⟨m, t, T, h⟩ := h
    exact ⟨h.blk.cells.2.2.1, h.blk.cells.2.2.2.2.2 2⟩
  obtain ⟨p0, p1, pf, hg0, hl0⟩ := ones (Below.refl _ ((w.alloc (.cells #[.pointer (some ⟨q, 0, none⟩)] 24)).alloc (.cells #[.int .i64 0] 3)))
  have x2 := (hg0.cell (p := ⟨q, 2, none⟩) hq).trans c2.1
  clear h
  generalize find st.es st.cur = now at *
  generalize named st.es st.cur = sv at *
  obtain ⟨na, nb, nc, nd⟩ := now
  simp only [Ent.val] at F
  generalize hcu : st.cur = cur at *
  generalize chosen st g = x at *
  go_enter_defers Try.func17, Try.ntmps17
  go_wp2_with (go_at_call 23; refine (M.out _ hg0).mono ?_; rintro e w1 ⟨rfl, rfl⟩)
  have hqW : q < ((w.alloc (.cells #[.pointer (some ⟨q, 0, none⟩)] 24)).alloc (.cells #[.int .i64 0] 3)).heap.size := by omega
  have hbW : w.heap.size < ((w.alloc (.cells #[.pointer (some ⟨q, 0, none⟩)] 24)).alloc (.cells #[.int .i64 0] 3)).heap.size := by omega
  generalize (w.alloc (.cells #[.pointer (some ⟨q, 0, none⟩)] 24)).alloc (.cells #[.int .i64 0] 3) = W at *
  have hWn : ¬ W.heap.size = w.heap.size := by omega
  have hWq : ¬ W.heap.size = q := by omega
  have hgZ := (hg0.alloc hg0.size Z4).drew
  have p0z := cell_alloc p0 Z4
  have x2z := cell_alloc x2 Z4
  go_region_held3 (fun w' => w'.cell? ⟨w.heap.size, 0, none⟩ = some (.pointer (some ⟨q, 0, none⟩)) ∧ w'.cell? ⟨q, 2, none⟩ = some (.int .i64 cur)) (first | exact ⟨p0, x2⟩ | exact ⟨y0, y2⟩ | exact ⟨p0z, x2z⟩ | go_keep)
    (first
      | (go_at_call 30; refine (F.out _ hg0.drew).mono ?_; rintro e w1 ⟨rfl, hg1⟩; replace hg1 := undrew hg1; have y0 := (hg1.cell (p := ⟨w.heap.size, 0, none⟩) hbW).trans p0; have y2 := (hg1.cell (p := ⟨q, 2, none⟩) hqW).trans x2; have y1 := (hg1.cell (p := ⟨w.heap.size + 1, 0, none⟩) hl0).trans p1; have yf : ∀ j, w1.frozen? ⟨w.heap.size + 1, j, none⟩ = false := fun j => (hg1.frozen (p := ⟨w.heap.size + 1, j, none⟩) hl0).trans (pf j); have hgX := hg0.trans (hg1.mono hg0.size); have hs1 := hg1.size; clear hg1)
      | (go_at_call 30; refine (F.out _ hgZ).mono ?_; rintro e w1 ⟨rfl, hg1⟩; replace hg1 := undrew hg1; have y0 := (hg1.cell (p := ⟨w.heap.size, 0, none⟩) (by simp; omega)).trans p0z; have y2 := (hg1.cell (p := ⟨q, 2, none⟩) (by simp; omega)).trans x2z; obtain ⟨s0, s1, s2, s3, sz, ss⟩ := new_four hg1; have hs1 := lt_of ss; replace hg1 := fresh_trans ((Below.refl _ W).alloc (Nat.le_refl _) Z4) hg1; have y1 := (hg1.cell (p := ⟨w.heap.size + 1, 0, none⟩) hl0).trans p1; have yf : ∀ j, w1.frozen? ⟨w.heap.size + 1, j, none⟩ = false := fun j => (hg1.frozen (p := ⟨w.heap.size + 1, j, none⟩) hl0).trans (pf j); have hgX := hg0.trans (hg1.mono hg0.size); clear hg1))
  all_goals
    first
      | (obtain ⟨b, hb, FX⟩ : ∃ b, b = w1.heap.size ∧ Found w q b cur nc (w1.alloc (.cells #[.int .i64 na, .int .u64 nb, .int .i64 nc, .int .u64 nd] 32)) := ⟨_, rfl, found_a y0 y1 yf hgX (by omega)⟩
         rw [← hb]
         generalize w1.alloc (.cells #[.int .i64 na, .int .u64 nb, .int .i64 nc, .int .u64 nd] 32) = X at *
         clear hb)
      | (obtain ⟨b, hb, FX⟩ : ∃ b, b = W.heap.size ∧ Found w q b cur nc ((((w1.setCell ⟨b, 0, none⟩ (.int .i64 na)).setCell ⟨b, 1, none⟩ (.int .u64 nb)).setCell ⟨b, 2, none⟩ (.int .i64 nc)).setCell ⟨b, 3, none⟩ (.int .u64 nd)) := ⟨_, rfl, found_b y0 y1 yf hgX (by omega) ss⟩
         rw [← hb]
         generalize (((w1.setCell ⟨b, 0, none⟩ (.int .i64 na)).setCell ⟨b, 1, none⟩ (.int .u64 nb)).setCell ⟨b, 2, none⟩ (.int .i64 nc)).setCell ⟨b, 3, none⟩ (.int .u64 nd) = X at *
         clear hb)
    have FX' := Lib.hid FX
    have x0 := FX.box
    clear y0 y1 y2 yf hgX FX
    try clear s0 s1 s2 s3 sz ss hs1
    try clear hs1
    go_wp2_with (go_at_call 47; refine (B.out _ FX'.out.grow).mono ?_; rintro e w2 ⟨rfl, hg2⟩; have FY := Lib.hid (FX'.out.fresh hg2); clear hg2)
    have FZ := FY.out.fresh ((Below.refl _ w2).alloc (Nat.le_refl _) (.cells #[.int .i64 0, .int .i64 0] 76))
    generalize w2.alloc (.cells #[.int .i64 0, .int .i64 0] 76) = X3 at *
    generalize w2.heap.size = s2 at *
    have z0 := FZ.box
    have FZ' := Lib.hid FZ
    clear FZ x0 FX' FY B F M
    cases sv
    all_goals
      go_quiet (fail)
      have FD := Lib.hid (FZ'.out.fresh (drawn X3 nq))
      have d0 := FD.out.box
      clear FZ' z0
      generalize X3.drewN nq = X4 at *
      go_wp2_with (go_at_call 43; refine (S.out _ FD.out.grow).mono ?_; rintro e w5 ⟨rfl, hg5⟩; have FE := FD.out.fresh hg5; have o0 := FE.box; have o1 := FE.ans; have of := FE.fz; clear hg5)
      have hqn : ¬ q = w.heap.size + 1 := by omega
      have hnq : ¬ w.heap.size + 1 = q := by omega
      have x2' := (FE.grow.cell (p := ⟨q, 2, none⟩) hq).trans c2.1
      have xf' := (FE.grow.frozen (p := ⟨q, 2, none⟩) hq).trans c2.2
      have hgY : Below w.heap.size w (w5.setCell ⟨w.heap.size + 1, 0, none⟩ (.int .i64 x)) := FE.grow.setCell (by simp) _
      have Z := Lib.hid (H.out _ hgY x)
      refine leaves_cons (f := 46) (args := #[.pointer (some ⟨w.heap.size + 1, 0, none⟩), .pointer (some ⟨w.heap.size, 0, none⟩)]) (by simp) (by simp [go_sem]) ?_
      refine (yields_close _ q w.heap.size (w.heap.size + 1) x (.int .i64 cur) .returning (by go_simp) (by go_simp) (by go_simp) (by go_simp)).mono ?_
      rintro e u' w'' ⟨rfl, rfl, rfl⟩
      exact ⟨.int .i64 x, by simp [results, Try.results17, go_sem, hqn, hnq, o1], rfl, Z.out, (Same.of hgY hO).trans (Same.setCell (p := ⟨q, 2, none⟩) hqo _)⟩
end Go.Proofs.Ytdigakgfehaabaa.Queue
