/- What Yield of package runq does. Conditions: each number is one of its kind. -/
import Derived.Test.YtdigakgfehaabaaQueueYield
namespace Go.Proofs.Ytdigakgfehaabaa.Queue
open Go.ChangeShapes Go.WideShapes Go.ChangeAt Go.RowKit Tree
set_option linter.unusedVariables false
set_option linter.unusedSimpArgs false
set_option maxRecDepth 100000

set_option maxHeartbeats 4000000 in
theorem yields1 (w : World) (q : Nat) (O : Nat → Prop) (st : St) (g : Int) (h : Qu w q O st) (hO : ∀ k, O k → k < w.heap.size) (ho : Once st.es) (hc : I64 st.cur) (hg : I64 g) (hv : ∀ e ∈ st.es, I64 e.v) (o : Ent) (hoo : other st = some o) :
    Calls Try.prog 17 #[.pointer (some ⟨q, 0, none⟩), .int .i64 g] w (Did (.int .i64 (yielded st g)) { st with cur := yielded st g } q O w) := by
  have hmf := makes
  have M := Lib.hid (fun w' (g : Below w.heap.size w w') => made w' q O st (h.fresh g))
  have F := Lib.hid (fun w' (g : Below w.heap.size w w') => finds w' q O st st.cur (h.fresh g) hc)
  have B := Lib.hid (fun w' (g : Below w.heap.size w w') => firstOthers w' q O st (h.fresh g) ho)
  rw [hoo] at B
  simp only [Option.map_some, keyV, Ent.key] at B
  have hnc : named st.es st.cur = true → I64 (find st.es st.cur).v := fun h => hv _ (find_of h).1
  have ey : yielded st g = if (named st.es st.cur && decide (o.v ≤ reach (find st.es st.cur).v g)) = true then o.id else chosen st g := by
    unfold yielded goes
    rw [hoo]
  have EY := Lib.hid ey
  generalize yielded st g = y at *
  clear ey hoo
  generalize o.v = ov at *
  generalize o.id = oi at *
  have S := Lib.hid (fun w' (gb : Below w.heap.size w w') => stayOrFirsts w' q O st g (h.fresh gb) ho hc hg hv)
  have H := Lib.hid (fun w' (gb : Below w.heap.size w w') x => h.setCur gb x)
  have hq := h.lt
  have hqo := h.out
  have c2 : w.cell? ⟨q, 2, none⟩ = some (.int .i64 st.cur) ∧ w.frozen? ⟨q, 2, none⟩ = false := by
    obtain ⟨m, t, T, h⟩ := h
    exact ⟨h.blk.cells.2.2.1, h.blk.cells.2.2.2.2.2 2⟩
  obtain ⟨p0, p1, pf, hg0, hl0⟩ := ones (Below.refl _ ((w.alloc (.cells #[.pointer (some ⟨q, 0, none⟩)] 24)).alloc (.cells #[.int .i64 0] 3)))
  have x2 := (hg0.cell (p := ⟨q, 2, none⟩) hq).trans c2.1
  clear h
  generalize find st.es st.cur = now at *
  generalize named st.es st.cur = sv at *
  obtain ⟨na, nb, nc, nd⟩ := now
  simp only [Ent.val] at F
  generalize hcu : st.cur = cur at *
  generalize chosen st g = x at *
  go_enter_defers Try.func17, Try.ntmps17
  go_wp2_with (go_at_call 23; refine (M.out _ hg0).mono ?_; rintro e w1 ⟨rfl, rfl⟩)
  have hqW : q < ((w.alloc (.cells #[.pointer (some ⟨q, 0, none⟩)] 24)).alloc (.cells #[.int .i64 0] 3)).heap.size := by omega
  have hbW : w.heap.size < ((w.alloc (.cells #[.pointer (some ⟨q, 0, none⟩)] 24)).alloc (.cells #[.int .i64 0] 3)).heap.size := by omega
  generalize (w.alloc (.cells #[.pointer (some ⟨q, 0, none⟩)] 24)).alloc (.cells #[.int .i64 0] 3) = W at *
  have hWn : ¬ W.heap.size = w.heap.size := by omega
  have hWq : ¬ W.heap.size = q := by omega
  have hgZ := (hg0.alloc hg0.size Z4).drew
  have p0z := cell_alloc p0 Z4
  have x2z := cell_alloc x2 Z4
  go_region_held3 (fun w' => w'.cell? ⟨w.heap.size, 0, none⟩ = some (.pointer (some ⟨q, 0, none⟩)) ∧ w'.cell? ⟨q, 2, none⟩ = some (.int .i64 cur)) (first | exact ⟨p0, x2⟩ | exact ⟨y0, y2⟩ | exact ⟨p0z, x2z⟩ | go_keep)
    (first
      | (go_at_call 30; refine (F.out _ hg0.drew).mono ?_; rintro e w1 ⟨rfl, hg1⟩; replace hg1 := undrew hg1; have y0 := (hg1.cell (p := ⟨w.heap.size, 0, none⟩) hbW).trans p0; have y2 := (hg1.cell (p := ⟨q, 2, none⟩) hqW).trans x2; have y1 := (hg1.cell (p := ⟨w.heap.size + 1, 0, none⟩) hl0).trans p1; have yf : ∀ j, w1.frozen? ⟨w.heap.size + 1, j, none⟩ = false := fun j => (hg1.frozen (p := ⟨w.heap.size + 1, j, none⟩) hl0).trans (pf j); have hgX := hg0.trans (hg1.mono hg0.size); have hs1 := hg1.size; clear hg1)
      | (go_at_call 30; refine (F.out _ hgZ).mono ?_; rintro e w1 ⟨rfl, hg1⟩; replace hg1 := undrew hg1; have y0 := (hg1.cell (p := ⟨w.heap.size, 0, none⟩) (by simp; omega)).trans p0z; have y2 := (hg1.cell (p := ⟨q, 2, none⟩) (by simp; omega)).trans x2z; obtain ⟨s0, s1, s2, s3, sz, ss⟩ := new_four hg1; have hs1 := lt_of ss; replace hg1 := fresh_trans ((Below.refl _ W).alloc (Nat.le_refl _) Z4) hg1; have y1 := (hg1.cell (p := ⟨w.heap.size + 1, 0, none⟩) hl0).trans p1; have yf : ∀ j, w1.frozen? ⟨w.heap.size + 1, j, none⟩ = false := fun j => (hg1.frozen (p := ⟨w.heap.size + 1, j, none⟩) hl0).trans (pf j); have hgX := hg0.trans (hg1.mono hg0.size); clear hg1))
  all_goals
    first
      | (obtain ⟨b, hb, FX⟩ : ∃ b, b = w1.heap.size ∧ Found w q b cur nc (w1.alloc (.cells #[.int .i64 na, .int .u64 nb, .int .i64 nc, .int .u64 nd] 32)) := ⟨_, rfl, found_a y0 y1 yf hgX (by omega)⟩
         rw [← hb]
         generalize w1.alloc (.cells #[.int .i64 na, .int .u64 nb, .int .i64 nc, .int .u64 nd] 32) = X at *
         clear hb)
      | (obtain ⟨b, hb, FX⟩ : ∃ b, b = W.heap.size ∧ Found w q b cur nc ((((w1.setCell ⟨b, 0, none⟩ (.int .i64 na)).setCell ⟨b, 1, none⟩ (.int .u64 nb)).setCell ⟨b, 2, none⟩ (.int .i64 nc)).setCell ⟨b, 3, none⟩ (.int .u64 nd)) := ⟨_, rfl, found_b y0 y1 yf hgX (by omega) ss⟩
         rw [← hb]
         generalize (((w1.setCell ⟨b, 0, none⟩ (.int .i64 na)).setCell ⟨b, 1, none⟩ (.int .u64 nb)).setCell ⟨b, 2, none⟩ (.int .i64 nc)).setCell ⟨b, 3, none⟩ (.int .u64 nd) = X at *
         clear hb)
    have FX' := Lib.hid FX
    have x0 := FX.box
    clear y0 y1 y2 yf hgX FX
    try clear s0 s1 s2 s3 sz ss hs1
    try clear hs1
    go_wp2_with (go_at_call 47; refine (B.out _ FX'.out.grow).mono ?_; rintro e w2 ⟨rfl, hg2⟩; have FY := Lib.hid (FX'.out.fresh hg2); clear hg2)
    have GK := (Below.refl _ w2).alloc (Nat.le_refl _) (.cells #[.int .i64 ov, .int .i64 oi] 76)
    have FZ := FY.out.fresh GK
    obtain ⟨u0, u1, uz, uu⟩ := new_two (Below.refl _ (w2.alloc (.cells #[.int .i64 ov, .int .i64 oi] 76)))
    have hu := lt_of uu
    clear uz uu GK
    generalize w2.alloc (.cells #[.int .i64 ov, .int .i64 oi] 76) = X3 at *
    generalize w2.heap.size = s2 at *
    have z0 := FZ.box
    have FZ' := Lib.hid FZ
    clear FZ x0 FX' FY B F M
    cases sv
    · clear hnc u0 u1 hu
      have ey : y = x := by simpa using EY.out
      clear EY
      subst ey
      go_quiet (fail)
      have FD := Lib.hid (FZ'.out.fresh (drawn X3 nq))
      have d0 := FD.out.box
      clear FZ' z0
      generalize X3.drewN nq = X4 at *
      go_wp2_with (go_at_call 43; refine (S.out _ FD.out.grow).mono ?_; rintro e w5 ⟨rfl, hg5⟩; have FE := FD.out.fresh hg5; have o0 := FE.box; have o1 := FE.ans; have of := FE.fz; clear hg5)
      have hqn : ¬ q = w.heap.size + 1 := by omega
      have hnq : ¬ w.heap.size + 1 = q := by omega
      have x2' := (FE.grow.cell (p := ⟨q, 2, none⟩) hq).trans c2.1
      have xf' := (FE.grow.frozen (p := ⟨q, 2, none⟩) hq).trans c2.2
      have hgY : Below w.heap.size w (w5.setCell ⟨w.heap.size + 1, 0, none⟩ (.int .i64 y)) := FE.grow.setCell (by simp) _
      have Z := Lib.hid (H.out _ hgY y)
      refine leaves_cons (f := 46) (args := #[.pointer (some ⟨w.heap.size + 1, 0, none⟩), .pointer (some ⟨w.heap.size, 0, none⟩)]) (by simp) (by simp [go_sem]) ?_
      refine (yields_close _ q w.heap.size (w.heap.size + 1) y (.int .i64 cur) .returning (by go_simp) (by go_simp) (by go_simp) (by go_simp)).mono ?_
      rintro e u' w'' ⟨rfl, rfl, rfl⟩
      exact ⟨.int .i64 y, by simp [results, Try.results17, go_sem, hqn, hnq, o1], rfl, Z.out, (Same.of hgY hO).trans (Same.setCell (p := ⟨q, 2, none⟩) hqo _)⟩
    · have AH := Lib.hid (fun w => aheads nc g w (hnc rfl) hg)
      clear hnc
      generalize reach nc g = rc at *
      have xn := FZ'.out.now
      have hb5 := FZ'.out.lt
      by_cases hle : ov ≤ rc
      · have ey : y = oi := by simpa [hle] using EY.out
        clear EY
        subst ey
        go_region_held3 (fun w' => w'.cell? ⟨b, 2, none⟩ = some (.int .i64 nc) ∧ w'.cell? ⟨s2, 0, none⟩ = some (.int .i64 ov)) (first | exact ⟨xn, u0⟩ | exact ⟨y2, v0⟩)
          (first
            | (go_at_call 48; refine (AH.out _).mono ?_; rintro e w3 ⟨rfl, hg3⟩; replace hg3 := undrew hg3; have y2 := (hg3.cell (p := ⟨b, 2, none⟩) hb5).trans xn; have v0 := (hg3.cell (p := ⟨s2, 0, none⟩) hu).trans u0; have v1 := (hg3.cell (p := ⟨s2, 1, none⟩) hu).trans u1; have FE := FZ'.out.fresh hg3; have o0 := FE.box; have o1 := FE.ans; have of := FE.fz; clear hg3))
        all_goals
          go_wp2_with fail
          have hqn : ¬ q = w.heap.size + 1 := by omega
          have hnq : ¬ w.heap.size + 1 = q := by omega
          have x2' := (FE.grow.cell (p := ⟨q, 2, none⟩) hq).trans c2.1
          have xf' := (FE.grow.frozen (p := ⟨q, 2, none⟩) hq).trans c2.2
          have hgY : Below w.heap.size w (w3.setCell ⟨w.heap.size + 1, 0, none⟩ (.int .i64 y)) := FE.grow.setCell (by simp) _
          have Z := Lib.hid (H.out _ hgY y)
          refine leaves_cons (f := 46) (args := #[.pointer (some ⟨w.heap.size + 1, 0, none⟩), .pointer (some ⟨w.heap.size, 0, none⟩)]) (by simp) (by simp [go_sem]) ?_
          refine (yields_close _ q w.heap.size (w.heap.size + 1) y (.int .i64 cur) .returning (by go_simp) (by go_simp) (by go_simp) (by go_simp)).mono ?_
          rintro e u' w'' ⟨rfl, rfl, rfl⟩
          exact ⟨.int .i64 y, by simp [results, Try.results17, go_sem, hqn, hnq, o1], rfl, Z.out, (Same.of hgY hO).trans (Same.setCell (p := ⟨q, 2, none⟩) hqo _)⟩
      · have ey : y = x := by simpa [hle] using EY.out
        clear EY
        subst ey
        have hdec : decide (ov ≤ rc) = false := decide_eq_false hle
        go_region_held3 (fun w' => w'.cell? ⟨b, 2, none⟩ = some (.int .i64 nc) ∧ w'.cell? ⟨s2, 0, none⟩ = some (.int .i64 ov)) (first | exact ⟨xn, u0⟩ | exact ⟨y2, v0⟩)
          (first
            | (go_at_call 48; refine (AH.out _).mono ?_; rintro e w3 ⟨rfl, hg3⟩; replace hg3 := undrew hg3; have y2 := (hg3.cell (p := ⟨b, 2, none⟩) hb5).trans xn; have v0 := (hg3.cell (p := ⟨s2, 0, none⟩) hu).trans u0; have FE3 := Lib.hid (FZ'.out.fresh hg3); have d0 := FE3.out.box; clear hg3))
        all_goals
          go_wp2_with (go_at_call 43; refine (S.out _ FE3.out.grow).mono ?_; rintro e w5 ⟨rfl, hg5⟩; have FE := FE3.out.fresh hg5; have o0 := FE.box; have o1 := FE.ans; have of := FE.fz; clear hg5)
          have hqn : ¬ q = w.heap.size + 1 := by omega
          have hnq : ¬ w.heap.size + 1 = q := by omega
          have x2' := (FE.grow.cell (p := ⟨q, 2, none⟩) hq).trans c2.1
          have xf' := (FE.grow.frozen (p := ⟨q, 2, none⟩) hq).trans c2.2
          have hgY : Below w.heap.size w (w5.setCell ⟨w.heap.size + 1, 0, none⟩ (.int .i64 y)) := FE.grow.setCell (by simp) _
          have Z := Lib.hid (H.out _ hgY y)
          refine leaves_cons (f := 46) (args := #[.pointer (some ⟨w.heap.size + 1, 0, none⟩), .pointer (some ⟨w.heap.size, 0, none⟩)]) (by simp) (by simp [go_sem]) ?_
          refine (yields_close _ q w.heap.size (w.heap.size + 1) y (.int .i64 cur) .returning (by go_simp) (by go_simp) (by go_simp) (by go_simp)).mono ?_
          rintro e u' w'' ⟨rfl, rfl, rfl⟩
          exact ⟨.int .i64 y, by simp [results, Try.results17, go_sem, hqn, hnq, o1], rfl, Z.out, (Same.of hgY hO).trans (Same.setCell (p := ⟨q, 2, none⟩) hqo _)⟩
/-- Yield. -/
theorem yields (w : World) (q : Nat) (O : Nat → Prop) (st : St) (g : Int) (h : Qu w q O st) (hO : ∀ k, O k → k < w.heap.size) (ho : Once st.es) (hc : I64 st.cur) (hg : I64 g) (hv : ∀ e ∈ st.es, I64 e.v) :
    Calls Try.prog 17 #[.pointer (some ⟨q, 0, none⟩), .int .i64 g] w (Did (.int .i64 (yielded st g)) { st with cur := yielded st g } q O w) := by
  cases hoo : other st with
  | none =>
    have e : yielded st g = chosen st g := by
      unfold yielded goes
      rw [hoo]
      simp
    rw [e]
    exact yields0 w q O st g h hO ho hc hg hv hoo
  | some o => exact yields1 w q O st g h hO ho hc hg hv o hoo
end Go.Proofs.Ytdigakgfehaabaa.Queue
