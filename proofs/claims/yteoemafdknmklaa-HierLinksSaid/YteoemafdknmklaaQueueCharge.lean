/- What Charge of package runq does. Conditions: each number is one of its kind. -/
import Derived.Test.YteoemafdknmklaaQueueLoad
namespace Go.Proofs.Yteoemafdknmklaa.Queue
open Go.ChangeShapes Go.WideShapes Go.ChangeAt Go.RowKit Tree
set_option linter.unusedVariables false
set_option linter.unusedSimpArgs false
set_option maxRecDepth 100000

/-- A queue whose numbers are of their kinds, each entity once. -/
structure Sound (st : St) : Prop where
  once : Once st.es
  each : ∀ e ∈ st.es, 0 ≤ e.id ∧ e.id ≤ 9223372036854775807 ∧ 2 ≤ e.wt ∧ e.wt ≤ 262144 ∧ 0 ≤ e.rm ∧ e.rm < e.wt ∧ I64 e.v
  few : st.es.length ≤ 128
  cur : I64 st.cur
  min : I64 st.min

theorem Qu.away {w : World} {q : Nat} {O : Nat → Prop} {st : St} (h : Qu w q O st) {p : Addr} (hp : O p.block) (u : Value) : Qu (w.setCell p u) q O st := by
  obtain ⟨m, t, T, h⟩ := h
  refine ⟨m, t, T, h.blk.on (Below.heap_setCell _ _ _ _ (fun e => h.oq (e ▸ hp))), h.map.on (Below.heap_setCell _ _ _ _ (fun e => h.om (e ▸ hp))), kept_on h.kept fun b hb => Below.heap_setCell _ _ _ _ (fun e => h.kept.apart b hb (.inl (e ▸ hp))), h.keys, h.oq, h.om, h.qm⟩
theorem Qu.setFlag {w : World} {q : Nat} {O : Nat → Prop} {st : St} (h : Qu w q O st) (x : Bool) : Qu (w.setCell ⟨q, 4, none⟩ (.bool x)) q O { st with flag := x } := by
  obtain ⟨m, t, T, h⟩ := h
  exact ⟨m, t, T, h.blk.setFlag x, h.map.on (Below.heap_setCell _ _ _ _ (fun e => h.qm e.symm)), kept_on h.kept fun b hb => Below.heap_setCell _ _ _ _ (fun e => h.kept.apart b hb (.inr (.inl e))), h.keys, h.oq, h.om, h.qm⟩
theorem Qu.cells {w : World} {q : Nat} {O : Nat → Prop} {st : St} (h : Qu w q O st) : w.cell? ⟨q, 2, none⟩ = some (.int .i64 st.cur) ∧ w.cell? ⟨q, 3, none⟩ = some (.int .i64 st.min) ∧ w.cell? ⟨q, 4, none⟩ = some (.bool st.flag) ∧ (∀ j, w.frozen? ⟨q, j, none⟩ = false) := by
  obtain ⟨m, t, T, h⟩ := h
  obtain ⟨c0, c1, c2, c3, c4, fz⟩ := h.blk.cells
  exact ⟨c2, c3, c4, fz⟩

theorem size_setCell (w : World) (a : Addr) (v : Value) : (w.setCell a v).heap.size = w.heap.size := by simp [World.setCell]
def errCharge (st : St) (ns : Int) : Int := if named st.es st.cur then Vrun.cerr (find st.es st.cur).wt (find st.es st.cur).rm ns else 7
/-- An entity that was served. -/
def served (e : Ent) (ns : Int) : Ent := { e with v := Fix.ends (e.v + Vrun.cval e.wt e.rm ns), rm := Vrun.crem e.wt e.rm ns }
def over (e : Ent) (ns : Int) : Bool := !Fix.fits (e.v + Vrun.cval e.wt e.rm ns)
def chargeS (st : St) (ns : Int) : St := if errCharge st ns = 0 then rise { st with es := insE (served (find st.es st.cur) ns) (drop st.es st.cur), flag := st.flag || over (find st.es st.cur) ns } else st

set_option maxHeartbeats 4000000 in
theorem charges_err (w : World) (q : Nat) (O : Nat → Prop) (st : St) (ns : Int) (h : Qu w q O st) (hO : ∀ k, O k → k < w.heap.size) (hs : Sound st) (hn : 0 ≤ ns) (hz : errCharge st ns ≠ 0) :
    Calls Try.prog 38 #[.pointer (some ⟨q, 0, none⟩), .int .u64 ns] w (Did (.int .i64 (errCharge st ns)) st q O w) := by
  have H := Lib.hid (fun w' (g : Below w.heap.size w w') => h.fresh g)
  have M := Lib.hid (made w q O st h)
  have F := Lib.hid (finds w q O st st.cur h hs.cur)
  obtain ⟨c2, c3, c4, fz⟩ := h.cells
  unfold errCharge at hz ⊢
  cases hnm : named st.es st.cur
  · simp only [hnm, Bool.false_eq_true, if_false] at F ⊢
    generalize find st.es st.cur = fe at *
    obtain ⟨fa, fb, fc, fd⟩ := fe
    simp only [Ent.val] at F
    generalize st.cur = cur at *
    clear h hz
    go_enter_defers Try.func38, Try.ntmps38
    go_wp2_with (first
      | (go_at_call 44; refine (M.out).mono ?_; rintro e w1 ⟨rfl, rfl⟩)
      | (go_at_call 51; refine (F.out).mono ?_; rintro e w1 ⟨rfl, hg1⟩))
    have hg2 := fresh_trans hg1 ((Below.refl _ w1).alloc (Nat.le_refl _) (.cells #[.int .i64 fa, .int .u64 fb, .int .i64 fc, .int .u64 fd] 30))
    exact ⟨_, results_tmp rfl _ _ _, rfl, H.out _ hg2, Same.of hg2 hO⟩
  · simp only [hnm, if_true] at F hz ⊢
    obtain ⟨f1, f2⟩ := find_of hnm
    have he := hs.each _ f1
    have C := Lib.hid (fun w => Vrun.charge (find st.es st.cur).wt (find st.es st.cur).rm ns w (by omega) (by omega) hn)
    generalize find st.es st.cur = fe at *
    have h2 : (Vrun.cerr fe.wt fe.rm ns == 0) = false := by simpa using hz
    generalize Vrun.cval fe.wt fe.rm ns = cv at *
    generalize Vrun.crem fe.wt fe.rm ns = cr at *
    generalize Vrun.cerr fe.wt fe.rm ns = ce at *
    obtain ⟨fa, fb, fc, fd⟩ := fe
    simp only [Ent.val] at F C
    generalize st.cur = cur at *
    clear h hz he f1 f2 hs
    go_enter_defers Try.func38, Try.ntmps38
    go_wp2_with (first
      | (go_at_call 44; refine (M.out).mono ?_; rintro e w1 ⟨rfl, rfl⟩)
      | (go_at_call 51; refine (F.out).mono ?_; rintro e w1 ⟨rfl, hg1⟩)
      | (go_at_call 58; refine (C.out _).mono ?_; rintro e w2 ⟨rfl, hg2⟩))
    have hg3 := fresh_trans (fresh_trans hg1 ((Below.refl _ w1).alloc (Nat.le_refl _) (.cells #[.int .i64 fa, .int .u64 fb, .int .i64 fc, .int .u64 fd] 30))) hg2
    exact ⟨_, results_tmp rfl _ _ _, rfl, H.out _ hg3, Same.of hg3 hO⟩
set_option maxHeartbeats 4000000 in
theorem charges_ok (w : World) (q : Nat) (O : Nat → Prop) (st : St) (ns : Int) (h : Qu w q O st) (hO : ∀ k, O k → k < w.heap.size) (hs : Sound st) (hn : 0 ≤ ns) (hz : errCharge st ns = 0) :
    Calls Try.prog 38 #[.pointer (some ⟨q, 0, none⟩), .int .u64 ns] w (Did (.int .i64 0) (chargeS st ns) q O w) := by
  have hnm : named st.es st.cur = true := by
    unfold errCharge at hz
    cases hh : named st.es st.cur
    · rw [hh] at hz; simp at hz
    · rfl
  have hce : Vrun.cerr (find st.es st.cur).wt (find st.es st.cur).rm ns = 0 := by unfold errCharge at hz; rw [hnm] at hz; simpa using hz
  obtain ⟨f1, f2⟩ := find_of hnm
  have he := hs.each _ f1
  have M := Lib.hid (made w q O st h)
  have F := Lib.hid (finds w q O st st.cur h hs.cur)
  rw [hnm] at F
  have C := Lib.hid (fun w => Vrun.charge (find st.es st.cur).wt (find st.es st.cur).rm ns w (by omega) (by omega) hn)
  rw [hce] at C
  have hcv : I64 (Vrun.cval (find st.es st.cur).wt (find st.es st.cur).rm ns) := by
    have hns : ns ≤ 1000000000 := by
      unfold Vrun.cerr at hce
      split at hce
      · cases hce
      · split at hce
        · cases hce
        · split at hce
          · cases hce
          · omega
    rw [Vrun.cval_in (by omega) (by omega) (by omega) hns]
    have := Vrun.quot_bd (x := (find st.es st.cur).wt) (r := (find st.es st.cur).rm) (t := ns) (by omega) (by omega) (by omega) (by omega) hn hns
    unfold I64
    omega
  have hid : I64 (find st.es st.cur).id := by unfold I64; omega
  have DE : Hid (∀ w1 w2, Below w.heap.size w w1 → Below w1.heap.size w1 w2 → w1.heap.size < w2.heap.size → Calls Try.prog 52 #[.pointer (some ⟨q, 0, none⟩), (find st.es st.cur).val] w2 (Goes { st with es := drop st.es st.cur } q (fun k => O k ∨ k = w1.heap.size) w2)) := by
    intro w1 w2 g1 g2 hlt
    have h1 : Qu w1 q (fun k => O k ∨ k = w1.heap.size) st := (h.fresh g1).other (fun k hk => hk.imp id (fun e => by omega))
    have := dels w2 q (fun k => O k ∨ k = w1.heap.size) st (find st.es st.cur) (h1.fresh g2) (by rintro k (hk | rfl); exact Nat.lt_of_lt_of_le (hO k hk) (Nat.le_trans g1.size g2.size); exact hlt) hid hs.once f1 (by have := hs.few; omega)
    rw [f2] at this
    exact this
  have AD := Lib.hid (fun w => Fix.add (find st.es st.cur).v (Vrun.cval (find st.es st.cur).wt (find st.es st.cur).rm ns) w he.2.2.2.2.2.2 hcv)
  have SA := Lib.hid (fun w => Fix.sat (find st.es st.cur).v (Vrun.cval (find st.es st.cur).wt (find st.es st.cur).rm ns) w he.2.2.2.2.2.2 hcv)
  have LA := Lib.hid (fun w' b (h' : Qu w' q (fun k => O k ∨ k = b) { st with es := drop st.es st.cur, flag := st.flag || over (find st.es st.cur) ns }) hO' => lays w' q (fun k => O k ∨ k = b) _ (served (find st.es st.cur) ns) h' hO' hid (by show named (drop st.es st.cur) (find st.es st.cur).id = false; rw [named_drop, f2]; simp) (by
    have : (drop st.es st.cur).length ≤ st.es.length := List.length_filter_le _ _
    have := hs.few
    show (drop st.es st.cur).length ≤ 500
    omega))
  unfold chargeS
  rw [if_pos hz]
  obtain ⟨c2, c3, c4, fz⟩ := h.cells
  have hq := h.lt
  simp only [served] at *
  unfold over at *
  cases hf : Fix.fits ((find st.es st.cur).v + Vrun.cval (find st.es st.cur).wt (find st.es st.cur).rm ns)
  all_goals
    rw [hf] at AD LA
    simp only [Bool.not_true, Bool.not_false, Bool.or_true, Bool.or_false] at LA ⊢
    clear h hz hnm hce f1 f2 he hcv hid hf hs
  · generalize find st.es st.cur = fe at *
    generalize Fix.ends (fe.v + Vrun.cval fe.wt fe.rm ns) = nv at *
    generalize Fix.only (fe.v + Vrun.cval fe.wt fe.rm ns) = ov at *
    generalize Vrun.cval fe.wt fe.rm ns = cv at *
    generalize Vrun.crem fe.wt fe.rm ns = cr at *
    obtain ⟨fa, fb, fc, fd⟩ := fe
    simp only [Ent.val] at *
    generalize hcu : st.cur = cur at *
    · go_enter_defers Try.func38, Try.ntmps38
      go_wp2_with (first
        | (go_at_call 44; refine (M.out).mono ?_; rintro e w1 ⟨rfl, rfl⟩)
        | (go_at_call 51; refine (F.out).mono ?_; rintro e w1 ⟨rfl, hg1⟩)
        | (go_at_call 58; refine (C.out _).mono ?_; rintro e w2 ⟨rfl, hg2⟩; obtain ⟨n0, n1, n2, n3, nz, nn⟩ := new_four hg2; have hgW := fresh_trans ((Below.refl _ w1).alloc (Nat.le_refl _) _) hg2; clear hg2 nz)
        | (go_at_call 52; refine (DE.out w1 w2 hg1 hgW (lt_of nn)).mono ?_; rintro e w3 ⟨rfl, hq3, hs3⟩; have nn3 := (hs3.block w1.heap.size (.inr rfl)).trans nn; have m0 := cell_of_row w3 _ 0 _ _ _ nn3; have m1 := cell_of_row w3 _ 1 _ _ _ nn3; have m2 := cell_of_row w3 _ 2 _ _ _ nn3; have m3 := cell_of_row w3 _ 3 _ _ _ nn3; have hx3 := lt_of nn3; obtain ⟨p2, p3, p4, pf⟩ := hq3.cells; have hqx : ¬ q = w1.heap.size := (by have := hg1.size; omega); have hxq : ¬ w1.heap.size = q := (by omega); have Q3 := Lib.hid hq3; have S3 := Lib.hid hs3; clear hq3 hs3)
        | (go_at_call 59; refine (AD.out _).mono ?_; rintro e w4 ⟨rfl, rfl⟩)
        | (go_at_call 60; refine (SA.out _).mono ?_; rintro e w5 ⟨rfl, hg5⟩; have hx4 : w1.heap.size < (w3.setCell ⟨q, 4, none⟩ (.bool true)).heap.size := (by simpa only [size_setCell] using hx3); have nn4 : (w3.setCell ⟨q, 4, none⟩ (.bool true)).heap[w1.heap.size]? = _ := (Below.heap_setCell _ _ _ _ (by simpa using hxq)).trans nn3; have y0 := (hg5.cell (p := ⟨w1.heap.size, 0, none⟩) hx4).trans (cell_of_row _ _ 0 _ _ _ nn4); have y1 := (hg5.cell (p := ⟨w1.heap.size, 1, none⟩) hx4).trans (cell_of_row _ _ 1 _ _ _ nn4); have y2 := (hg5.cell (p := ⟨w1.heap.size, 2, none⟩) hx4).trans (cell_of_row _ _ 2 _ _ _ nn4); have y3 := (hg5.cell (p := ⟨w1.heap.size, 3, none⟩) hx4).trans (cell_of_row _ _ 3 _ _ _ nn4); have yf : ∀ j, w5.frozen? ⟨w1.heap.size, j, none⟩ = false := fun j => (hg5.frozen (p := ⟨w1.heap.size, j, none⟩) hx4).trans (frozen_of_row _ _ j _ _ nn4))
        | (go_at_call 47; refine (LA.out _ _ ((((Q3.out.setFlag true).fresh hg5).away (p := ⟨w1.heap.size, 2, none⟩) (.inr rfl) _).away (p := ⟨w1.heap.size, 3, none⟩) (.inr rfl) _) ?_).mono ?_; (intro k hk; have k1 := hg5.size; simp only [size_setCell] at k1 ⊢; rcases hk with hk | rfl; (have k2 := hO k hk; have k3 := hg1.size; omega); omega); rintro e w7 ⟨rfl, hq7, hs7⟩; have Q7 := Lib.hid hq7; have S7 := Lib.hid hs7; clear hq7 hs7))
      have ne1 : ¬ O w1.heap.size := fun e => by have := hO _ e; have := hg1.size; omega
      have nq : ¬ O q := fun e => Q3.out.out (.inl e)
      have hO3 : ∀ k, O k → k < w3.heap.size := fun k hk => Nat.lt_of_lt_of_le (hO k hk) (Nat.le_trans hg1.size (Nat.le_trans hgW.size S3.out.size))
      have SS : Same O w2 w7 := (((((S3.out.mono (fun k hk => .inl hk)).trans (Same.setCell (p := ⟨q, 4, none⟩) nq _)).trans (Same.of hg5 (fun k hk => by rw [size_setCell]; exact hO3 k hk))).trans (Same.setCell (p := ⟨w1.heap.size, 2, none⟩) ne1 _)).trans (Same.setCell (p := ⟨w1.heap.size, 3, none⟩) ne1 _)).trans (S7.out.mono (fun k hk => .inl hk))
      have hsz : w.heap.size ≤ w7.heap.size := Nat.le_trans hg1.size (Nat.le_trans hgW.size SS.size)
      refine leaves_cons (f := 46) (args := #[.pointer (some ⟨q, 0, none⟩)]) (by simp) (by simp [go_sem]) ?_
      refine (raises w7 q (fun k => O k ∨ k = w1.heap.size) _ .returning Q7.out ?_).mono ?_
      · rintro k (hk | rfl)
        · exact Nat.lt_of_lt_of_le (hO k hk) hsz
        · exact Nat.lt_of_lt_of_le (lt_of nn) SS.size
      · rintro e u' w8 ⟨rfl, rfl, hq8, hs8⟩
        exact ⟨_, results_tmp rfl _ _ _, rfl, hq8.other (fun k hk => .inl (.inl hk)), ((Same.of (fresh_trans hg1 hgW) hO).trans SS).trans (hs8.mono (fun k hk => .inl hk))⟩
  · generalize find st.es st.cur = fe at *
    generalize Fix.ends (fe.v + Vrun.cval fe.wt fe.rm ns) = nv at *
    generalize Fix.only (fe.v + Vrun.cval fe.wt fe.rm ns) = ov at *
    generalize Vrun.cval fe.wt fe.rm ns = cv at *
    generalize Vrun.crem fe.wt fe.rm ns = cr at *
    obtain ⟨fa, fb, fc, fd⟩ := fe
    simp only [Ent.val] at *
    generalize hcu : st.cur = cur at *
    · go_enter_defers Try.func38, Try.ntmps38
      go_wp2_with (first
        | (go_at_call 44; refine (M.out).mono ?_; rintro e w1 ⟨rfl, rfl⟩)
        | (go_at_call 51; refine (F.out).mono ?_; rintro e w1 ⟨rfl, hg1⟩)
        | (go_at_call 58; refine (C.out _).mono ?_; rintro e w2 ⟨rfl, hg2⟩; obtain ⟨n0, n1, n2, n3, nz, nn⟩ := new_four hg2; have hgW := fresh_trans ((Below.refl _ w1).alloc (Nat.le_refl _) _) hg2; clear hg2 nz)
        | (go_at_call 52; refine (DE.out w1 w2 hg1 hgW (lt_of nn)).mono ?_; rintro e w3 ⟨rfl, hq3, hs3⟩; have nn3 := (hs3.block w1.heap.size (.inr rfl)).trans nn; have m0 := cell_of_row w3 _ 0 _ _ _ nn3; have m1 := cell_of_row w3 _ 1 _ _ _ nn3; have m2 := cell_of_row w3 _ 2 _ _ _ nn3; have m3 := cell_of_row w3 _ 3 _ _ _ nn3; have hx3 := lt_of nn3; obtain ⟨p2, p3, p4, pf⟩ := hq3.cells; have hqx : ¬ q = w1.heap.size := (by have := hg1.size; omega); have hxq : ¬ w1.heap.size = q := (by omega); have Q3 := Lib.hid hq3; have S3 := Lib.hid hs3; clear hq3 hs3)
        | (go_at_call 59; refine (AD.out _).mono ?_; rintro e w4 ⟨rfl, rfl⟩)
        | (go_at_call 60; refine (SA.out _).mono ?_; rintro e w5 ⟨rfl, hg5⟩; have y0 := (hg5.cell (p := ⟨w1.heap.size, 0, none⟩) hx3).trans m0; have y1 := (hg5.cell (p := ⟨w1.heap.size, 1, none⟩) hx3).trans m1; have y2 := (hg5.cell (p := ⟨w1.heap.size, 2, none⟩) hx3).trans m2; have y3 := (hg5.cell (p := ⟨w1.heap.size, 3, none⟩) hx3).trans m3; have yf : ∀ j, w5.frozen? ⟨w1.heap.size, j, none⟩ = false := fun j => (hg5.frozen (p := ⟨w1.heap.size, j, none⟩) hx3).trans (frozen_of_row w3 _ j _ _ nn3))
        | (go_at_call 47; refine (LA.out _ _ (((Q3.out.fresh hg5).away (p := ⟨w1.heap.size, 2, none⟩) (.inr rfl) _).away (p := ⟨w1.heap.size, 3, none⟩) (.inr rfl) _) ?_).mono ?_; (intro k hk; have k1 := hg5.size; simp only [size_setCell] at k1 ⊢; rcases hk with hk | rfl; (have k2 := hO k hk; have k3 := hg1.size; omega); omega); rintro e w7 ⟨rfl, hq7, hs7⟩; have Q7 := Lib.hid hq7; have S7 := Lib.hid hs7; clear hq7 hs7))
      have ne1 : ¬ O w1.heap.size := fun e => by have := hO _ e; have := hg1.size; omega
      have hO3 : ∀ k, O k → k < w3.heap.size := fun k hk => Nat.lt_of_lt_of_le (hO k hk) (Nat.le_trans hg1.size (Nat.le_trans hgW.size S3.out.size))
      have SS : Same O w2 w7 := ((((S3.out.mono (fun k hk => .inl hk)).trans (Same.of hg5 hO3)).trans (Same.setCell (p := ⟨w1.heap.size, 2, none⟩) ne1 _)).trans (Same.setCell (p := ⟨w1.heap.size, 3, none⟩) ne1 _)).trans (S7.out.mono (fun k hk => .inl hk))
      have hsz : w.heap.size ≤ w7.heap.size := Nat.le_trans hg1.size (Nat.le_trans hgW.size SS.size)
      refine leaves_cons (f := 46) (args := #[.pointer (some ⟨q, 0, none⟩)]) (by simp) (by simp [go_sem]) ?_
      refine (raises w7 q (fun k => O k ∨ k = w1.heap.size) _ .returning Q7.out ?_).mono ?_
      · rintro k (hk | rfl)
        · exact Nat.lt_of_lt_of_le (hO k hk) hsz
        · exact Nat.lt_of_lt_of_le (lt_of nn) SS.size
      · rintro e u' w8 ⟨rfl, rfl, hq8, hs8⟩
        exact ⟨_, results_tmp rfl _ _ _, rfl, hq8.other (fun k hk => .inl (.inl hk)), ((Same.of (fresh_trans hg1 hgW) hO).trans SS).trans (hs8.mono (fun k hk => .inl hk))⟩
theorem charges (w : World) (q : Nat) (O : Nat → Prop) (st : St) (ns : Int) (h : Qu w q O st) (hO : ∀ k, O k → k < w.heap.size) (hs : Sound st) (hn : 0 ≤ ns) :
    Calls Try.prog 38 #[.pointer (some ⟨q, 0, none⟩), .int .u64 ns] w (Did (.int .i64 (errCharge st ns)) (chargeS st ns) q O w) := by
  by_cases hz : errCharge st ns = 0
  · rw [hz]; exact charges_ok w q O st ns h hO hs hn hz
  · rw [show chargeS st ns = st by unfold chargeS; rw [if_neg hz]]; exact charges_err w q O st ns h hO hs hn hz
end Go.Proofs.Yteoemafdknmklaa.Queue
