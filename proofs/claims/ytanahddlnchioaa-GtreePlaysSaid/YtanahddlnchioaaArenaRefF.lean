/- What the document's Free does. Conditions: none. -/
import Derived.Test.YtanahddlnchioaaArenaRefW
namespace Go.Proofs.Ytanahddlnchioaa.Arena
open Go.ChangeShapes Go.WideShapes Go.ChangeAt Go.RowKit
set_option linter.unusedVariables false
set_option linter.unusedSimpArgs false

theorem box_drew {w : World} {b : Nat} {o : Obj} (h : w.heap[b]? = some o) : w.drew.heap[b]? = some o := h
def IsFreeR (B : Nat) (r : Int) (v1 v2 v3 v4 : Value) (x n : Int) (st : St) (w : World) (e : Ending) (w' : World) : Prop :=
  ∃ u1 u2 u3 u4, e = .returned (.tuple #[.agg #[.int .i64 r, u1, u2, u3, u4], .int .i64 x, .int .i64 n]) ∧ RefAt B u1 u2 u3 u4 st w' ∧ Near [u1, u2, u3, u4] [v1, v2, v3, v4] w.heap.size ∧ Below w.heap.size w w'

set_option maxRecDepth 100000 in
set_option maxHeartbeats 1000000 in
theorem refFree_none (w : World) (B : Nat) (r : Int) (v1 v2 v3 v4 : Value) (st : St) (i g : Int) (h : RefAt B v1 v2 v3 v4 st w) (h1 : st.pl.length ≤ 4096) (hn : st.names i g = false) :
    Calls Try.prog 32 #[.agg #[.int .i64 r, v1, v2, v3, v4], .agg #[.int .i64 i, .int .i64 g]] w (IsFreeR B r v1 v2 v3 v4 0 2 st w) := by
  have C : Hid _ := fun w (h : RefAt B v1 v2 v3 v4 st w) => refNames w B r v1 v2 v3 v4 st i g h h1
  rw [hn] at C
  obtain ⟨p1, q1, e1⟩ := owns_shape h.o1
  obtain ⟨p2, q2, e2⟩ := owns_shape h.o2
  obtain ⟨p3, q3, e3⟩ := owns_shape h.o3
  obtain ⟨p4, q4, e4⟩ := owns_shape h.o4
  subst e1 e2 e3 e4
  go_enter Try.func32, Try.ntmps32
  go_wp2_with (go_at_call 25; refine (C.out _ (h.fresh ((((Below.refl _ w).alloc (Nat.le_refl _) _).alloc (by simp) _).alloc (by simp; omega) _))).mono ?_; rintro e w1 ⟨rfl, hg1⟩; obtain ⟨b1, b2, b3, hg, _⟩ := boxes3 hg1; clear hg1; obtain ⟨k0, k1, k2, k3, k4, _⟩ := five b1; obtain ⟨z0, z1, z2, z3, z4, zz⟩ := five b3)
  refine bodyPost_ret (v := .tuple #[.agg #[.int .i64 r, .slice p1 st.pl.length q1, .slice p2 st.pl.length q2, .slice p3 st.pl.length q3, .slice p4 st.fr.length q4], .int .i64 0, .int .i64 2]) (by simp [results, Try.results32, go_sem, z0, z1, z2, z3, z4]) rfl ?_
  have hE := hg.grown (set5_grown w1 (w.heap.size + 1 + 1) (.int .i64 r) (.slice p1 st.pl.length q1) (.slice p2 st.pl.length q2) (.slice p3 st.pl.length q3) (.slice p4 st.fr.length q4)) hg.size (by intro k hk; simp at hk; omega)
  exact ⟨_, _, _, _, rfl, h.fresh hE, Near.refl _ _, hE⟩

set_option maxRecDepth 100000 in
set_option maxHeartbeats 1000000 in
theorem refFree_some (w : World) (B : Nat) (r : Int) (v1 v2 v3 v4 : Value) (st : St) (k : Nat) (q : Pl) (h : RefAt B v1 v2 v3 v4 st w) (hB : B ≤ w.heap.size) (h1 : st.pl.length ≤ 4096) (h2 : st.fr.length ≤ 4096) (hq : st.pl[k]? = some q) (hqf : q.full = true) (hq1 : -9223372036854775808 ≤ q.gen) (hq2 : q.gen < 9223372036854775807) :
    Calls Try.prog 32 #[.agg #[.int .i64 r, v1, v2, v3, v4], .agg #[.int .i64 k, .int .i64 q.gen]] w (IsFreeR B r v1 v2 v3 v4 q.thing 0 { st with pl := st.pl.set k ⟨0, false, q.gen + 1⟩, fr := st.fr ++ [k] } w) := by
  have hn : st.names k q.gen = true := by simp [St.names, St.at, hq, hqf]
  have C : Hid _ := fun w (h : RefAt B v1 v2 v3 v4 st w) => refNames w B r v1 v2 v3 v4 st k q.gen h h1
  rw [hn] at C
  have hk : k < st.pl.length := (List.getElem?_eq_some_iff.1 hq).1
  have hk1 : (k : Int) < st.pl.length := by omega
  go_enter Try.func32, Try.ntmps32
  go_upto_region 4 with (first
    | (go_at_call 25; refine (C.out _ (h.fresh ((((Below.refl _ w).alloc (Nat.le_refl _) _).alloc (by simp) _).alloc (by simp; omega) _))).mono ?_; rintro e w1 ⟨rfl, hg1⟩; obtain ⟨b1, b2, b3, hg, hlt⟩ := boxes3 hg1; clear hg1; obtain ⟨k0, k1, k2, k3, k4, _⟩ := five b1)
    | (go_at_call 50; refine (copied w1 B r v1 v2 v3 v4 st (h.fresh hg) h1 h2).mono ?_; rintro e w2 ⟨g1, c1, g2, c2, g3, c3, g4, c4, rfl, hR, ⟨d13, d14, d34⟩, hg2⟩))
  have hQ := QX.of (r := r) hR ⟨d13, d14, d34⟩
  have y2 := box_new (o' := .cells #[.int .i64 r, .slice (some ⟨g1, 0, none⟩) st.pl.length c1, .slice (some ⟨g2, 0, none⟩) st.pl.length c2, .slice (some ⟨g3, 0, none⟩) st.pl.length c3, .slice (some ⟨g4, 0, none⟩) st.fr.length c4] 29) ((hg2.block _ (lt_of b2)).trans b2)
  have y3 := box_new (o' := .cells #[.int .i64 r, .slice (some ⟨g1, 0, none⟩) st.pl.length c1, .slice (some ⟨g2, 0, none⟩) st.pl.length c2, .slice (some ⟨g3, 0, none⟩) st.pl.length c3, .slice (some ⟨g4, 0, none⟩) st.fr.length c4] 29) ((hg2.block _ (lt_of b3)).trans b3)
  have hgW := (fresh_trans hg hg2).alloc (fresh_trans hg hg2).size (.cells #[.int .i64 r, .slice (some ⟨g1, 0, none⟩) st.pl.length c1, .slice (some ⟨g2, 0, none⟩) st.pl.length c2, .slice (some ⟨g3, 0, none⟩) st.pl.length c3, .slice (some ⟨g4, 0, none⟩) st.fr.length c4] 29)
  have hBg1 := (hR.o1.lt g1 rfl).1
  have hBg2 := (hR.o2.lt g2 rfl).1
  have hBg3 := (hR.o3.lt g3 rfl).1
  have hBg4 := (hR.o4.lt g4 rfl).1
  have hg2s := hg2.size
  clear hR b1 b2 b3 hg2
  generalize w2.alloc (.cells #[.int .i64 r, .slice (some ⟨g1, 0, none⟩) st.pl.length c1, .slice (some ⟨g2, 0, none⟩) st.pl.length c2, .slice (some ⟨g3, 0, none⟩) st.pl.length c3, .slice (some ⟨g4, 0, none⟩) st.fr.length c4] 29) = W at *
  have hbq : w1.heap.size ≤ w2.heap.size := hg2s
  generalize w2.heap.size = bq at *
  obtain ⟨i0, hi, hz0, hz1, hz2⟩ := info_parts infoI
  -- x := q.Vals[h.Index]; q.Used[h.Index] = false
  obtain ⟨m0, m1, m2, m3, m4, mz⟩ := five hQ.box
  obtain ⟨s0, s1, _⟩ := pair y2
  obtain ⟨_, _, ev, t1, _⟩ := row_cell hQ.o1 (cV_at hq)
  cases ev
  obtain ⟨_, _, ev, t2, t3, _⟩ := row_cell hQ.o2 (cU_at hq)
  cases ev
  go_upto_region 6 with fail
  replace hQ := hQ.set2 k (.bool false)
  replace y2 := box_kept y2 (one_grown W g2 k (.bool false)) (by simp; omega)
  replace y3 := box_kept y3 (one_grown W g2 k (.bool false)) (by simp; omega)
  replace hgW := hgW.setCell (p := ⟨g2, k, none⟩) (by show w.heap.size ≤ g2; omega) (.bool false)
  clear m0 m1 m2 m3 m4 mz s0 s1 t1 t2 t3
  generalize W.setCell ⟨g2, k, none⟩ (.bool false) = W2 at *
  -- q.Vals[h.Index] = 0
  obtain ⟨m0, m1, m2, m3, m4, mz⟩ := five hQ.box
  obtain ⟨s0, s1, _⟩ := pair y2
  obtain ⟨_, _, ev, t1, t2, _⟩ := row_cell hQ.o1 (cV_at hq)
  cases ev
  go_upto_region 7 with fail
  replace hQ := hQ.set1 k (.int .i64 0)
  replace y2 := box_kept y2 (one_grown W2 g1 k (.int .i64 0)) (by simp; omega)
  replace y3 := box_kept y3 (one_grown W2 g1 k (.int .i64 0)) (by simp; omega)
  replace hgW := hgW.setCell (p := ⟨g1, k, none⟩) (by show w.heap.size ≤ g1; omega) (.int .i64 0)
  clear m0 m1 m2 m3 m4 mz s0 s1 t1 t2
  generalize W2.setCell ⟨g1, k, none⟩ (.int .i64 0) = W3 at *
  -- q.Gens[h.Index] = q.Gens[h.Index] + 1
  obtain ⟨m0, m1, m2, m3, m4, mz⟩ := five hQ.box
  obtain ⟨s0, s1, _⟩ := pair y2
  obtain ⟨_, _, ev, t1, t2, _⟩ := row_cell hQ.o3 (cG_at hq)
  cases ev
  go_region
  replace hQ := (hQ.set3 k (.int .i64 (q.gen + 1))).drew
  replace y2 := box_drew (box_kept y2 (one_grown W3 g3 k (.int .i64 (q.gen + 1))) (by simp; omega))
  replace y3 := box_drew (box_kept y3 (one_grown W3 g3 k (.int .i64 (q.gen + 1))) (by simp; omega))
  replace hgW := (hgW.setCell (p := ⟨g3, k, none⟩) (by show w.heap.size ≤ g3; omega) (.int .i64 (q.gen + 1))).drew
  clear m0 m1 m2 m3 m4 mz s0 s1 t1 t2
  generalize (W3.setCell ⟨g3, k, none⟩ (.int .i64 (q.gen + 1))).drew = W4 at *
  -- q.Freed = append(q.Freed, h.Index)
  obtain ⟨m0, m1, m2, m3, m4, mz⟩ := five hQ.box
  obtain ⟨s0, s1, _⟩ := pair y2
  have hz4 : w1.heap.size ≤ W4.heap.size := by have := (hQ.o1.lt g1 rfl).2; omega
  go_upto_region 9 with (at_builtin; refine wpList_append_lies _ rfl (.tmp 45) (.tmp 48) 26 rfl w1.heap.size 3 i0 _ 1 8 Try.underlying26 hi hz0 hz1 hz2 rfl (by decide) _ _ _ rfl (hQ.o4.alloc _) ⟨W4.heap.size, 0, none⟩ 1 1 [.int .i64 (k : Int)] rfl rfl (World.news_of_block (heap_alloc_new W4 _)) (by simp [Value.oneCell']) (by decide) (by simp only [maxLen]; omega) (by omega) (by simp; omega) (W4.heap.size + 1) (by simp) ?_; intro g5 c5 w5 hown5 hgrow5 hat5 hlt5; obtain ⟨j0, j1, j2, j3, j4, jz⟩ := five (hQ.mid4 hgrow5))
  have hgrow5 : (W4.alloc (.cells #[.int .i64 (k : Int)] 3)).grownBy w5 (some g4) := hgrow5
  have hQ5 := hQ.app4 hgrow5 hown5 (own_none hat5)
  have y3a := box_kept y3 (grown_alloc hgrow5) (by simp [Value.ownBlock]; omega)
  have hB5 := (own_none (n := st.fr.length + 1) (c := c5) hat5 g5 rfl)
  have y3b := box_kept y3a (one_grown w5 bq 4 (.slice (some ⟨g5, 0, none⟩) (st.fr.length + 1) c5)) (by simp; omega)
  have hgW5 := (hgW.grown (grown_alloc hgrow5) hgW.size (by intro j hj; simp [Value.ownBlock] at hj; omega)).setCell (p := ⟨bq, 4, none⟩) (by show w.heap.size ≤ bq; omega) (.slice (some ⟨g5, 0, none⟩) (st.fr.length + 1) c5)
  clear m0 m1 m2 m3 m4 mz s0 s1 hQ y2 y3 y3a hgW
  generalize w5.setCell ⟨bq, 4, none⟩ (.slice (some ⟨g5, 0, none⟩) (st.fr.length + 1) c5) = W5 at *
  obtain ⟨m0, m1, m2, m3, m4, mz⟩ := five hQ5.box
  obtain ⟨z0, z1, z2, z3, z4, zz⟩ := five y3b
  go_wp2
  refine bodyPost_ret (v := .tuple #[.agg #[.int .i64 r, .slice (some ⟨g1, 0, none⟩) st.pl.length c1, .slice (some ⟨g2, 0, none⟩) st.pl.length c2, .slice (some ⟨g3, 0, none⟩) st.pl.length c3, .slice (some ⟨g5, 0, none⟩) (st.fr.length + 1) c5], .int .i64 q.thing, .int .i64 0]) (by simp [results, Try.results32, go_sem, z0, z1, z2, z3, z4]) rfl ?_
  have hS := set5_grown W5 (w.heap.size + 1 + 1) (.int .i64 r) (.slice (some ⟨g1, 0, none⟩) st.pl.length c1) (.slice (some ⟨g2, 0, none⟩) st.pl.length c2) (.slice (some ⟨g3, 0, none⟩) st.pl.length c3) (.slice (some ⟨g5, 0, none⟩) (st.fr.length + 1) c5)
  have hE := hgW5.grown hS hgW5.size (by intro j hj; simp at hj; omega)
  have hF := hQ5.ref (st := { st with pl := st.pl.set k ⟨0, false, q.gen + 1⟩, fr := st.fr ++ [k] }) hS (by omega) (by simp) (by simp) (by simp) (by simp) (cV_set _ _ _) (cU_set _ _ _) (cG_set _ _ _) (cellsI_append _ _)
  exact ⟨_, _, _, _, rfl, hF.lower (by omega), Near.new hF _ (by omega), hE⟩
end Go.Proofs.Ytanahddlnchioaa.Arena
