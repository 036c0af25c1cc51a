/- What the document's Put does with a place that was never laid into. Conditions: none. -/
import Derived.Test.YtanahddlnchioaaArenaRefP
namespace Go.Proofs.Ytanahddlnchioaa.Arena
open Go.ChangeShapes Go.WideShapes Go.ChangeAt Go.RowKit
set_option linter.unusedVariables false
set_option linter.unusedSimpArgs false

set_option maxRecDepth 100000 in
set_option maxHeartbeats 1000000 in
theorem refPut_new (w : World) (B : Nat) (v1 v2 v3 v4 : Value) (st : St) (x : Int) (h : RefAt B v1 v2 v3 v4 st w) (hB : B ≤ w.heap.size) (h1 : st.pl.length ≤ 4096) (h2 : st.fr.length ≤ 4096) (hf : st.fr = []) (hl : (st.pl.length : Int) < st.room) :
    Calls Try.prog 23 #[.agg #[.int .i64 st.room, v1, v2, v3, v4], .int .i64 x] w (IsPutR B st.room v1 v2 v3 v4 st.pl.length 0 0 ⟨st.room, st.pl ++ [⟨x, true, 0⟩], []⟩ w) := by
  have HF : Hid _ := hf
  clear hf
  have hl2 : decide (st.room ≤ (st.pl.length : Int)) = false := by simp; omega
  have hl3 : ¬ st.room ≤ (st.pl.length : Int) := by omega
  have hlen4 : st.fr.length ≤ 4096 := h2
  obtain ⟨p1, q1, e1⟩ := owns_shape h.o1
  obtain ⟨p4, q4, e4⟩ := owns_shape h.o4
  rw [show st.fr.length = 0 by simp [HF.out]] at e4
  subst e1 e4
  obtain ⟨i0, hi, hz0, hz1, hz2⟩ := info_parts infoI
  obtain ⟨j0, ji, jz0, jz1, jz2⟩ := info_parts infoB
  go_enter Try.func23, Try.ntmps23
  go_upto_region 5 with (go_at_call 50; refine (copied _ B st.room _ v2 v3 _ st (h.fresh (alloc3 _ _ _ _)) h1 h2).mono ?_; rintro e w2 ⟨g1, c1, g2, c2, g3, c3, g4, c4, rfl, hR, dd, hg2⟩; obtain ⟨b1, b2, b3, hg, hlt⟩ := boxes3 hg2; simp only [World.size_alloc] at hR; have hg2s := hg2.size; simp only [World.size_alloc] at hg2s; clear hg2)
  have hQ := QX.of (r := st.room) hR dd
  have y2 := box_new (o' := .cells #[.int .i64 st.room, .slice (some ⟨g1, 0, none⟩) st.pl.length c1, .slice (some ⟨g2, 0, none⟩) st.pl.length c2, .slice (some ⟨g3, 0, none⟩) st.pl.length c3, .slice (some ⟨g4, 0, none⟩) st.fr.length c4] 29) b2
  have y3 := box_new (o' := .cells #[.int .i64 st.room, .slice (some ⟨g1, 0, none⟩) st.pl.length c1, .slice (some ⟨g2, 0, none⟩) st.pl.length c2, .slice (some ⟨g3, 0, none⟩) st.pl.length c3, .slice (some ⟨g4, 0, none⟩) st.fr.length c4] 29) b3
  have hgW := hg.alloc hg.size (.cells #[.int .i64 st.room, .slice (some ⟨g1, 0, none⟩) st.pl.length c1, .slice (some ⟨g2, 0, none⟩) st.pl.length c2, .slice (some ⟨g3, 0, none⟩) st.pl.length c3, .slice (some ⟨g4, 0, none⟩) st.fr.length c4] 29)
  have hBg1 := (hR.o1.lt g1 rfl).1
  have hBg2 := (hR.o2.lt g2 rfl).1
  have hBg3 := (hR.o3.lt g3 rfl).1
  have hBg4 := (hR.o4.lt g4 rfl).1
  have hcap4 : st.fr.length ≤ c4 := owns_cap hR.o4
  have hBq : w.heap.size + 1 + 1 + 1 ≤ w2.heap.size := by omega
  clear hR b1 b2 b3
  generalize w2.alloc (.cells #[.int .i64 st.room, .slice (some ⟨g1, 0, none⟩) st.pl.length c1, .slice (some ⟨g2, 0, none⟩) st.pl.length c2, .slice (some ⟨g3, 0, none⟩) st.pl.length c3, .slice (some ⟨g4, 0, none⟩) st.fr.length c4] 29) = W at *
  generalize w2.heap.size = bq at *
  obtain ⟨m0, m1, m2, m3, m4, mz⟩ := five hQ.box
  have hzz : w.heap.size + 1 + 1 + 1 ≤ W.heap.size := by have := (hQ.o4.lt g4 rfl).2; omega
  go_upto_region 10 with (at_builtin; refine wpList_append_lies _ rfl (.tmp 45) (.tmp 46) 26 rfl (w.heap.size + 1 + 1 + 1) 3 i0 _ 1 8 Try.underlying26 hi hz0 hz1 hz2 rfl (by decide) (.slice (some ⟨g1, 0, none⟩) st.pl.length c1) _ _ rfl (hQ.o1.alloc _) ⟨W.heap.size, 0, none⟩ 1 1 [.int .i64 0] rfl rfl (World.news_of_block (heap_alloc_new W _)) (by simp [Value.oneCell']) (by decide) (by simp only [maxLen]; omega) (by omega) (by simp; omega) (W.heap.size + 1) (by simp) ?_; intro a1 k1 w1' own1 hgrow1 hat1 hlt1; obtain ⟨j0', j1, j2, j3, j4, jz⟩ := five (hQ.mid1 hgrow1))
  have hgr1 : W.grownBy w1' (some g1) := grown_alloc hgrow1
  replace hQ := hQ.app1 hgrow1 own1 (own_none hat1)
  replace y2 := box_kept (box_kept y2 hgr1 (by simp; omega)) (one_grown w1' bq 1 (.slice (some ⟨a1, 0, none⟩) (st.pl.length + 1) k1)) (by simp; omega)
  replace y3 := box_kept (box_kept y3 hgr1 (by simp; omega)) (one_grown w1' bq 1 (.slice (some ⟨a1, 0, none⟩) (st.pl.length + 1) k1)) (by simp; omega)
  replace hgW := (hgW.grown hgr1 hgW.size (by intro j hj; simp at hj; omega)).setCell (p := ⟨bq, 1, none⟩) (by show w.heap.size ≤ bq; omega) (.slice (some ⟨a1, 0, none⟩) (st.pl.length + 1) k1)
  have hBa1 := (own1.lt a1 rfl).1
  clear m0 m1 m2 m3 m4 mz j0' j1 j2 j3 j4 jz hgrow1 hat1 hgr1 own1 hzz
  generalize w1'.setCell ⟨bq, 1, none⟩ (.slice (some ⟨a1, 0, none⟩) (st.pl.length + 1) k1) = W1 at *
  obtain ⟨m0, m1, m2, m3, m4, mz⟩ := five hQ.box
  have hzz : w.heap.size + 1 + 1 + 1 ≤ W1.heap.size := by have := (hQ.o4.lt g4 rfl).2; omega
  go_upto_region 11 with (at_builtin; refine wpList_append_lies _ rfl (.tmp 50) (.tmp 51) 27 rfl (w.heap.size + 1 + 1 + 1) 4 j0 _ 1 1 Try.underlying27 ji jz0 jz1 jz2 rfl (by decide) (.slice (some ⟨g2, 0, none⟩) st.pl.length c2) _ _ rfl (hQ.o2.alloc _) ⟨W1.heap.size, 0, none⟩ 1 1 [.bool false] rfl rfl (World.news_of_block (heap_alloc_new W1 _)) (by simp [Value.oneCell']) (by decide) (by simp only [maxLen]; omega) (by omega) (by simp; omega) (W1.heap.size + 1) (by simp) ?_; intro a2 k2 w2' own2 hgrow2 hat2 hlt2; obtain ⟨j0', j1, j2, j3, j4, jz⟩ := five (hQ.mid2 hgrow2))
  have hgr2 : W1.grownBy w2' (some g2) := grown_alloc hgrow2
  replace hQ := hQ.app2 hgrow2 own2 (own_none hat2)
  replace y2 := box_kept (box_kept y2 hgr2 (by simp; omega)) (one_grown w2' bq 2 (.slice (some ⟨a2, 0, none⟩) (st.pl.length + 1) k2)) (by simp; omega)
  replace y3 := box_kept (box_kept y3 hgr2 (by simp; omega)) (one_grown w2' bq 2 (.slice (some ⟨a2, 0, none⟩) (st.pl.length + 1) k2)) (by simp; omega)
  replace hgW := (hgW.grown hgr2 hgW.size (by intro j hj; simp at hj; omega)).setCell (p := ⟨bq, 2, none⟩) (by show w.heap.size ≤ bq; omega) (.slice (some ⟨a2, 0, none⟩) (st.pl.length + 1) k2)
  have hBa2 := (own2.lt a2 rfl).1
  clear m0 m1 m2 m3 m4 mz j0' j1 j2 j3 j4 jz hgrow2 hat2 hgr2 own2 hzz
  generalize w2'.setCell ⟨bq, 2, none⟩ (.slice (some ⟨a2, 0, none⟩) (st.pl.length + 1) k2) = W2 at *
  obtain ⟨m0, m1, m2, m3, m4, mz⟩ := five hQ.box
  have hzz : w.heap.size + 1 + 1 + 1 ≤ W2.heap.size := by have := (hQ.o4.lt g4 rfl).2; omega
  go_upto_region 12 with (at_builtin; refine wpList_append_lies _ rfl (.tmp 55) (.tmp 56) 26 rfl (w.heap.size + 1 + 1 + 1) 3 i0 _ 1 8 Try.underlying26 hi hz0 hz1 hz2 rfl (by decide) (.slice (some ⟨g3, 0, none⟩) st.pl.length c3) _ _ rfl (hQ.o3.alloc _) ⟨W2.heap.size, 0, none⟩ 1 1 [.int .i64 0] rfl rfl (World.news_of_block (heap_alloc_new W2 _)) (by simp [Value.oneCell']) (by decide) (by simp only [maxLen]; omega) (by omega) (by simp; omega) (W2.heap.size + 1) (by simp) ?_; intro a3 k3 w3' own3 hgrow3 hat3 hlt3; obtain ⟨j0', j1, j2, j3, j4, jz⟩ := five (hQ.mid3 hgrow3))
  have hgr3 : W2.grownBy w3' (some g3) := grown_alloc hgrow3
  replace hQ := hQ.app3 hgrow3 own3 (own_none hat3)
  replace y2 := box_kept (box_kept y2 hgr3 (by simp; omega)) (one_grown w3' bq 3 (.slice (some ⟨a3, 0, none⟩) (st.pl.length + 1) k3)) (by simp; omega)
  replace y3 := box_kept (box_kept y3 hgr3 (by simp; omega)) (one_grown w3' bq 3 (.slice (some ⟨a3, 0, none⟩) (st.pl.length + 1) k3)) (by simp; omega)
  replace hgW := (hgW.grown hgr3 hgW.size (by intro j hj; simp at hj; omega)).setCell (p := ⟨bq, 3, none⟩) (by show w.heap.size ≤ bq; omega) (.slice (some ⟨a3, 0, none⟩) (st.pl.length + 1) k3)
  have hBa3 := (own3.lt a3 rfl).1
  clear m0 m1 m2 m3 m4 mz j0' j1 j2 j3 j4 jz hgrow3 hat3 hgr3 own3 hzz
  generalize w3'.setCell ⟨bq, 3, none⟩ (.slice (some ⟨a3, 0, none⟩) (st.pl.length + 1) k3) = W5 at *
  have hlb : (st.pl.length : Int) < ((st.pl.length + 1 : Nat) : Int) := by omega
  -- q.Vals[at] = x; q.Used[at] = true
  obtain ⟨m0, m1, m2, m3, m4, mz⟩ := five hQ.box
  obtain ⟨_, _, ev, t1, t2, _⟩ := row_cell hQ.o1 (k := st.pl.length) (x := .int .i64 0) (by simp [cV])
  cases ev
  go_upto_region 13 with fail
  replace hQ := hQ.set1 st.pl.length (.int .i64 x)
  replace y2 := box_kept y2 (one_grown _ a1 st.pl.length (.int .i64 x)) (by simp; omega)
  replace y3 := box_kept y3 (one_grown _ a1 st.pl.length (.int .i64 x)) (by simp; omega)
  replace hgW := hgW.setCell (p := ⟨a1, st.pl.length, none⟩) (by show w.heap.size ≤ a1; omega) (.int .i64 x)
  clear m0 m1 m2 m3 m4 mz t1 t2
  generalize W5.setCell ⟨a1, st.pl.length, none⟩ (.int .i64 x) = W6 at *
  obtain ⟨m0, m1, m2, m3, m4, mz⟩ := five hQ.box
  obtain ⟨_, _, ev, t1, t2, _⟩ := row_cell hQ.o2 (k := st.pl.length) (x := .bool false) (by simp [cU])
  cases ev
  go_wp2
  replace hQ := hQ.set2 st.pl.length (.bool true)
  replace y2 := box_kept y2 (one_grown W6 a2 st.pl.length (.bool true)) (by simp; omega)
  replace y3 := box_kept y3 (one_grown W6 a2 st.pl.length (.bool true)) (by simp; omega)
  replace hgW := hgW.setCell (p := ⟨a2, st.pl.length, none⟩) (by show w.heap.size ≤ a2; omega) (.bool true)
  clear m0 m1 m2 m3 m4 mz t1 t2
  generalize W6.setCell ⟨a2, st.pl.length, none⟩ (.bool true) = W7 at *
  -- return q, Handle{at, q.Gens[at]}
  obtain ⟨m0, m1, m2, m3, m4, mz⟩ := five hQ.box
  obtain ⟨z0, z1, z2, z3, z4, zz⟩ := five y2
  obtain ⟨s0, s1, sz⟩ := pair y3
  obtain ⟨_, _, ev, t1, _⟩ := row_cell hQ.o3 (k := st.pl.length) (x := .int .i64 0) (by simp [cG])
  cases ev
  go_region
  go_wp2
  refine bodyPost_ret (v := .tuple #[.agg #[.int .i64 st.room, .slice (some ⟨a1, 0, none⟩) (st.pl.length + 1) k1, .slice (some ⟨a2, 0, none⟩) (st.pl.length + 1) k2, .slice (some ⟨a3, 0, none⟩) (st.pl.length + 1) k3, .slice (some ⟨g4, 0, none⟩) st.fr.length c4], .agg #[.int .i64 ((st.pl.length : Nat) : Int), .int .i64 0], .int .i64 0]) (by simp [results, Try.results23, go_sem, z0, z1, z2, z3, z4, s0, s1]) rfl ?_
  have hS := set5_grown W7 (w.heap.size + 1) (.int .i64 st.room) (.slice (some ⟨a1, 0, none⟩) (st.pl.length + 1) k1) (.slice (some ⟨a2, 0, none⟩) (st.pl.length + 1) k2) (.slice (some ⟨a3, 0, none⟩) (st.pl.length + 1) k3) (.slice (some ⟨g4, 0, none⟩) st.fr.length c4)
  have hS2 := set2_grown (((((W7.setCell ⟨w.heap.size + 1, 0, none⟩ (.int .i64 st.room)).setCell ⟨w.heap.size + 1, 1, none⟩ (.slice (some ⟨a1, 0, none⟩) (st.pl.length + 1) k1)).setCell ⟨w.heap.size + 1, 2, none⟩ (.slice (some ⟨a2, 0, none⟩) (st.pl.length + 1) k2)).setCell ⟨w.heap.size + 1, 3, none⟩ (.slice (some ⟨a3, 0, none⟩) (st.pl.length + 1) k3)).setCell ⟨w.heap.size + 1, 4, none⟩ (.slice (some ⟨g4, 0, none⟩) st.fr.length c4)) (w.heap.size + 1 + 1) (.int .i64 ((st.pl.length : Nat) : Int)) (.int .i64 0)
  have hE1 := hgW.grown hS hgW.size (by intro j hj; simp at hj; omega)
  have hE := (hE1.grown hS2 hE1.size (by intro j hj; simp at hj; omega)).drew
  have hF := (((hQ.ref (st := ⟨st.room, st.pl ++ [⟨x, true, 0⟩], []⟩) hS (by omega) (by simp) (by simp) (by simp) (by simp [HF.out]) (by simp [cV]) (by simp [cU]) (by simp [cG]) (by simp [HF.out, cellsI])).kept hS2 (by omega)).fresh (Below.refl _ _).drew)
  exact ⟨_, _, _, _, rfl, hF.lower (by omega), Near.new hF _ (by omega), hE⟩
end Go.Proofs.Ytanahddlnchioaa.Arena
