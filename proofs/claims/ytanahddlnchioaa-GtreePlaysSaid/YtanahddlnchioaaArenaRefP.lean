/- What the document's Put does. Conditions: none. -/
import Derived.Test.YtanahddlnchioaaArenaRefF
namespace Go.Proofs.Ytanahddlnchioaa.Arena
open Go.ChangeShapes Go.WideShapes Go.ChangeAt Go.RowKit
set_option linter.unusedVariables false
set_option linter.unusedSimpArgs false

def IsPutR (B : Nat) (r : Int) (v1 v2 v3 v4 : Value) (i g n : Int) (st : St) (w : World) (e : Ending) (w' : World) : Prop :=
  ∃ u1 u2 u3 u4, e = .returned (.tuple #[.agg #[.int .i64 r, u1, u2, u3, u4], .agg #[.int .i64 i, .int .i64 g], .int .i64 n]) ∧ RefAt B u1 u2 u3 u4 st w' ∧ Near [u1, u2, u3, u4] [v1, v2, v3, v4] w.heap.size ∧ Below w.heap.size w w'
theorem RefAt.kept {B b : Nat} {v1 v2 v3 v4 : Value} {st : St} {W W' : World} (h : RefAt B v1 v2 v3 v4 st W) (hg : W.grownBy W' (some b)) (hb : b < B) : RefAt B v1 v2 v3 v4 st W' := by
  have key : ∀ {e : TypeId} {v : Value} {n : Nat} {xs : List Value}, W.ownsRow B e 1 v n xs → W'.ownsRow B e 1 v n xs := fun h => kept_box h hg (fun e => by have := (h.lt b e).1; omega)
  exact ⟨key h.o1, key h.o2, key h.o3, key h.o4⟩
theorem set2_grown (w : World) (b : Nat) (x0 x1 : Value) : w.grownBy ((w.setCell ⟨b, 0, none⟩ x0).setCell ⟨b, 1, none⟩ x1) (some b) := (one_grown _ _ _ _).trans (one_grown _ _ _ _)
theorem alloc3 (w : World) (o o' o'' : Obj) : Below w.heap.size w (((w.alloc o).alloc o').alloc o'') := (((Below.refl _ w).alloc (Nat.le_refl _) o).alloc (by simp) o').alloc (by simp; omega) o''

set_option maxRecDepth 100000 in
set_option maxHeartbeats 1000000 in
theorem refPut_full (w : World) (B : Nat) (v1 v2 v3 v4 : Value) (st : St) (x : Int) (h : RefAt B v1 v2 v3 v4 st w) (h1 : st.pl.length ≤ 4096) (hf : st.fr = []) (hl : (st.pl.length : Int) = st.room) :
    Calls Try.prog 23 #[.agg #[.int .i64 st.room, v1, v2, v3, v4], .int .i64 x] w (IsPutR B st.room v1 v2 v3 v4 0 0 3 st w) := by
  obtain ⟨p1, q1, e1⟩ := owns_shape h.o1
  obtain ⟨p2, q2, e2⟩ := owns_shape h.o2
  obtain ⟨p3, q3, e3⟩ := owns_shape h.o3
  obtain ⟨p4, q4, e4⟩ := owns_shape h.o4
  rw [show st.fr.length = 0 by simp [hf]] at e4
  subst e1 e2 e3 e4
  rw [← hl]
  generalize hn : st.pl.length = n at *
  have hle : (n : Int) ≤ n := Int.le_refl _
  clear hn hl
  go_enter Try.func23, Try.ntmps23
  go_wp2
  refine bodyPost_ret (v := .tuple #[.agg #[.int .i64 (n : Int), .slice p1 n q1, .slice p2 n q2, .slice p3 n q3, .slice p4 0 q4], .agg #[.int .i64 0, .int .i64 0], .int .i64 3]) (by simp [results, Try.results23, go_sem]) rfl ?_
  exact ⟨_, _, _, _, rfl, h.fresh (alloc3 _ _ _ _), Near.refl _ _, alloc3 _ _ _ _⟩

theorem owns_cap {w : World} {B : Nat} {e : TypeId} {s n g c : Nat} {xs : List Value} (h : w.ownsRow B e s (.slice (some ⟨g, 0, none⟩) n c) n xs) : n ≤ c := by
  rcases h.2 with ⟨h1, _⟩ | ⟨g', cap', cur', h1, _, _, h2, _⟩
  · cases h1
  · cases h1; exact h2
set_option maxRecDepth 100000 in
set_option maxHeartbeats 1000000 in
theorem refPut_old (w : World) (B : Nat) (v1 v2 v3 v4 : Value) (st : St) (x : Int) (h : RefAt B v1 v2 v3 v4 st w) (hB : B ≤ w.heap.size) (h1 : st.pl.length ≤ 4096) (h2 : st.fr.length ≤ 4096) (l : List Nat) (i : Nat) (q : Pl) (hf : st.fr = l ++ [i]) (hq : st.pl[i]? = some q) :
    Calls Try.prog 23 #[.agg #[.int .i64 st.room, v1, v2, v3, v4], .int .i64 x] w (IsPutR B st.room v1 v2 v3 v4 i q.gen 0 ⟨st.room, st.pl.set i ⟨x, true, q.gen⟩, l⟩ w) := by
  have hk : i < st.pl.length := (List.getElem?_eq_some_iff.1 hq).1
  have hk1 : (i : Int) < st.pl.length := by omega
  have hm : st.fr.length = l.length + 1 := by simp [hf]
  have hm1 : (st.fr.length : Int) - 1 = (l.length : Int) := by omega
  have hm2 : (l.length : Int) < st.fr.length := by omega
  have hm4 : ¬ (st.fr.length : Int) = 0 := by omega
  have hm3 : ((st.fr.length : Int) == 0) = false := by rw [beq_eq_false_iff_ne]; exact hm4
  have hm5 : 0 < (st.fr.length : Int) := by omega
  have hm7 : l.length < st.fr.length := by omega
  have HM : Hid _ := hm
  have HF : Hid _ := hf
  clear hm hf
  have hlen4 : st.fr.length ≤ 4096 := h2
  obtain ⟨p1, q1, e1⟩ := owns_shape h.o1
  obtain ⟨p4, q4, e4⟩ := owns_shape h.o4
  subst e1 e4
  obtain ⟨i0, hi, hz0, hz1, hz2⟩ := info_parts infoI
  obtain ⟨j0, ji, jz0, jz1, jz2⟩ := info_parts infoB
  go_enter Try.func23, Try.ntmps23
  go_upto_region 5 with (go_at_call 50; refine (copied _ B st.room _ v2 v3 _ st (h.fresh (alloc3 _ _ _ _)) h1 h2).mono ?_; rintro e w2 ⟨g1, c1, g2, c2, g3, c3, g4, c4, rfl, hR, dd, hg2⟩; obtain ⟨b1, b2, b3, hg, hlt⟩ := boxes3 hg2; simp only [World.size_alloc] at hR; have hg2s := hg2.size; simp only [World.size_alloc] at hg2s; clear hg2)
  have hQ := QX.of (r := st.room) hR dd
  have y2 := box_new (o' := .cells #[.int .i64 st.room, .slice (some ⟨g1, 0, none⟩) st.pl.length c1, .slice (some ⟨g2, 0, none⟩) st.pl.length c2, .slice (some ⟨g3, 0, none⟩) st.pl.length c3, .slice (some ⟨g4, 0, none⟩) st.fr.length c4] 29) b2
  have y3 := box_new (o' := .cells #[.int .i64 st.room, .slice (some ⟨g1, 0, none⟩) st.pl.length c1, .slice (some ⟨g2, 0, none⟩) st.pl.length c2, .slice (some ⟨g3, 0, none⟩) st.pl.length c3, .slice (some ⟨g4, 0, none⟩) st.fr.length c4] 29) b3
  have hgW := hg.alloc hg.size (.cells #[.int .i64 st.room, .slice (some ⟨g1, 0, none⟩) st.pl.length c1, .slice (some ⟨g2, 0, none⟩) st.pl.length c2, .slice (some ⟨g3, 0, none⟩) st.pl.length c3, .slice (some ⟨g4, 0, none⟩) st.fr.length c4] 29)
  have hBg1 := (hR.o1.lt g1 rfl).1
  have hBg2 := (hR.o2.lt g2 rfl).1
  have hBg3 := (hR.o3.lt g3 rfl).1
  have hBg4 := (hR.o4.lt g4 rfl).1
  have hcap4 : st.fr.length ≤ c4 := owns_cap hR.o4
  have hBq : w.heap.size + 1 + 1 + 1 ≤ w2.heap.size := by omega
  clear hR b1 b2 b3
  generalize w2.alloc (.cells #[.int .i64 st.room, .slice (some ⟨g1, 0, none⟩) st.pl.length c1, .slice (some ⟨g2, 0, none⟩) st.pl.length c2, .slice (some ⟨g3, 0, none⟩) st.pl.length c3, .slice (some ⟨g4, 0, none⟩) st.fr.length c4] 29) = W at *
  generalize w2.heap.size = bq at *
  obtain ⟨m0, m1, m2, m3, m4, mz⟩ := five hQ.box
  have kf : W.cell? ⟨g4, l.length, none⟩ = some (.int .i64 (i : Int)) := by
    rw [hQ.o4.cellAt _ (by omega), HF.out]; simp [cellsI]
  have hm6 : (l.length : Int) ≤ c4 := by omega
  go_upto_region 12 with fail
  replace hQ := hQ.cut4 (k := l.length) rfl (by omega)
  replace y2 := box_kept y2 (one_grown W bq 4 (.slice (some ⟨g4, 0, none⟩) l.length c4)) (by simp; omega)
  replace y3 := box_kept y3 (one_grown W bq 4 (.slice (some ⟨g4, 0, none⟩) l.length c4)) (by simp; omega)
  replace hgW := hgW.setCell (p := ⟨bq, 4, none⟩) (by show w.heap.size ≤ bq; omega) (.slice (some ⟨g4, 0, none⟩) l.length c4)
  clear m0 m1 m2 m3 m4 mz kf
  generalize W.setCell ⟨bq, 4, none⟩ (.slice (some ⟨g4, 0, none⟩) l.length c4) = W5 at *
  -- q.Vals[at] = x; q.Used[at] = true
  obtain ⟨m0, m1, m2, m3, m4, mz⟩ := five hQ.box
  obtain ⟨_, _, ev, t1, t2, _⟩ := row_cell hQ.o1 (cV_at hq)
  cases ev
  go_upto_region 13 with fail
  replace hQ := hQ.set1 i (.int .i64 x)
  replace y2 := box_kept y2 (one_grown _ g1 i (.int .i64 x)) (by simp; omega)
  replace y3 := box_kept y3 (one_grown _ g1 i (.int .i64 x)) (by simp; omega)
  replace hgW := hgW.setCell (p := ⟨g1, i, none⟩) (by show w.heap.size ≤ g1; omega) (.int .i64 x)
  clear m0 m1 m2 m3 m4 mz t1 t2
  generalize W5.setCell ⟨g1, i, none⟩ (.int .i64 x) = W6 at *
  obtain ⟨m0, m1, m2, m3, m4, mz⟩ := five hQ.box
  obtain ⟨_, _, ev, t1, t2, _⟩ := row_cell hQ.o2 (cU_at hq)
  cases ev
  go_wp2
  replace hQ := hQ.set2 i (.bool true)
  replace y2 := box_kept y2 (one_grown W6 g2 i (.bool true)) (by simp; omega)
  replace y3 := box_kept y3 (one_grown W6 g2 i (.bool true)) (by simp; omega)
  replace hgW := hgW.setCell (p := ⟨g2, i, none⟩) (by show w.heap.size ≤ g2; omega) (.bool true)
  clear m0 m1 m2 m3 m4 mz t1 t2
  generalize W6.setCell ⟨g2, i, none⟩ (.bool true) = W7 at *
  -- return q, Handle{at, q.Gens[at]}
  obtain ⟨m0, m1, m2, m3, m4, mz⟩ := five hQ.box
  obtain ⟨z0, z1, z2, z3, z4, zz⟩ := five y2
  obtain ⟨s0, s1, sz⟩ := pair y3
  obtain ⟨_, _, ev, t1, _⟩ := row_cell hQ.o3 (cG_at hq)
  cases ev
  go_region
  go_wp2
  refine bodyPost_ret (v := .tuple #[.agg #[.int .i64 st.room, .slice (some ⟨g1, 0, none⟩) st.pl.length c1, .slice (some ⟨g2, 0, none⟩) st.pl.length c2, .slice (some ⟨g3, 0, none⟩) st.pl.length c3, .slice (some ⟨g4, 0, none⟩) l.length c4], .agg #[.int .i64 (i : Int), .int .i64 q.gen], .int .i64 0]) (by simp [results, Try.results23, go_sem, z0, z1, z2, z3, z4, s0, s1]) rfl ?_
  have hS := set5_grown W7 (w.heap.size + 1) (.int .i64 st.room) (.slice (some ⟨g1, 0, none⟩) st.pl.length c1) (.slice (some ⟨g2, 0, none⟩) st.pl.length c2) (.slice (some ⟨g3, 0, none⟩) st.pl.length c3) (.slice (some ⟨g4, 0, none⟩) l.length c4)
  have hS2 := set2_grown (((((W7.setCell ⟨w.heap.size + 1, 0, none⟩ (.int .i64 st.room)).setCell ⟨w.heap.size + 1, 1, none⟩ (.slice (some ⟨g1, 0, none⟩) st.pl.length c1)).setCell ⟨w.heap.size + 1, 2, none⟩ (.slice (some ⟨g2, 0, none⟩) st.pl.length c2)).setCell ⟨w.heap.size + 1, 3, none⟩ (.slice (some ⟨g3, 0, none⟩) st.pl.length c3)).setCell ⟨w.heap.size + 1, 4, none⟩ (.slice (some ⟨g4, 0, none⟩) l.length c4)) (w.heap.size + 1 + 1) (.int .i64 (i : Int)) (.int .i64 q.gen)
  have hE1 := hgW.grown hS hgW.size (by intro j hj; simp at hj; omega)
  have hE := (hE1.grown hS2 hE1.size (by intro j hj; simp at hj; omega)).drew
  have hF := (((hQ.ref (st := ⟨st.room, st.pl.set i ⟨x, true, q.gen⟩, l⟩) hS (by omega) (by simp) (by simp) (by simp) rfl (cV_set _ _ _) (cU_set _ _ _) (by rw [cG_set, set_eq (cG_at hq)]) (by rw [HF.out]; simp [cellsI])).kept hS2 (by omega)).fresh (Below.refl _ _).drew)
  exact ⟨_, _, _, _, rfl, hF.lower (by omega), Near.new hF _ (by omega), hE⟩
end Go.Proofs.Ytanahddlnchioaa.Arena
