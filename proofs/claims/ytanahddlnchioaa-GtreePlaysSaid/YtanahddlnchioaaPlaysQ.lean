/- What Move of the document's tree answers, but for the last two ways. Conditions: as each fact states them. -/
import Derived.Test.YtanahddlnchioaaPlaysP
namespace Go.Proofs.Ytanahddlnchioaa.Gt
open Go.ChangeShapes Go.WideShapes Go.ChangeAt Go.RowKit Hp
set_option linter.unusedVariables false
set_option linter.unusedSimpArgs false
set_option maxRecDepth 100000

/-- Where the boxes of Move stand: the tree's, both handles', the answer's. -/
structure BoxM (w : World) (r : Int) (v1 v2 v3 v4 : Value) (i g j k : Int) (W : World) : Prop where
  t : W.heap[w.heap.size]? = some (treO r v1 v2 v3 v4)
  h : W.heap[w.heap.size + 1]? = some (hanO i g)
  p : W.heap[w.heap.size + 2]? = some (hanO j k)
  y : W.heap[w.heap.size + 3]? = some (treO 0 (.slice none 0 0) (.slice none 0 0) (.slice none 0 0) (.slice none 0 0))
  b : Below w.heap.size w W
theorem boxM (w : World) (r : Int) (v1 v2 v3 v4 : Value) (i g j k : Int) : BoxM w r v1 v2 v3 v4 i g j k ((((w.alloc (treO r v1 v2 v3 v4)).alloc (hanO i g)).alloc (hanO j k)).alloc (treO 0 (.slice none 0 0) (.slice none 0 0) (.slice none 0 0) (.slice none 0 0))) := by
  refine ⟨heap_fresh (heap_fresh (heap_fresh (heap_alloc_new w _) (alloc1 _ _)) (alloc1 _ _)) (alloc1 _ _), heap_fresh (heap_fresh ?_ (alloc1 _ _)) (alloc1 _ _), heap_fresh ?_ (alloc1 _ _), ?_, ((((Below.refl w.heap.size w).alloc (Nat.le_refl _) _).alloc (by simp) _).alloc (by simp; omega) _).alloc (by simp; omega) _⟩
  · simpa using heap_alloc_new (w.alloc (treO r v1 v2 v3 v4)) (hanO i g)
  · simpa using heap_alloc_new ((w.alloc (treO r v1 v2 v3 v4)).alloc (hanO i g)) (hanO j k)
  · simpa using heap_alloc_new (((w.alloc (treO r v1 v2 v3 v4)).alloc (hanO i g)).alloc (hanO j k)) (treO 0 (.slice none 0 0) (.slice none 0 0) (.slice none 0 0) (.slice none 0 0))
theorem BoxM.fresh {w W W' : World} {r : Int} {v1 v2 v3 v4 : Value} {i g j k : Int} (h : BoxM w r v1 v2 v3 v4 i g j k W) (hg : Below W.heap.size W W') : BoxM w r v1 v2 v3 v4 i g j k W' :=
  ⟨heap_fresh h.t hg, heap_fresh h.h hg, heap_fresh h.p hg, heap_fresh h.y hg, h.b.trans (hg.mono h.b.size)⟩
theorem BoxM.cells {w W : World} {r : Int} {v1 v2 v3 v4 : Value} {i g j k : Int} (h : BoxM w r v1 v2 v3 v4 i g j k W) :
    (W.cell? ⟨w.heap.size, 0, none⟩ = some (.int .i64 r) ∧ W.cell? ⟨w.heap.size, 1, none⟩ = some v1 ∧ W.cell? ⟨w.heap.size, 2, none⟩ = some v2 ∧ W.cell? ⟨w.heap.size, 3, none⟩ = some v3 ∧ W.cell? ⟨w.heap.size, 4, none⟩ = some v4 ∧ ∀ j, W.frozen? ⟨w.heap.size, j, none⟩ = false) ∧
    (W.cell? ⟨w.heap.size + 1, 0, none⟩ = some (.int .i64 i) ∧ W.cell? ⟨w.heap.size + 1, 1, none⟩ = some (.int .i64 g) ∧ ∀ j, W.frozen? ⟨w.heap.size + 1, j, none⟩ = false) ∧
    (W.cell? ⟨w.heap.size + 2, 0, none⟩ = some (.int .i64 j) ∧ W.cell? ⟨w.heap.size + 2, 1, none⟩ = some (.int .i64 k) ∧ ∀ j, W.frozen? ⟨w.heap.size + 2, j, none⟩ = false) ∧
    (W.cell? ⟨w.heap.size + 3, 0, none⟩ = some (.int .i64 0) ∧ W.cell? ⟨w.heap.size + 3, 1, none⟩ = some (.slice none 0 0) ∧ W.cell? ⟨w.heap.size + 3, 2, none⟩ = some (.slice none 0 0) ∧ W.cell? ⟨w.heap.size + 3, 3, none⟩ = some (.slice none 0 0) ∧ W.cell? ⟨w.heap.size + 3, 4, none⟩ = some (.slice none 0 0) ∧ ∀ j, W.frozen? ⟨w.heap.size + 3, j, none⟩ = false) := by
  have h1 : W.heap[w.heap.size]? = some (.cells #[.int .i64 r, v1, v2, v3, v4] 31 (0, 0)) := h.t
  have h2 : W.heap[w.heap.size + 1]? = some (.cells #[.int .i64 i, .int .i64 g] 34 (0, 0)) := h.h
  have h3 : W.heap[w.heap.size + 2]? = some (.cells #[.int .i64 j, .int .i64 k] 34 (0, 0)) := h.p
  have h4 : W.heap[w.heap.size + 3]? = some (.cells #[.int .i64 0, .slice none 0 0, .slice none 0 0, .slice none 0 0, .slice none 0 0] 31 (0, 0)) := h.y
  exact ⟨Arena.five h1, Arena.pair h2, Arena.pair h3, Arena.five h4⟩
theorem staysM {w : World} {B : Nat} {r : Int} {v1 v2 v3 v4 : Value} {st : St} {n : Int} (h : Arena.RefAt B v1 v2 v3 v4 (doc st) w) : ∀ W W', Below w.heap.size w W → W' = put5 W (w.heap.size + 3) (.int .i64 r) v1 v2 v3 v4 → IsTre B r v1 v2 v3 v4 (fun t => .tuple #[t, .int .i64 n]) st w (.returned (.tuple #[.agg #[.int .i64 r, v1, v2, v3, v4], .int .i64 n])) W' := fun W W' hB e => by
  subst e
  have hb := put5_below hB (show w.heap.size ≤ w.heap.size + 3 by omega) (.int .i64 r) v1 v2 v3 v4
  exact ⟨_, _, _, _, rfl, h.fresh hb, Arena.Near.refl _ _, hb⟩
theorem refMove_none1 (w : World) (B : Nat) (r : Int) (v1 v2 v3 v4 : Value) (st : St) (i g j k : Int) (h : Arena.RefAt B v1 v2 v3 v4 (doc st) w) (h1 : st.pl.length ≤ 4096) (hn : st.names i g = false) :
    Calls Try.prog 13 #[.agg #[.int .i64 r, v1, v2, v3, v4], .agg #[.int .i64 i, .int .i64 g], .agg #[.int .i64 j, .int .i64 k]] w (IsTre B r v1 v2 v3 v4 (fun t => .tuple #[t, .int .i64 2]) st w) := by
  have PB := boxM w r v1 v2 v3 v4 i g j k
  have N := Lib.hid (fun W (hB : BoxM w r v1 v2 v3 v4 i g j k W) => Arena.refNames W B r v1 v2 v3 v4 (doc st) i g (h.fresh hB.b) (by rw [doc_len]; exact h1))
  have M := Lib.hid (fun W (hB : BoxM w r v1 v2 v3 v4 i g j k W) => Arena.refNames W B r v1 v2 v3 v4 (doc st) j k (h.fresh hB.b) (by rw [doc_len]; exact h1))
  rw [doc_names, hn] at N
  clear M hn
  have FIN := Lib.hid (staysM (r := r) (n := 2) h)
  unfold treO hanO at PB
  obtain ⟨p1, q1, e1⟩ := Arena.owns_shape h.o1
  obtain ⟨p2, q2, e2⟩ := Arena.owns_shape h.o2
  obtain ⟨p3, q3, e3⟩ := Arena.owns_shape h.o3
  obtain ⟨p4, q4, e4⟩ := Arena.owns_shape h.o4
  subst e1 e2 e3 e4
  generalize (doc st).pl.length = ln at *
  generalize (doc st).fr.length = lf at *
  clear h
  go_enter Try.func13, Try.ntmps13
  go_wp2_with fail
  generalize (((w.alloc _).alloc _).alloc _).alloc _ = W at *
  go_at_call 25; refine (N.out _ PB).mono ?_; rintro e w1 ⟨rfl, hg0⟩
  have P0 := PB.fresh hg0
  obtain ⟨⟨b0, b1, b2, b3, b4, bz⟩, ⟨x0, x1, xz⟩, ⟨d0, d1, dz⟩, ⟨y0, y1, y2, y3, y4, yz⟩⟩ := P0.cells
  have F1 := Lib.hid (FIN.out _ _ P0.b rfl)
  unfold put5 at F1
  go_wp2_with fail
  refine bodyPost_ret (v := .tuple #[.agg #[.int .i64 r, .slice p1 ln q1, .slice p2 ln q2, .slice p3 ln q3, .slice p4 lf q4], .int .i64 2]) (by simp [results, Try.results13, go_sem, y0, y1, y2, y3, y4]) rfl ?_
  exact F1.out

theorem refMove_none2 (w : World) (B : Nat) (r : Int) (v1 v2 v3 v4 : Value) (st : St) (i g j k : Int) (h : Arena.RefAt B v1 v2 v3 v4 (doc st) w) (h1 : st.pl.length ≤ 4096) (hn : st.names i g = true) (hm : st.names j k = false) :
    Calls Try.prog 13 #[.agg #[.int .i64 r, v1, v2, v3, v4], .agg #[.int .i64 i, .int .i64 g], .agg #[.int .i64 j, .int .i64 k]] w (IsTre B r v1 v2 v3 v4 (fun t => .tuple #[t, .int .i64 2]) st w) := by
  have PB := boxM w r v1 v2 v3 v4 i g j k
  have N := Lib.hid (fun W (hB : BoxM w r v1 v2 v3 v4 i g j k W) => Arena.refNames W B r v1 v2 v3 v4 (doc st) i g (h.fresh hB.b) (by rw [doc_len]; exact h1))
  have M := Lib.hid (fun W (hB : BoxM w r v1 v2 v3 v4 i g j k W) => Arena.refNames W B r v1 v2 v3 v4 (doc st) j k (h.fresh hB.b) (by rw [doc_len]; exact h1))
  rw [doc_names, hn] at N
  rw [doc_names, hm] at M
  clear hn hm
  have FIN := Lib.hid (staysM (r := r) (n := 2) h)
  unfold treO hanO at PB
  obtain ⟨p1, q1, e1⟩ := Arena.owns_shape h.o1
  obtain ⟨p2, q2, e2⟩ := Arena.owns_shape h.o2
  obtain ⟨p3, q3, e3⟩ := Arena.owns_shape h.o3
  obtain ⟨p4, q4, e4⟩ := Arena.owns_shape h.o4
  subst e1 e2 e3 e4
  generalize (doc st).pl.length = ln at *
  generalize (doc st).fr.length = lf at *
  clear h
  go_enter Try.func13, Try.ntmps13
  go_wp2_with fail
  generalize (((w.alloc _).alloc _).alloc _).alloc _ = W at *
  go_at_call 25; refine (N.out _ PB).mono ?_; rintro e w1 ⟨rfl, hg0⟩
  have P0 := PB.fresh hg0
  obtain ⟨⟨b0, b1, b2, b3, b4, bz⟩, ⟨x0, x1, xz⟩, ⟨d0, d1, dz⟩, _⟩ := P0.cells
  go_wp2_with fail
  go_at_call 25; refine (M.out _ P0).mono ?_; rintro e w2 ⟨rfl, hg1⟩
  have P1 := P0.fresh hg1
  clear b0 b1 b2 b3 b4 bz x0 x1 xz d0 d1 dz
  obtain ⟨⟨b0, b1, b2, b3, b4, bz⟩, ⟨x0, x1, xz⟩, ⟨d0, d1, dz⟩, ⟨y0, y1, y2, y3, y4, yz⟩⟩ := P1.cells
  have F1 := Lib.hid (FIN.out _ _ P1.b rfl)
  unfold put5 at F1
  go_wp2_with fail
  refine bodyPost_ret (v := .tuple #[.agg #[.int .i64 r, .slice p1 ln q1, .slice p2 ln q2, .slice p3 ln q3, .slice p4 lf q4], .int .i64 2]) (by simp [results, Try.results13, go_sem, y0, y1, y2, y3, y4]) rfl ?_
  exact F1.out

theorem refMove_root (w : World) (B : Nat) (r : Int) (v1 v2 v3 v4 : Value) (st : St) (g j k : Int) (h : Arena.RefAt B v1 v2 v3 v4 (doc st) w) (h1 : st.pl.length ≤ 4096) (hn : st.names 0 g = true) (hm : st.names j k = true) :
    Calls Try.prog 13 #[.agg #[.int .i64 r, v1, v2, v3, v4], .agg #[.int .i64 0, .int .i64 g], .agg #[.int .i64 j, .int .i64 k]] w (IsTre B r v1 v2 v3 v4 (fun t => .tuple #[t, .int .i64 1]) st w) := by
  have PB := boxM w r v1 v2 v3 v4 0 g j k
  have N := Lib.hid (fun W (hB : BoxM w r v1 v2 v3 v4 0 g j k W) => Arena.refNames W B r v1 v2 v3 v4 (doc st) 0 g (h.fresh hB.b) (by rw [doc_len]; exact h1))
  have M := Lib.hid (fun W (hB : BoxM w r v1 v2 v3 v4 0 g j k W) => Arena.refNames W B r v1 v2 v3 v4 (doc st) j k (h.fresh hB.b) (by rw [doc_len]; exact h1))
  rw [doc_names, hn] at N
  rw [doc_names, hm] at M
  clear hn hm
  have FIN := Lib.hid (staysM (r := r) (n := 1) h)
  unfold treO hanO at PB
  obtain ⟨p1, q1, e1⟩ := Arena.owns_shape h.o1
  obtain ⟨p2, q2, e2⟩ := Arena.owns_shape h.o2
  obtain ⟨p3, q3, e3⟩ := Arena.owns_shape h.o3
  obtain ⟨p4, q4, e4⟩ := Arena.owns_shape h.o4
  subst e1 e2 e3 e4
  generalize (doc st).pl.length = ln at *
  generalize (doc st).fr.length = lf at *
  clear h
  go_enter Try.func13, Try.ntmps13
  go_wp2_with fail
  generalize (((w.alloc _).alloc _).alloc _).alloc _ = W at *
  go_at_call 25; refine (N.out _ PB).mono ?_; rintro e w1 ⟨rfl, hg0⟩
  have P0 := PB.fresh hg0
  obtain ⟨⟨b0, b1, b2, b3, b4, bz⟩, ⟨x0, x1, xz⟩, ⟨d0, d1, dz⟩, _⟩ := P0.cells
  go_wp2_with fail
  go_at_call 25; refine (M.out _ P0).mono ?_; rintro e w2 ⟨rfl, hg1⟩
  have P1 := P0.fresh hg1
  clear b0 b1 b2 b3 b4 bz x0 x1 xz d0 d1 dz
  obtain ⟨⟨b0, b1, b2, b3, b4, bz⟩, ⟨x0, x1, xz⟩, ⟨d0, d1, dz⟩, ⟨y0, y1, y2, y3, y4, yz⟩⟩ := P1.cells
  have F1 := Lib.hid (FIN.out _ _ P1.b rfl)
  unfold put5 at F1
  go_wp2_with fail
  refine bodyPost_ret (v := .tuple #[.agg #[.int .i64 r, .slice p1 ln q1, .slice p2 ln q2, .slice p3 ln q3, .slice p4 lf q4], .int .i64 1]) (by simp [results, Try.results13, go_sem, y0, y1, y2, y3, y4]) rfl ?_
  exact F1.out

theorem refMove_loop (w : World) (B : Nat) (r : Int) (v1 v2 v3 v4 : Value) (st : St) (i g j k : Int) (h : Arena.RefAt B v1 v2 v3 v4 (doc st) w) (h1 : st.pl.length ≤ 4096) (hn : st.names i g = true) (hm : st.names j k = true) (hi : (i == 0) = false) (ho : Ok st) (hin : isIn j k i g (upsOf st j k) = true) :
    Calls Try.prog 13 #[.agg #[.int .i64 r, v1, v2, v3, v4], .agg #[.int .i64 i, .int .i64 g], .agg #[.int .i64 j, .int .i64 k]] w (IsTre B r v1 v2 v3 v4 (fun t => .tuple #[t, .int .i64 10]) st w) := by
  have PB := boxM w r v1 v2 v3 v4 i g j k
  have N := Lib.hid (fun W (hB : BoxM w r v1 v2 v3 v4 i g j k W) => Arena.refNames W B r v1 v2 v3 v4 (doc st) i g (h.fresh hB.b) (by rw [doc_len]; exact h1))
  have M := Lib.hid (fun W (hB : BoxM w r v1 v2 v3 v4 i g j k W) => Arena.refNames W B r v1 v2 v3 v4 (doc st) j k (h.fresh hB.b) (by rw [doc_len]; exact h1))
  have L := Lib.hid (fun W (hB : BoxM w r v1 v2 v3 v4 i g j k W) => refBelow W B r v1 v2 v3 v4 st j k i g (upsOf st j k) (h.fresh hB.b) h1 (ho.ups hm).1 hn)
  rw [hin] at L
  rw [doc_names, hn] at N
  rw [doc_names, hm] at M
  clear hn hm hin ho
  have FIN := Lib.hid (staysM (r := r) (n := 10) h)
  unfold treO hanO at PB
  obtain ⟨p1, q1, e1⟩ := Arena.owns_shape h.o1
  obtain ⟨p2, q2, e2⟩ := Arena.owns_shape h.o2
  obtain ⟨p3, q3, e3⟩ := Arena.owns_shape h.o3
  obtain ⟨p4, q4, e4⟩ := Arena.owns_shape h.o4
  subst e1 e2 e3 e4
  generalize (doc st).pl.length = ln at *
  generalize (doc st).fr.length = lf at *
  clear h
  go_enter Try.func13, Try.ntmps13
  go_wp2_with fail
  generalize (((w.alloc _).alloc _).alloc _).alloc _ = W at *
  go_at_call 25; refine (N.out _ PB).mono ?_; rintro e w1 ⟨rfl, hg0⟩
  have P0 := PB.fresh hg0
  obtain ⟨⟨b0, b1, b2, b3, b4, bz⟩, ⟨x0, x1, xz⟩, ⟨d0, d1, dz⟩, _⟩ := P0.cells
  go_wp2_with fail
  go_at_call 25; refine (M.out _ P0).mono ?_; rintro e w2 ⟨rfl, hg1⟩
  have P1 := P0.fresh hg1
  clear b0 b1 b2 b3 b4 bz x0 x1 xz d0 d1 dz
  obtain ⟨⟨b0, b1, b2, b3, b4, bz⟩, ⟨x0, x1, xz⟩, ⟨d0, d1, dz⟩, _⟩ := P1.cells
  go_wp2_with fail
  go_at_call 36; refine (L.out _ P1).mono ?_; rintro e w3 ⟨rfl, hg2⟩
  have P2 := P1.fresh hg2
  clear b0 b1 b2 b3 b4 bz x0 x1 xz d0 d1 dz
  obtain ⟨⟨b0, b1, b2, b3, b4, bz⟩, ⟨x0, x1, xz⟩, ⟨d0, d1, dz⟩, ⟨y0, y1, y2, y3, y4, yz⟩⟩ := P2.cells
  have F1 := Lib.hid (FIN.out _ _ P2.b rfl)
  unfold put5 at F1
  go_wp2_with fail
  refine bodyPost_ret (v := .tuple #[.agg #[.int .i64 r, .slice p1 ln q1, .slice p2 ln q2, .slice p3 ln q3, .slice p4 lf q4], .int .i64 10]) (by simp [results, Try.results13, go_sem, y0, y1, y2, y3, y4]) rfl ?_
  exact F1.out

end Go.Proofs.Ytanahddlnchioaa.Gt

/- What Move of the document's tree answers where neither is nobody, nor the root, nor within the other. Conditions: as each fact states them. -/
namespace Go.Proofs.Ytanahddlnchioaa.Gt
open Go.ChangeShapes Go.WideShapes Go.ChangeAt Go.RowKit Hp
set_option linter.unusedVariables false
set_option linter.unusedSimpArgs false
set_option maxRecDepth 100000

/-- How deep the n-th one below would come to stand. -/
def deepOf (st : St) (i g j k : Int) (q : Int × Int) : Int := ((upsOf st q.1 q.2).length : Int) - (upsOf st i g).length + (upsOf st j k).length + 1
theorem deep_all {st : St} {i g j k : Int} (ho : Ok st) (hn : st.names i g = true) (hd : (8 : Int) < (upsOf st j k).length + 1 + reachOf st i g) : ∃ q ∈ belowOf st i g, 8 < deepOf st i g j k q := by
  refine Classical.byContradiction fun h => ?_
  have h' : ∀ q ∈ belowOf st i g, deepOf st i g j k q ≤ 8 := fun q hq => by
    refine Classical.byContradiction fun e => h ⟨q, hq, by omega⟩
  have hm : (i, g) ∈ belowOf st i g := below_mem hn hn (decide_eq_true (by simp))
  have h0 := h' _ hm
  unfold deepOf at h0 h'
  have : reachOf st i g ≤ 7 - (upsOf st j k).length := by
    unfold reachOf mxr
    refine mx_le (by simp only at h0; omega) fun q hq => ?_
    rw [List.mem_reverse, List.take_length] at hq
    have := h' q hq
    omega
  omega
theorem deep_none {st : St} {i g j k : Int} (hd : ((upsOf st j k).length : Int) + 1 + reachOf st i g ≤ 8) : ∀ q ∈ belowOf st i g, deepOf st i g j k q ≤ 8 := fun q hq => by
  have := (mx_ge (st := st) (d := (upsOf st i g).length) (l := (belowOf st i g).reverse)).2 q (by rw [List.mem_reverse]; exact hq)
  unfold reachOf mxr at hd
  rw [List.take_length] at hd
  unfold deepOf
  omega

def DeepI (A : List (Int × Int)) (f : Int × Int → Int) (W : World) (left : Nat) (t : Value) (wr : World) : Prop :=
  ∃ n : Nat, n ≤ A.length ∧ left = A.length - n ∧ t = .int .i64 n ∧ (∀ m q, m < n → A[m]? = some q → f q ≤ 8) ∧ Below W.heap.size W wr
set_option maxHeartbeats 8000000 in
theorem refMove_run (w : World) (B : Nat) (N0 : Int) (v1 v2 v3 v4 : Value) (st : St) (i g j k : Int) (h : Arena.RefAt B v1 v2 v3 v4 (doc st) w) (hB : B ≤ w.heap.size) (hS : Snd N0 st) (hn : st.names i g = true) (hm : st.names j k = true) (hi : (i == 0) = false) (hin : isIn j k i g (upsOf st j k) = false)
    (sp : St) (pn : Int) (hres : ((8 : Int) < (upsOf st j k).length + 1 + reachOf st i g ∧ sp = st ∧ pn = 5) ∨ (((upsOf st j k).length : Int) + 1 + reachOf st i g ≤ 8 ∧ sp = st.set i g j k ∧ pn = 0)) :
    Calls Try.prog 13 #[.agg #[.int .i64 st.room, v1, v2, v3, v4], .agg #[.int .i64 i, .int .i64 g], .agg #[.int .i64 j, .int .i64 k]] w (IsTre B st.room v1 v2 v3 v4 (fun t => .tuple #[t, .int .i64 pn]) sp w) := by
  have h1 := hS.inv.l1
  have PB := boxM w st.room v1 v2 v3 v4 i g j k
  have N := Lib.hid (fun W (hB : BoxM w st.room v1 v2 v3 v4 i g j k W) => Arena.refNames W B st.room v1 v2 v3 v4 (doc st) i g (h.fresh hB.b) (by rw [doc_len]; exact h1))
  have M := Lib.hid (fun W (hB : BoxM w st.room v1 v2 v3 v4 i g j k W) => Arena.refNames W B st.room v1 v2 v3 v4 (doc st) j k (h.fresh hB.b) (by rw [doc_len]; exact h1))
  have L := Lib.hid (fun W (hB : BoxM w st.room v1 v2 v3 v4 i g j k W) => refBelow W B st.room v1 v2 v3 v4 st j k i g (upsOf st j k) (h.fresh hB.b) h1 (hS.ok.ups hm).1 hn)
  rw [hin] at L
  rw [doc_names, hn] at N
  rw [doc_names, hm] at M
  have U := Lib.hid (fun W (hB : BoxM w st.room v1 v2 v3 v4 i g j k W) => refUnder W B st.room v1 v2 v3 v4 st i g (h.fresh hB.b) h1 hS.ok)
  have D := Lib.hid (fun W (hB : BoxM w st.room v1 v2 v3 v4 i g j k W) (a b : Int) (hab : st.names a b = true) => refDepth W B st.room v1 v2 v3 v4 st a b (upsOf st a b) (h.fresh hB.b) h1 (hS.ok.ups hab).1 (by have := (hS.ok.ups hab).2; omega))
  have DL : Hid (∀ a b, st.names a b = true → (upsOf st a b).length ≤ 8) := Lib.hid fun a b hab => (hS.ok.ups hab).2
  have P := Lib.hid (fun W (hW : BoxM w st.room v1 v2 v3 v4 i g j k W) => Arena.refSet (w := W) (st := doc st) i g j (h.fresh hW.b) (Nat.le_trans hB hW.b.size) (doc_inv hS.inv))
  rw [← doc_set (by simpa using hi) g j k] at P
  have hr : (doc st).room = st.room := rfl
  rw [hr] at P
  clear hr
  have FIN5 := Lib.hid (staysM (r := st.room) (n := 5) h)
  have hlow := h.low
  have HM : Hid (∀ q ∈ belowOf st i g, st.names q.1 q.2 = true) := Lib.hid fun q hq => (mem_below hq).1
  have hAl : (belowOf st i g).length ≤ 4096 := Nat.le_trans (List.length_filter_le _ _) (Nat.le_trans (hs_le _ _) h1)
  have HD1 : Hid ((8 : Int) < (upsOf st j k).length + 1 + reachOf st i g → ∃ q ∈ belowOf st i g, 8 < deepOf st i g j k q) := Lib.hid fun hd => deep_all hS.ok hn hd
  have HD2 : Hid (((upsOf st j k).length : Int) + 1 + reachOf st i g ≤ 8 → ∀ q ∈ belowOf st i g, deepOf st i g j k q ≤ 8) := Lib.hid fun hd => deep_none hd
  have HR := Lib.hid hres
  have FIN : Hid (∀ W w3 u1 u2 u3 u4 W', BoxM w st.room v1 v2 v3 v4 i g j k W → Arena.RefAt B u1 u2 u3 u4 (doc sp) w3 → Arena.Near [u1, u2, u3, u4] [v1, v2, v3, v4] W.heap.size → Below W.heap.size W w3 → w.heap.size + 3 < W.heap.size →
      W' = put5 (w3.alloc (.cells #[.int .i64 st.room, u1, u2, u3, u4] 29)) (w.heap.size + 3) (.int .i64 st.room) u1 u2 u3 u4 →
      IsTre B st.room v1 v2 v3 v4 (fun t => .tuple #[t, .int .i64 0]) sp w (.returned (.tuple #[.agg #[.int .i64 st.room, u1, u2, u3, u4], .int .i64 0])) W') := fun W w3 u1 u2 u3 u4 W' hW hR hN hg hsz e => by
    subst e
    have b1 := alloc1 w3 (.cells #[.int .i64 st.room, u1, u2, u3, u4] 29)
    have b2 := hW.b.trans ((hg.trans (b1.mono hg.size)).mono hW.b.size)
    exact ⟨_, _, _, _, rfl, (hR.fresh b1).past hN hlow (by omega) (by omega) (Arena.set5_grown _ (w.heap.size + 3) (.int .i64 st.room) u1 u2 u3 u4), hN.mono hW.b.size, put5_below b2 (by omega) _ _ _ _ _⟩
  have NI := Lib.hid hn
  have NJ := Lib.hid hm
  generalize st.room = r at *
  unfold treO hanO at PB
  clear hS hlow h1 hB hn hm hres hin
  obtain ⟨p1, q1, e1⟩ := Arena.owns_shape h.o1
  obtain ⟨p2, q2, e2⟩ := Arena.owns_shape h.o2
  obtain ⟨p3, q3, e3⟩ := Arena.owns_shape h.o3
  obtain ⟨p4, q4, e4⟩ := Arena.owns_shape h.o4
  subst e1 e2 e3 e4
  generalize (doc st).pl.length = dn at *
  generalize (doc st).fr.length = df at *
  clear h
  go_enter Try.func13, Try.ntmps13
  go_wp2_with fail
  have hsz : w.heap.size + 3 < ((((w.alloc (.cells #[.int .i64 r, .slice p1 dn q1, .slice p2 dn q2, .slice p3 dn q3, .slice p4 df q4] 31 (0, 0))).alloc (.cells #[.int .i64 i, .int .i64 g] 34 (0, 0))).alloc (.cells #[.int .i64 j, .int .i64 k] 34 (0, 0))).alloc (.cells #[.int .i64 0, .slice none 0 0, .slice none 0 0, .slice none 0 0, .slice none 0 0] 31 (0, 0))).heap.size := by simp
  generalize (((w.alloc _).alloc _).alloc _).alloc _ = W at *
  go_at_call 25; refine (N.out _ PB).mono ?_; rintro e w1 ⟨rfl, hg1⟩
  have P1 := PB.fresh hg1
  obtain ⟨⟨b0, b1, b2, b3, b4, bz⟩, ⟨x0, x1, xz⟩, ⟨d0, d1, dz⟩, _⟩ := P1.cells
  go_wp2_with fail
  go_at_call 25; refine (M.out _ P1).mono ?_; rintro e w2 ⟨rfl, hg2⟩
  have P2 := P1.fresh hg2
  clear b0 b1 b2 b3 b4 bz x0 x1 xz d0 d1 dz
  obtain ⟨⟨b0, b1, b2, b3, b4, bz⟩, ⟨x0, x1, xz⟩, ⟨d0, d1, dz⟩, _⟩ := P2.cells
  go_wp2_with fail
  go_at_call 36; refine (L.out _ P2).mono ?_; rintro e w3 ⟨rfl, hg3⟩
  have P3 := P2.fresh hg3
  clear b0 b1 b2 b3 b4 bz x0 x1 xz d0 d1 dz
  obtain ⟨⟨b0, b1, b2, b3, b4, bz⟩, ⟨x0, x1, xz⟩, ⟨d0, d1, dz⟩, _⟩ := P3.cells
  go_wp2_with fail
  go_at_call 37; refine (U.out _ P3).mono ?_; rintro e w4 ⟨vk, rfl, hA, hg4⟩
  have P4 := P3.fresh hg4
  have hsz4 : w.heap.size + 3 < w4.heap.size := by have := hg1.size; have := hg2.size; have := hg3.size; have := hg4.size; omega
  obtain ⟨ao, ca, rfl⟩ := Arena.owns_shape hA
  have HA := Lib.hid hA
  have HA2 : belowOf st i g = (hs st.pl st.pl.length).filter fun q => under? st q.1 q.2 i g := rfl
  rw [← HA2] at HA
  clear HA2 b0 b1 b2 b3 b4 bz x0 x1 xz d0 d1 dz N M L U P1 P2 P3 PB hg1 hg2 hg3 hg4 hA hsz
  unfold belowOf at hAl HM HD1 HD2 HA
  generalize (hs st.pl st.pl.length).filter (fun q => under? st q.1 q.2 i g) = A at *
  have J0 : Hid (DeepI A (deepOf st i g j k) w4 A.length (.int .i64 0) w4) := Lib.hid ⟨0, by omega, rfl, rfl, fun m q hm => by omega, Below.refl _ _⟩
  go_wp2_with fail
  go_loopg [9] A.length (fun left t wr => DeepI A (deepOf st i g j k) w4 left t wr)
  case atStart => exact J0.out
  case round =>
    clear J0
    obtain ⟨n, hnl, rfl, rfl, hall, hb⟩ := hrel
    have PX := P4.fresh hb
    by_cases hlt : n < A.length
    · obtain ⟨q, hq⟩ : ∃ q, A[n]? = some q := ⟨_, List.getElem?_eq_getElem hlt⟩
      have hqn := HM.out q (List.mem_of_getElem? hq)
      obtain ⟨qi, qg⟩ := q
      simp only at hqn
      obtain ⟨gA, cA, eA, _, _⟩ := Arena.told_cell HA.out hq
      cases eA
      have HC : Hid (∀ w', Below w4.heap.size w4 w' → (w'.cell? ⟨w.heap.size, 0, none⟩ = some (.int .i64 r) ∧ w'.cell? ⟨w.heap.size, 1, none⟩ = some (.slice p1 dn q1) ∧ w'.cell? ⟨w.heap.size, 2, none⟩ = some (.slice p2 dn q2) ∧ w'.cell? ⟨w.heap.size, 3, none⟩ = some (.slice p3 dn q3) ∧ w'.cell? ⟨w.heap.size, 4, none⟩ = some (.slice p4 df q4) ∧ w'.cell? ⟨w.heap.size + 1, 0, none⟩ = some (.int .i64 i) ∧ w'.cell? ⟨w.heap.size + 2, 0, none⟩ = some (.int .i64 j) ∧ w'.cell? ⟨gA, n * 2, none⟩ = some (.int .i64 qi))) := Lib.hid fun w' hg => by
        have PY := P4.fresh hg
        obtain ⟨⟨a0, a1, a2, a3, a4, _⟩, ⟨e0, e1, _⟩, ⟨f0, f1, _⟩, _⟩ := PY.cells
        obtain ⟨gA', cA', eA', c0, c1⟩ := Arena.told_cell (Arena.owns_fresh HA.out hg) hq
        cases eA'
        exact ⟨a0, a1, a2, a3, a4, e0, f0, c0⟩
      have DA := Lib.hid (fun w' (hg : Below wr.heap.size wr w') => D.out w' (PX.fresh hg) qi qg hqn)
      have DB := Lib.hid (fun w' (hg : Below wr.heap.size wr w') => D.out w' (PX.fresh hg) i g NI.out)
      have DC := Lib.hid (fun w' (hg : Below wr.heap.size wr w') => D.out w' (PX.fresh hg) j k NJ.out)
      have la := DL.out qi qg hqn
      have lb := DL.out i g NI.out
      have lc := DL.out j k NJ.out
      have NO : Hid (deepOf st i g j k (qi, qg) ≤ 8 → ∀ w', Below w4.heap.size w4 w' → DeepI A (deepOf st i g j k) w4 (A.length - (n + 1)) (.int .i64 ((n : Int) + 1)) w') := Lib.hid fun hle w' hg => ⟨n + 1, by omega, rfl, by go_num, fun m q' hm hq' => by
        by_cases e : m = n
        · subst e; rw [hq] at hq'; cases hq'; exact hle
        · exact hall m q' (by omega) hq', hg⟩
      have YES : Hid (8 < deepOf st i g j k (qi, qg) → sp = st ∧ pn = 5) := Lib.hid fun hgt => by
        rcases HR.out with ⟨_, h2, h3⟩ | ⟨h2, _, _⟩
        · exact ⟨h2, h3⟩
        · have := HD2.out h2 _ (List.mem_of_getElem? hq); omega
      have hdp : deepOf st i g j k (qi, qg) = ((upsOf st qi qg).length : Int) - (upsOf st i g).length + (upsOf st j k).length + 1 := rfl
      rw [hdp] at NO YES
      have s1 : (n : Int) < A.length := by omega
      have sA : (A.length : Int) ≤ 4096 := by omega
      have hgd := (Below.refl wr.heap.size wr).drew
      have HN1 := Lib.hid (fun w5 (hg5 : Below wr.heap.size wr w5) => HC.out _ (hb.trans (hg5.mono hb.size)))
      have PF := Lib.hid (fun w5 (hg5 : Below wr.heap.size wr w5) => PX.fresh hg5)
      obtain ⟨b0, b1, b2, b3, b4, x0, d0, a0⟩ := HC.out _ hb
      clear HC hqn HM D DL HA hq hall P4 HD1 HD2 HR NI NJ hdp FIN P
      generalize (upsOf st qi qg).length = a at *
      generalize (upsOf st i g).length = b at *
      generalize (upsOf st j k).length = c at *
      have w1' : IntKind.i64.wrap ((a : Int) - b) = (a : Int) - b := by rw [IntKind.wrap_i64]; omega
      have w2' : IntKind.i64.wrap ((a : Int) - b + c) = (a : Int) - b + c := by rw [IntKind.wrap_i64]; omega
      have w3' : IntKind.i64.wrap ((a : Int) - b + c + 1) = (a : Int) - b + c + 1 := by rw [IntKind.wrap_i64]; omega
      obtain ⟨dd, hdd⟩ : ∃ dd, decide ((8 : Int) < (a : Int) - b + c + 1) = dd := ⟨_, rfl⟩
      go_wp2_with fail
      go_region_held3 (fun w' => w'.cell? ⟨w.heap.size, 0, none⟩ = some (.int .i64 r) ∧ w'.cell? ⟨w.heap.size, 1, none⟩ = some (.slice p1 dn q1) ∧ w'.cell? ⟨w.heap.size, 2, none⟩ = some (.slice p2 dn q2) ∧ w'.cell? ⟨w.heap.size, 3, none⟩ = some (.slice p3 dn q3) ∧ w'.cell? ⟨w.heap.size, 4, none⟩ = some (.slice p4 df q4) ∧ w'.cell? ⟨w.heap.size + 1, 0, none⟩ = some (.int .i64 i) ∧ w'.cell? ⟨w.heap.size + 2, 0, none⟩ = some (.int .i64 j) ∧ w'.cell? ⟨gA, n * 2, none⟩ = some (.int .i64 qi)) (first | exact ⟨b0, b1, b2, b3, b4, x0, d0, a0⟩ | exact ce | exact cf | exact ch)
        (first
          | (go_at_call 26; (with_reducible refine (DA.out _ hgd).mono ?_); rintro e w5 ⟨rfl, hg5⟩; replace hg5 := hgd.trans (hg5.mono hgd.size); have ce := HN1.out _ hg5)
          | (go_at_call 26; (with_reducible refine (DB.out _ hg5).mono ?_); rintro e w6 ⟨rfl, hg6⟩; replace hg6 := hg5.trans (hg6.mono hg5.size); have cf := HN1.out _ hg6)
          | (go_at_call 26; (with_reducible refine (DC.out _ hg6).mono ?_); rintro e w7 ⟨rfl, hg7⟩; replace hg7 := hg6.trans (hg7.mono hg6.size); have ch := HN1.out _ hg7))
      clear w1' w2' w3' ce cf ch b0 b1 b2 b3 b4 x0 d0 a0 DA DB DC HN1
      have P7 := PF.out _ hg7
      cases dd
      · have F1 := Lib.hid (NO.out (by have := of_decide_eq_false hdd; omega) w7 (hb.trans (hg7.mono hb.size)))
        clear NO YES PF FIN5 hdd
        go_wp2_with fail
        go_roundg (A.length - (n + 1))
        case measure => omega
        case rel => exact F1.out
      · obtain ⟨rfl, rfl⟩ := YES.out (of_decide_eq_true hdd)
        have F1 := Lib.hid (FIN5.out _ _ P7.b rfl)
        unfold put5 at F1
        obtain ⟨⟨b0, b1, b2, b3, b4, bz⟩, ⟨x0, x1, xz⟩, ⟨d0, d1, dz⟩, ⟨y0, y1, y2, y3, y4, yz⟩⟩ := P7.cells
        clear NO YES PF FIN5 hdd
        go_wp2_with fail
        refine bodyPost_ret (v := .tuple #[.agg #[.int .i64 r, .slice p1 dn q1, .slice p2 dn q2, .slice p3 dn q3, .slice p4 df q4], .int .i64 5]) (by simp [results, Try.results13, go_sem, y0, y1, y2, y3, y4]) rfl ?_
        exact F1.out
    · obtain rfl : n = A.length := by omega
      have s1 : ¬ (A.length : Int) < A.length := by omega
      have HALL := Lib.hid hall
      clear hall hlt
      obtain ⟨h2, h3, h4⟩ : ((upsOf st j k).length : Int) + 1 + reachOf st i g ≤ 8 ∧ sp = st.set i g j k ∧ pn = 0 := by
        rcases HR.out with ⟨h2, _, _⟩ | h2
        · obtain ⟨q, hq, hgt⟩ := HD1.out h2
          obtain ⟨m, hm⟩ := List.mem_iff_getElem?.1 hq
          have := HALL.out m q (List.getElem?_eq_some_iff.1 hm).1 hm
          omega
        · exact h2
      rw [← h3] at P
      subst h4
      clear h2 h3 HALL HR HD1 HD2 HM D DL FIN5 NI NJ HA P4
      have hszr : w.heap.size + 3 < wr.heap.size := by have := hb.size; omega
      generalize (doc st).err i g = er at *
      obtain ⟨⟨b0, b1, b2, b3, b4, bz⟩, ⟨x0, x1, xz⟩, ⟨d0, d1, dz⟩, _⟩ := PX.cells
      clear hb hsz4
      go_wp2_with fail
      go_at_call 38; refine (P.out _ PX).mono ?_; rintro e w5 ⟨u1, u2, u3, u4, rfl, hR, hN, hg5⟩
      obtain ⟨t1, c1, e1⟩ := Arena.owns_shape hR.o1
      obtain ⟨t2, c2, e2⟩ := Arena.owns_shape hR.o2
      obtain ⟨t3, c3, e3⟩ := Arena.owns_shape hR.o3
      obtain ⟨t4, c4, e4⟩ := Arena.owns_shape hR.o4
      subst e1 e2 e3 e4
      have ek1 : w5.heap.size ≠ w.heap.size + 3 := by have := hg5.size; omega
      have F1 := Lib.hid (fun W' => FIN.out wr w5 _ _ _ _ W' PX hR hN hg5 hszr)
      have P6 := (PX.fresh hg5).fresh (alloc1 w5 (.cells #[.int .i64 r, .slice t1 (doc sp).pl.length c1, .slice t2 (doc sp).pl.length c2, .slice t3 (doc sp).pl.length c3, .slice t4 (doc sp).fr.length c4] 29))
      generalize (doc sp).pl.length = mn at *
      generalize (doc sp).fr.length = mf at *
      have a7 := Arena.five (heap_alloc_new w5 (.cells #[.int .i64 r, .slice t1 mn c1, .slice t2 mn c2, .slice t3 mn c3, .slice t4 mf c4] 29))
      obtain ⟨_, _, _, ⟨y0, y1, y2, y3, y4, yz⟩⟩ := P6.cells
      obtain ⟨k0, k1, k2, k3, k4, kz⟩ := a7
      unfold put5 at F1
      clear FIN P PX P6 hR hN hg5 hszr b0 b1 b2 b3 b4 bz x0 x1 xz d0 d1 dz
      go_wp2_with fail
      refine bodyPost_ret (v := .tuple #[.agg #[.int .i64 r, .slice t1 mn c1, .slice t2 mn c2, .slice t3 mn c3, .slice t4 mf c4], .int .i64 0]) (by simp [results, Try.results13, go_sem, y0, y1, y2, y3, y4]) rfl ?_
      exact F1.out _ rfl
end Go.Proofs.Ytanahddlnchioaa.Gt
