/- What the document's Set does. Conditions: none. -/
import Derived.Test.YtanahddlnchioaaArenaBox
namespace Go.Proofs.Ytanahddlnchioaa.Arena
open Go.ChangeShapes Go.WideShapes Go.ChangeAt Go.RowKit
set_option linter.unusedVariables false
set_option linter.unusedSimpArgs false

theorem boxes3 {w w1 : World} {o o' o'' : Obj} (hg : Below (((w.alloc o).alloc o').alloc o'').heap.size (((w.alloc o).alloc o').alloc o'') w1) : w1.heap[w.heap.size]? = some o ∧ w1.heap[w.heap.size + 1]? = some o' ∧ w1.heap[w.heap.size + 2]? = some o'' ∧ Below w.heap.size w w1 ∧ w.heap.size + 2 < w1.heap.size := by
  obtain ⟨h1, h2, h3⟩ := boxes2 (w := w.alloc o) hg
  simp only [World.size_alloc] at h1 h2 h3
  refine ⟨?_, h1, h2, ((Below.refl _ w).alloc (Nat.le_refl _) o).trans (h3.mono (by omega)), lt_of h2⟩
  rw [h3.block _ (by omega)]
  exact heap_alloc_new w o

/-- The blocks of us are those of vs, or new ones. -/
def Near (us vs : List Value) (n : Nat) : Prop := ∀ u ∈ us, ∀ k, u.ownBlock = some k → (∃ v ∈ vs, v.ownBlock = some k) ∨ n ≤ k
theorem Near.refl (vs : List Value) (n : Nat) : Near vs vs n := fun u hu k hk => .inl ⟨u, hu, hk⟩
theorem Near.new {B : Nat} {v1 v2 v3 v4 : Value} {st : St} {w : World} (h : RefAt B v1 v2 v3 v4 st w) (vs : List Value) {n : Nat} (hn : n ≤ B) : Near [v1, v2, v3, v4] vs n := by
  intro u hu k hk
  simp at hu
  rcases hu with rfl | rfl | rfl | rfl
  · exact .inr (Nat.le_trans hn (h.o1.lt k hk).1)
  · exact .inr (Nat.le_trans hn (h.o2.lt k hk).1)
  · exact .inr (Nat.le_trans hn (h.o3.lt k hk).1)
  · exact .inr (Nat.le_trans hn (h.o4.lt k hk).1)
def zero31 : Obj := .cells #[.int .i64 0, .slice none 0 0, .slice none 0 0, .slice none 0 0, .slice none 0 0] 29 (0, 0)

def IsSet (B : Nat) (r : Int) (v1 v2 v3 v4 : Value) (n : Int) (st : St) (w : World) (e : Ending) (w' : World) : Prop :=
  ∃ u1 u2 u3 u4, e = .returned (.tuple #[.agg #[.int .i64 r, u1, u2, u3, u4], .int .i64 n]) ∧ RefAt B u1 u2 u3 u4 st w' ∧ Near [u1, u2, u3, u4] [v1, v2, v3, v4] w.heap.size ∧ Below w.heap.size w w'

theorem cV_set (l : List Pl) (k : Nat) (q : Pl) : cV (l.set k q) = (cV l).set k (.int .i64 q.thing) := by simp [cV, List.map_set]
theorem cU_set (l : List Pl) (k : Nat) (q : Pl) : cU (l.set k q) = (cU l).set k (.bool q.full) := by simp [cU, List.map_set]
theorem cG_set (l : List Pl) (k : Nat) (q : Pl) : cG (l.set k q) = (cG l).set k (.int .i64 q.gen) := by simp [cG, List.map_set]
theorem cU_at {l : List Pl} {k : Nat} {q : Pl} (h : l[k]? = some q) : (cU l)[k]? = some (.bool q.full) := by simp [cU, h]
theorem cG_at {l : List Pl} {k : Nat} {q : Pl} (h : l[k]? = some q) : (cG l)[k]? = some (.int .i64 q.gen) := by simp [cG, h]
theorem cV_at {l : List Pl} {k : Nat} {q : Pl} (h : l[k]? = some q) : (cV l)[k]? = some (.int .i64 q.thing) := by simp [cV, h]

theorem QX.ref {B bq : Nat} {r : Int} {u1 u2 u3 u4 : Value} {n1 n2 n3 n4 : Nat} {l1 l2 l3 l4 : List Value} {W W' : World} {st : St} {b : Nat} (h : QX B bq r u1 u2 u3 u4 n1 n2 n3 n4 l1 l2 l3 l4 W) (hg : W.grownBy W' (some b)) (hb : b < B) (e1 : st.pl.length = n1) (e2 : st.pl.length = n2) (e3 : st.pl.length = n3) (e4 : st.fr.length = n4) (f1 : cV st.pl = l1) (f2 : cU st.pl = l2) (f3 : cG st.pl = l3) (f4 : cellsI st.fr = l4) : RefAt B u1 u2 u3 u4 st W' := by
  have key : ∀ {e : TypeId} {v : Value} {n : Nat} {xs : List Value}, W.ownsRow B e 1 v n xs → W'.ownsRow B e 1 v n xs := fun h => kept_box h hg (fun e => by have := (h.lt b e).1; omega)
  refine ⟨?_, ?_, ?_, ?_⟩
  · rw [e1, f1]; exact key h.o1
  · rw [e2, f2]; exact key h.o2
  · rw [e3, f3]; exact key h.o3
  · rw [e4, f4]; exact key h.o4

set_option maxRecDepth 100000 in
set_option maxHeartbeats 1000000 in
theorem refSet_none (w : World) (B : Nat) (r : Int) (v1 v2 v3 v4 : Value) (st : St) (i g x : Int) (h : RefAt B v1 v2 v3 v4 st w) (h1 : st.pl.length ≤ 4096) (hn : st.names i g = false) :
    Calls Try.prog 38 #[.agg #[.int .i64 r, v1, v2, v3, v4], .agg #[.int .i64 i, .int .i64 g], .int .i64 x] w (IsSet B r v1 v2 v3 v4 2 st w) := by
  have C : Hid _ := fun w (h : RefAt B v1 v2 v3 v4 st w) => refNames w B r v1 v2 v3 v4 st i g h h1
  rw [hn] at C
  obtain ⟨p1, q1, e1⟩ := owns_shape h.o1
  obtain ⟨p2, q2, e2⟩ := owns_shape h.o2
  obtain ⟨p3, q3, e3⟩ := owns_shape h.o3
  obtain ⟨p4, q4, e4⟩ := owns_shape h.o4
  subst e1 e2 e3 e4
  go_enter Try.func38, Try.ntmps38
  go_wp2_with (go_at_call 25; refine (C.out _ (h.fresh ((((Below.refl _ w).alloc (Nat.le_refl _) _).alloc (by simp) _).alloc (by simp; omega) _))).mono ?_; rintro e w1 ⟨rfl, hg1⟩; obtain ⟨b1, b2, b3, hg, _⟩ := boxes3 hg1; clear hg1; obtain ⟨k0, k1, k2, k3, k4, _⟩ := five b1; obtain ⟨z0, z1, z2, z3, z4, zz⟩ := five b3)
  refine bodyPost_ret (v := .tuple #[.agg #[.int .i64 r, .slice p1 st.pl.length q1, .slice p2 st.pl.length q2, .slice p3 st.pl.length q3, .slice p4 st.fr.length q4], .int .i64 2]) (by simp [results, Try.results38, go_sem, z0, z1, z2, z3, z4]) rfl ?_
  have hE := hg.grown (set5_grown w1 (w.heap.size + 1 + 1) (.int .i64 r) (.slice p1 st.pl.length q1) (.slice p2 st.pl.length q2) (.slice p3 st.pl.length q3) (.slice p4 st.fr.length q4)) hg.size (by intro k hk; simp at hk; omega)
  exact ⟨_, _, _, _, rfl, h.fresh hE, Near.refl _ _, hE⟩

/-- Behind the copy: its box, and what else lies in memory. -/
theorem box_new {w2 : World} {b : Nat} {o o' : Obj} (h : w2.heap[b]? = some o) : (w2.alloc o').heap[b]? = some o := by
  rw [Below.heap_alloc _ _ _ (lt_of h)]; exact h
theorem box_on {w w' : World} {b k : Nat} {o : Obj} (h : w.heap[b]? = some o) (hg : w.grownBy w' (some k)) (hne : b ≠ k) : w'.heap[b]? = some o := by
  rw [hg.block b (lt_of h) (by simpa using hne)]; exact h
theorem owns_alloc5 {B : Nat} {v1 v2 v3 v4 : Value} {st : St} {w : World} (h : RefAt B v1 v2 v3 v4 st w) (o : Obj) : RefAt B v1 v2 v3 v4 st (w.alloc o) := ⟨h.o1.alloc o, h.o2.alloc o, h.o3.alloc o, h.o4.alloc o⟩

set_option maxRecDepth 100000 in
set_option maxHeartbeats 1000000 in
theorem refSet_some (w : World) (B : Nat) (r : Int) (v1 v2 v3 v4 : Value) (st : St) (k : Nat) (q : Pl) (x : Int) (h : RefAt B v1 v2 v3 v4 st w) (hB : B ≤ w.heap.size) (h1 : st.pl.length ≤ 4096) (h2 : st.fr.length ≤ 4096) (hq : st.pl[k]? = some q) (hqf : q.full = true) :
    Calls Try.prog 38 #[.agg #[.int .i64 r, v1, v2, v3, v4], .agg #[.int .i64 k, .int .i64 q.gen], .int .i64 x] w (IsSet B r v1 v2 v3 v4 0 { st with pl := st.pl.set k ⟨x, true, q.gen⟩ } w) := by
  have hn : st.names k q.gen = true := by simp [St.names, St.at, hq, hqf]
  have C : Hid _ := fun w (h : RefAt B v1 v2 v3 v4 st w) => refNames w B r v1 v2 v3 v4 st k q.gen h h1
  rw [hn] at C
  have hk : k < st.pl.length := (List.getElem?_eq_some_iff.1 hq).1
  have hk1 : (k : Int) < st.pl.length := by omega
  go_enter Try.func38, Try.ntmps38
  go_upto_region 4 with (first
    | (go_at_call 25; refine (C.out _ (h.fresh ((((Below.refl _ w).alloc (Nat.le_refl _) _).alloc (by simp) _).alloc (by simp; omega) _))).mono ?_; rintro e w1 ⟨rfl, hg1⟩; obtain ⟨b1, b2, b3, hg, hlt⟩ := boxes3 hg1; clear hg1; obtain ⟨k0, k1, k2, k3, k4, _⟩ := five b1)
    | (go_at_call 50; refine (copied w1 B r v1 v2 v3 v4 st (h.fresh hg) h1 h2).mono ?_; rintro e w2 ⟨g1, c1, g2, c2, g3, c3, g4, c4, rfl, hR, ⟨d13, d14, d34⟩, hg2⟩))
  have hQ := QX.of (r := r) hR ⟨d13, d14, d34⟩
  have y2 := box_new (o' := .cells #[.int .i64 r, .slice (some ⟨g1, 0, none⟩) st.pl.length c1, .slice (some ⟨g2, 0, none⟩) st.pl.length c2, .slice (some ⟨g3, 0, none⟩) st.pl.length c3, .slice (some ⟨g4, 0, none⟩) st.fr.length c4] 29) ((hg2.block _ (lt_of b2)).trans b2)
  have y3 := box_new (o' := .cells #[.int .i64 r, .slice (some ⟨g1, 0, none⟩) st.pl.length c1, .slice (some ⟨g2, 0, none⟩) st.pl.length c2, .slice (some ⟨g3, 0, none⟩) st.pl.length c3, .slice (some ⟨g4, 0, none⟩) st.fr.length c4] 29) ((hg2.block _ (lt_of b3)).trans b3)
  have hgW := (fresh_trans hg hg2).alloc (fresh_trans hg hg2).size (.cells #[.int .i64 r, .slice (some ⟨g1, 0, none⟩) st.pl.length c1, .slice (some ⟨g2, 0, none⟩) st.pl.length c2, .slice (some ⟨g3, 0, none⟩) st.pl.length c3, .slice (some ⟨g4, 0, none⟩) st.fr.length c4] 29)
  have hBg := (hR.o1.lt g1 rfl).1
  have hg2s := hg2.size
  clear hR b1 b2 b3 hg2
  generalize w2.alloc (.cells #[.int .i64 r, .slice (some ⟨g1, 0, none⟩) st.pl.length c1, .slice (some ⟨g2, 0, none⟩) st.pl.length c2, .slice (some ⟨g3, 0, none⟩) st.pl.length c3, .slice (some ⟨g4, 0, none⟩) st.fr.length c4] 29) = W at *
  generalize w2.heap.size = bq at *
  obtain ⟨m0, m1, m2, m3, m4, mz⟩ := five hQ.box
  obtain ⟨s0, s1, _⟩ := pair y2
  obtain ⟨_, _, ev, t1, t2, _⟩ := row_cell hQ.o1 (cV_at hq)
  cases ev
  have hQ1 := hQ.set1 k (.int .i64 x)
  obtain ⟨n0, n1, n2, n3, n4, nz⟩ := five hQ1.box
  have y3' := box_kept y3 (one_grown W g1 k (.int .i64 x)) (by simp; omega)
  obtain ⟨z0, z1, z2, z3, z4, zz⟩ := five y3'
  go_wp2
  refine bodyPost_ret (v := .tuple #[.agg #[.int .i64 r, .slice (some ⟨g1, 0, none⟩) st.pl.length c1, .slice (some ⟨g2, 0, none⟩) st.pl.length c2, .slice (some ⟨g3, 0, none⟩) st.pl.length c3, .slice (some ⟨g4, 0, none⟩) st.fr.length c4], .int .i64 0]) (by simp [results, Try.results38, go_sem, z0, z1, z2, z3, z4]) rfl ?_
  have hS := set5_grown (W.setCell ⟨g1, k, none⟩ (.int .i64 x)) (w.heap.size + 1 + 1) (.int .i64 r) (.slice (some ⟨g1, 0, none⟩) st.pl.length c1) (.slice (some ⟨g2, 0, none⟩) st.pl.length c2) (.slice (some ⟨g3, 0, none⟩) st.pl.length c3) (.slice (some ⟨g4, 0, none⟩) st.fr.length c4)
  have hgS := hgW.setCell (p := ⟨g1, k, none⟩) (by show w.heap.size ≤ g1; omega) (.int .i64 x)
  have hE := hgS.grown hS hgS.size (by intro j hj; simp at hj; omega)
  have hF := hQ1.ref (st := { st with pl := st.pl.set k ⟨x, true, q.gen⟩ }) hS (by omega) (by simp) (by simp) (by simp) rfl (cV_set _ _ _) (by rw [cU_set, set_eq (by rw [cU_at hq, hqf])]) (by rw [cG_set, set_eq (cG_at hq)]) rfl
  exact ⟨_, _, _, _, rfl, hF.lower (by omega), Near.new hF _ (by omega), hE⟩
end Go.Proofs.Ytanahddlnchioaa.Arena
