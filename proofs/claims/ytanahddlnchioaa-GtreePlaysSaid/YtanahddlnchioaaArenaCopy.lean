/- What the document's copy of a pool is. Conditions: none. -/
import Derived.Test.YtanahddlnchioaaArenaRefs
namespace Go.Proofs.Ytanahddlnchioaa.Arena
open Go.ChangeShapes Go.WideShapes Go.ChangeAt Go.RowKit
set_option linter.unusedVariables false
set_option linter.unusedSimpArgs false

def IsCop (r : Int) (st : St) (w : World) (e : Ending) (w' : World) : Prop :=
  ∃ g1 c1 g2 c2 g3 c3 g4 c4 : Nat, e = .returned (.agg #[.int .i64 r, .slice (some ⟨g1, 0, none⟩) st.pl.length c1, .slice (some ⟨g2, 0, none⟩) st.pl.length c2, .slice (some ⟨g3, 0, none⟩) st.pl.length c3, .slice (some ⟨g4, 0, none⟩) st.fr.length c4]) ∧
    RefAt w.heap.size (.slice (some ⟨g1, 0, none⟩) st.pl.length c1) (.slice (some ⟨g2, 0, none⟩) st.pl.length c2) (.slice (some ⟨g3, 0, none⟩) st.pl.length c3) (.slice (some ⟨g4, 0, none⟩) st.fr.length c4) st w' ∧ (g1 ≠ g3 ∧ g1 ≠ g4 ∧ g3 ≠ g4) ∧ Below w.heap.size w w'

theorem made {W : World} {base : Nat} {e : TypeId} {g0 : Nat} (h : W.heap.size = g0) (hb : base ≤ g0) : (W.alloc (.cells #[] e)).ownsRow base e 1 (.slice (some ⟨g0, 0, none⟩) 0 0) 0 [] := by
  subst h
  exact World.ownsRow_made W #[] 0 hb (by simp [maxLen]) rfl
theorem Cop.mid' {w W W1 : World} {r : Int} {a1 a2 a3 a4 : Value} {o : Obj} {g0 : Nat} (h : Cop w r a1 a2 a3 a4 W) (hg : (W.alloc o).grownBy W1 (some g0)) (e : W.heap.size = g0) : Cop w r a1 a2 a3 a4 W1 ∧ W.grownBy W1 (some w.heap.size) := by
  subst e
  exact h.mid hg
theorem five_alloc {w : World} {b : Nat} {a0 a1 a2 a3 a4 : Value} {t : TypeId} (hb : w.heap[b]? = some (.cells #[a0, a1, a2, a3, a4] t (0, 0))) :
    ∀ o, (w.alloc o).cell? ⟨b, 0, none⟩ = some a0 ∧ (w.alloc o).cell? ⟨b, 1, none⟩ = some a1 ∧ (w.alloc o).cell? ⟨b, 2, none⟩ = some a2 ∧ (w.alloc o).cell? ⟨b, 3, none⟩ = some a3 ∧ (w.alloc o).cell? ⟨b, 4, none⟩ = some a4 := by
  intro o
  obtain ⟨h0, h1, h2, h3, h4, _⟩ := five hb
  exact ⟨cell_alloc h0 o, cell_alloc h1 o, cell_alloc h2 o, cell_alloc h3 o, cell_alloc h4 o⟩
theorem set5_grown (w : World) (b : Nat) (x0 x1 x2 x3 x4 : Value) : w.grownBy (((((w.setCell ⟨b, 0, none⟩ x0).setCell ⟨b, 1, none⟩ x1).setCell ⟨b, 2, none⟩ x2).setCell ⟨b, 3, none⟩ x3).setCell ⟨b, 4, none⟩ x4) (some b) := by
  have one : ∀ (w : World) j x, w.grownBy (w.setCell ⟨b, j, none⟩ x) (some b) := fun w j x => ⟨rfl, rfl, rfl, by simp [World.setCell], fun k _ hk => Below.heap_setCell _ _ _ _ (fun e => hk (by simp [e]))⟩
  exact ((((one _ _ _).trans (one _ _ _)).trans (one _ _ _)).trans (one _ _ _)).trans (one _ _ _)
theorem kept_own {a b : World} {B : Nat} {e : TypeId} {n : Nat} {g c k : Nat} {xs : List Value} (h : a.ownsRow B e 1 (.slice (some ⟨g, 0, none⟩) n c) n xs) (hg : a.grownBy b (some k)) (hne : g ≠ k) : b.ownsRow B e 1 (.slice (some ⟨g, 0, none⟩) n c) n xs :=
  h.kept hg (.inr (by simpa [Value.ownBlock] using hne))

set_option maxRecDepth 100000 in
set_option maxHeartbeats 1000000 in
theorem copied (w : World) (B : Nat) (r : Int) (v1 v2 v3 v4 : Value) (st : St) (h : RefAt B v1 v2 v3 v4 st w) (h1 : st.pl.length ≤ 4096) (h2 : st.fr.length ≤ 4096) :
    Calls Try.prog 50 #[.agg #[.int .i64 r, v1, v2, v3, v4]] w (IsCop r st w) := by
  obtain ⟨i0, hi, hz0, hz1, hz2⟩ := info_parts infoI
  obtain ⟨j0, ji, jz0, jz1, jz2⟩ := info_parts infoB
  have hC0 := Cop.start w r v1 v2 v3 v4
  have hB0 := hC0.below
  obtain ⟨p1, q1, e1⟩ := owns_shape h.o1
  obtain ⟨p2, q2, e2⟩ := owns_shape h.o2
  obtain ⟨p3, q3, e3⟩ := owns_shape h.o3
  obtain ⟨p4, q4, e4⟩ := owns_shape h.o4
  subst e1 e2 e3 e4
  go_enter Try.func50, Try.ntmps50
  go_upto_region 1 with fail
  clear hB0
  generalize (w.alloc (.cells #[.int .i64 r, .slice p1 st.pl.length q1, .slice p2 st.pl.length q2, .slice p3 st.pl.length q3, .slice p4 st.fr.length q4] 29)).alloc (.cells #[.int .i64 0, .slice none 0 0, .slice none 0 0, .slice none 0 0, .slice none 0 0] 29) = W0 at hC0 ⊢
  obtain ⟨k0, k1, k2, k3, k4, kz⟩ := five hC0.box
  have ka := five_alloc hC0.box
  have d1 := ka (.cells #[] 3)
  obtain ⟨x0, x1, x2, x3, x4⟩ := d1
  have r1 := owns_fresh h.o1 hC0.below
  have z1 := hC0.lt
  go_upto_region 2 with (at_builtin; refine wpList_append_copy _ rfl (.tmp 3) (.tmp 5) 26 rfl w.heap.size 3 i0 _ 1 8 Try.underlying26 hi hz0 hz1 hz2 rfl (by decide) W0.heap.size 0 0 [] rfl (made rfl (by omega)) B _ _ _ rfl (r1.alloc _) (oneV _) (by simp only [maxLen]; omega) (by omega) (by simp; omega) (W0.heap.size + 1) (by simp) ?_; intro g1 c1 w1 own1 hgrow1 hat1; simp only [Nat.zero_add, List.nil_append] at own1; obtain ⟨hM1, hG1⟩ := hC0.mid' hgrow1 rfl; obtain ⟨m0, m1, m2, m3, m4, mz⟩ := five hM1.box)
  have hC1 := (hM1.store (.slice (some ⟨g1, 0, none⟩) st.pl.length c1)).1.1
  have hS1 := (hM1.store (.slice (some ⟨g1, 0, none⟩) st.pl.length c1)).2 1
  have gl1 := (own1.lt g1 rfl).2
  have gb1 : g1 ≠ w.heap.size := by omega
  replace own1 := kept_own own1 hS1 gb1
  have hs1 : w1.heap.size ≤ (w1.setCell ⟨w.heap.size, 1, none⟩ (.slice (some ⟨g1, 0, none⟩) st.pl.length c1)).heap.size := hS1.size
  clear k0 k1 k2 k3 k4 kz ka x0 x1 x2 x3 x4 m0 m1 m2 m3 m4 mz hM1 hS1 hgrow1 hC0 r1
  have hw1 := hG1.size
  generalize w1.setCell ⟨w.heap.size, 1, none⟩ (.slice (some ⟨g1, 0, none⟩) st.pl.length c1) = W1 at *
  obtain ⟨k0, k1, k2, k3, k4, kz⟩ := five hC1.box
  have ka := five_alloc hC1.box
  have d2 := ka (.cells #[] 4)
  obtain ⟨x0, x1, x2, x3, x4⟩ := d2
  have r2 := owns_fresh h.o2 hC1.below
  have z2 := hC1.lt
  go_upto_region 3 with (at_builtin; refine wpList_append_copy _ rfl (.tmp 8) (.tmp 10) 27 rfl w.heap.size 4 j0 _ 1 1 Try.underlying27 ji jz0 jz1 jz2 rfl (by decide) W1.heap.size 0 0 [] rfl (made rfl (by omega)) B _ _ _ rfl (r2.alloc _) (oneU _) (by simp only [maxLen]; omega) (by omega) (by simp; omega) (W1.heap.size + 1) (by simp) ?_; intro g2 c2 w2 own2 hgrow2 hat2; simp only [Nat.zero_add, List.nil_append] at own2; obtain ⟨hM2, hG2⟩ := hC1.mid' hgrow2 rfl; obtain ⟨m0, m1, m2, m3, m4, mz⟩ := five hM2.box)
  have hC2 := (hM2.store (.slice (some ⟨g2, 0, none⟩) st.pl.length c2)).1.2.1
  have hS2 := (hM2.store (.slice (some ⟨g2, 0, none⟩) st.pl.length c2)).2 2
  have gl2 := (own2.lt g2 rfl).2
  have gb2 : g2 ≠ w.heap.size := by omega
  replace own2 := kept_own own2 hS2 gb2
  have hs2 : w2.heap.size ≤ (w2.setCell ⟨w.heap.size, 2, none⟩ (.slice (some ⟨g2, 0, none⟩) st.pl.length c2)).heap.size := hS2.size
  replace own1 := kept_own (kept_own own1 hG2 gb1) hS2 gb1
  clear k0 k1 k2 k3 k4 kz ka x0 x1 x2 x3 x4 m0 m1 m2 m3 m4 mz hM2 hS2 hgrow2 hC1 r2
  have hw2 := hG2.size
  generalize w2.setCell ⟨w.heap.size, 2, none⟩ (.slice (some ⟨g2, 0, none⟩) st.pl.length c2) = W2 at *
  obtain ⟨k0, k1, k2, k3, k4, kz⟩ := five hC2.box
  have ka := five_alloc hC2.box
  have d3 := ka (.cells #[] 3)
  obtain ⟨x0, x1, x2, x3, x4⟩ := d3
  have r3 := owns_fresh h.o3 hC2.below
  have z3 := hC2.lt
  go_upto_region 4 with (at_builtin; refine wpList_append_copy _ rfl (.tmp 13) (.tmp 15) 26 rfl w.heap.size 3 i0 _ 1 8 Try.underlying26 hi hz0 hz1 hz2 rfl (by decide) W2.heap.size 0 0 [] rfl (made rfl (by omega)) B _ _ _ rfl (r3.alloc _) (oneG _) (by simp only [maxLen]; omega) (by omega) (by simp; omega) (W2.heap.size + 1) (by simp) ?_; intro g3 c3 w3 own3 hgrow3 hat3; simp only [Nat.zero_add, List.nil_append] at own3; obtain ⟨hM3, hG3⟩ := hC2.mid' hgrow3 rfl; obtain ⟨m0, m1, m2, m3, m4, mz⟩ := five hM3.box)
  have hC3 := (hM3.store (.slice (some ⟨g3, 0, none⟩) st.pl.length c3)).1.2.2.1
  have hS3 := (hM3.store (.slice (some ⟨g3, 0, none⟩) st.pl.length c3)).2 3
  have gl3 := (own3.lt g3 rfl).2
  have gb3 : g3 ≠ w.heap.size := by omega
  replace own3 := kept_own own3 hS3 gb3
  have hs3 : w3.heap.size ≤ (w3.setCell ⟨w.heap.size, 3, none⟩ (.slice (some ⟨g3, 0, none⟩) st.pl.length c3)).heap.size := hS3.size
  replace own1 := kept_own (kept_own own1 hG3 gb1) hS3 gb1
  replace own2 := kept_own (kept_own own2 hG3 gb2) hS3 gb2
  clear k0 k1 k2 k3 k4 kz ka x0 x1 x2 x3 x4 m0 m1 m2 m3 m4 mz hM3 hS3 hgrow3 hC2 r3
  have hw3 := hG3.size
  generalize w3.setCell ⟨w.heap.size, 3, none⟩ (.slice (some ⟨g3, 0, none⟩) st.pl.length c3) = W3 at *
  obtain ⟨k0, k1, k2, k3, k4, kz⟩ := five hC3.box
  have ka := five_alloc hC3.box
  have d4 := ka (.cells #[] 3)
  obtain ⟨x0, x1, x2, x3, x4⟩ := d4
  have r4 := owns_fresh h.o4 hC3.below
  have z4 := hC3.lt
  go_upto_region 5 with (at_builtin; refine wpList_append_copy _ rfl (.tmp 18) (.tmp 20) 26 rfl w.heap.size 3 i0 _ 1 8 Try.underlying26 hi hz0 hz1 hz2 rfl (by decide) W3.heap.size 0 0 [] rfl (made rfl (by omega)) B _ _ _ rfl (r4.alloc _) (oneI _) (by simp only [maxLen]; omega) (by omega) (by simp; omega) (W3.heap.size + 1) (by simp) ?_; intro g4 c4 w4 own4 hgrow4 hat4; simp only [Nat.zero_add, List.nil_append] at own4; obtain ⟨hM4, hG4⟩ := hC3.mid' hgrow4 rfl; obtain ⟨m0, m1, m2, m3, m4, mz⟩ := five hM4.box)
  have hC4 := (hM4.store (.slice (some ⟨g4, 0, none⟩) st.fr.length c4)).1.2.2.2
  have hS4 := (hM4.store (.slice (some ⟨g4, 0, none⟩) st.fr.length c4)).2 4
  have gl4 := (own4.lt g4 rfl).2
  have gb4 : g4 ≠ w.heap.size := by omega
  replace own4 := kept_own own4 hS4 gb4
  have hs4 : w4.heap.size ≤ (w4.setCell ⟨w.heap.size, 4, none⟩ (.slice (some ⟨g4, 0, none⟩) st.fr.length c4)).heap.size := hS4.size
  replace own1 := kept_own (kept_own own1 hG4 gb1) hS4 gb1
  replace own2 := kept_own (kept_own own2 hG4 gb2) hS4 gb2
  replace own3 := kept_own (kept_own own3 hG4 gb3) hS4 gb3
  clear k0 k1 k2 k3 k4 kz ka x0 x1 x2 x3 x4 m0 m1 m2 m3 m4 mz hM4 hS4 hgrow4 hC3 r4
  have hw4 := hG4.size
  generalize w4.setCell ⟨w.heap.size, 4, none⟩ (.slice (some ⟨g4, 0, none⟩) st.fr.length c4) = W4 at *
  obtain ⟨k0, k1, k2, k3, k4, kz⟩ := five hC4.box
  obtain ⟨y0, y1, y2, y3, y4, yz⟩ := five hC4.res
  go_wp2
  refine bodyPost_ret (v := .agg #[.int .i64 r, .slice (some ⟨g1, 0, none⟩) st.pl.length c1, .slice (some ⟨g2, 0, none⟩) st.pl.length c2, .slice (some ⟨g3, 0, none⟩) st.pl.length c3, .slice (some ⟨g4, 0, none⟩) st.fr.length c4]) (by simp [results, Try.results50, go_sem, y0, y1, y2, y3, y4]) rfl ?_
  have hE := set5_grown W4 (w.heap.size + 1) (.int .i64 r) (.slice (some ⟨g1, 0, none⟩) st.pl.length c1) (.slice (some ⟨g2, 0, none⟩) st.pl.length c2) (.slice (some ⟨g3, 0, none⟩) st.pl.length c3) (.slice (some ⟨g4, 0, none⟩) st.fr.length c4)
  exact ⟨g1, c1, g2, c2, g3, c3, g4, c4, rfl, ⟨kept_own own1 hE (by omega), kept_own own2 hE (by omega), kept_own own3 hE (by omega), kept_own own4 hE (by omega)⟩, ⟨by omega, by omega, by omega⟩, hC4.below.grown hE (by omega) (by intro k hk; simp at hk; omega)⟩
end Go.Proofs.Ytanahddlnchioaa.Arena
