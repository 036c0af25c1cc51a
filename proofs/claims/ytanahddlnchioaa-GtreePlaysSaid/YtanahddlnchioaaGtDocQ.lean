/- What Parent of the document's tree answers. Conditions: as each fact states them. -/
import Derived.Test.YtanahddlnchioaaGtDocB
import Derived.Test.YtanahddlnchioaaGtSame
namespace Go.Proofs.Ytanahddlnchioaa.Gt
open Go.ChangeShapes Go.WideShapes Go.ChangeAt Go.RowKit Hp
set_option linter.unusedVariables false
set_option linter.unusedSimpArgs false
set_option maxRecDepth 100000

def treO (r : Int) (v1 v2 v3 v4 : Value) : Obj := .cells #[.int .i64 r, v1, v2, v3, v4] 31 (0, 0)
def hanO (i g : Int) : Obj := .cells #[.int .i64 i, .int .i64 g] 34 (0, 0)
/-- Where the boxes of a call with one handle stand: the tree's, the handle's, the answer's. -/
structure Box3 (w : World) (r : Int) (v1 v2 v3 v4 : Value) (i g : Int) (W : World) : Prop where
  t : W.heap[w.heap.size]? = some (treO r v1 v2 v3 v4)
  h : W.heap[w.heap.size + 1]? = some (hanO i g)
  z : W.heap[w.heap.size + 2]? = some (hanO 0 0)
  b : Below w.heap.size w W
theorem box3 (w : World) (r : Int) (v1 v2 v3 v4 : Value) (i g : Int) : Box3 w r v1 v2 v3 v4 i g (((w.alloc (treO r v1 v2 v3 v4)).alloc (hanO i g)).alloc (hanO 0 0)) := by
  refine ⟨heap_fresh (heap_fresh (heap_alloc_new w _) (alloc1 _ _)) (alloc1 _ _), heap_fresh ?_ (alloc1 _ _), ?_, (((Below.refl w.heap.size w).alloc (Nat.le_refl _) _).alloc (by simp) _).alloc (by simp; omega) _⟩
  · simpa using heap_alloc_new (w.alloc (treO r v1 v2 v3 v4)) (hanO i g)
  · simpa using heap_alloc_new ((w.alloc (treO r v1 v2 v3 v4)).alloc (hanO i g)) (hanO 0 0)
theorem Box3.fresh {w W W' : World} {r : Int} {v1 v2 v3 v4 : Value} {i g : Int} (h : Box3 w r v1 v2 v3 v4 i g W) (hg : Below W.heap.size W W') : Box3 w r v1 v2 v3 v4 i g W' :=
  ⟨heap_fresh h.t hg, heap_fresh h.h hg, heap_fresh h.z hg, h.b.trans (hg.mono h.b.size)⟩
theorem Box3.cells {w W : World} {r : Int} {v1 v2 v3 v4 : Value} {i g : Int} (h : Box3 w r v1 v2 v3 v4 i g W) :
    (W.cell? ⟨w.heap.size, 0, none⟩ = some (.int .i64 r) ∧ W.cell? ⟨w.heap.size, 1, none⟩ = some v1 ∧ W.cell? ⟨w.heap.size, 2, none⟩ = some v2 ∧ W.cell? ⟨w.heap.size, 3, none⟩ = some v3 ∧ W.cell? ⟨w.heap.size, 4, none⟩ = some v4 ∧ ∀ j, W.frozen? ⟨w.heap.size, j, none⟩ = false) ∧
    (W.cell? ⟨w.heap.size + 1, 0, none⟩ = some (.int .i64 i) ∧ W.cell? ⟨w.heap.size + 1, 1, none⟩ = some (.int .i64 g) ∧ ∀ j, W.frozen? ⟨w.heap.size + 1, j, none⟩ = false) ∧
    (W.cell? ⟨w.heap.size + 2, 0, none⟩ = some (.int .i64 0) ∧ W.cell? ⟨w.heap.size + 2, 1, none⟩ = some (.int .i64 0) ∧ ∀ j, W.frozen? ⟨w.heap.size + 2, j, none⟩ = false) := by
  have h1 : W.heap[w.heap.size]? = some (.cells #[.int .i64 r, v1, v2, v3, v4] 31 (0, 0)) := h.t
  have h2 : W.heap[w.heap.size + 1]? = some (.cells #[.int .i64 i, .int .i64 g] 34 (0, 0)) := h.h
  have h3 : W.heap[w.heap.size + 2]? = some (.cells #[.int .i64 0, .int .i64 0] 34 (0, 0)) := h.z
  exact ⟨Arena.five h1, Arena.pair h2, Arena.pair h3⟩
/-- The gen of the place within which a group is. -/
theorem doc_gen {st : St} {i g : Int} (hn : st.names i g = true) : ∃ k : Nat, i = k ∧ k < st.pl.length ∧ (Arena.cG (doc st).pl)[k]? = some (.int .i64 g) := by
  obtain ⟨k, q, rfl, hq, hf, rfl⟩ := St.named hn
  refine ⟨k, rfl, (List.getElem?_eq_some_iff.1 hq).1, ?_⟩
  unfold Arena.cG doc
  rw [List.getElem?_map, docL_at, hq]
  rfl
theorem below_two {w W : World} {n b : Nat} (h : Below n w W) (hb : n ≤ b) (x y : Value) : Below n w ((W.setCell ⟨b, 0, none⟩ x).setCell ⟨b, 1, none⟩ y) :=
  (h.setCell (p := ⟨b, 0, none⟩) hb x).setCell (p := ⟨b, 1, none⟩) hb y
theorem doc_len (st : St) : (doc st).pl.length = st.pl.length := docL_length st.pl
set_option maxHeartbeats 4000000 in
theorem refParent_none (w : World) (B : Nat) (r : Int) (v1 v2 v3 v4 : Value) (st : St) (i g : Int) (h : Arena.RefAt B v1 v2 v3 v4 (doc st) w) (h1 : st.pl.length ≤ 4096) (hn : st.names i g = false) :
    Calls Try.prog 41 #[.agg #[.int .i64 r, v1, v2, v3, v4], .agg #[.int .i64 i, .int .i64 g]] w (IsTwo 0 0 2 w) := by
  have PB := box3 w r v1 v2 v3 v4 i g
  have N := Lib.hid (fun W (hB : Box3 w r v1 v2 v3 v4 i g W) => Arena.refNames W B r v1 v2 v3 v4 (doc st) i g (h.fresh hB.b) (by rw [doc_len]; exact h1))
  rw [doc_names, hn] at N
  unfold treO hanO at PB
  clear h hn
  go_enter Try.func41, Try.ntmps41
  go_wp2_with fail
  generalize ((w.alloc _).alloc _).alloc _ = W at *
  go_at_call 25; refine (N.out _ PB).mono ?_; rintro e w1 ⟨rfl, hg1⟩
  have P1 := PB.fresh hg1
  obtain ⟨⟨b0, b1, b2, b3, b4, bz⟩, ⟨x0, x1, xz⟩, ⟨y0, y1, yz⟩⟩ := P1.cells
  have hB := below_two P1.b (show w.heap.size ≤ w.heap.size + 2 by omega) (.int .i64 0) (.int .i64 0)
  go_wp2_with fail
  refine bodyPost_ret (v := .tuple #[.agg #[.int .i64 0, .int .i64 0], .int .i64 2]) (by simp [results, Try.results41, go_sem, y0, y1]) rfl ?_
  exact ⟨rfl, hB⟩
set_option maxHeartbeats 4000000 in
theorem refParent_some (w : World) (B : Nat) (r : Int) (v1 v2 v3 v4 : Value) (st : St) (i g : Int) (l : List (Int × Int)) (h : Arena.RefAt B v1 v2 v3 v4 (doc st) w) (h1 : st.pl.length ≤ 4096) (hu : Ups st i g l) :
    Calls Try.prog 41 #[.agg #[.int .i64 r, v1, v2, v3, v4], .agg #[.int .i64 i, .int .i64 g]] w (IsTwo (parI st i g) (parG st i g) (parN i g) w) := by
  have PB := box3 w r v1 v2 v3 v4 i g
  have N := Lib.hid (fun W (hB : Box3 w r v1 v2 v3 v4 i g W) => Arena.refNames W B r v1 v2 v3 v4 (doc st) i g (h.fresh hB.b) (by rw [doc_len]; exact h1))
  rw [doc_names, hu.named] at N
  have hH := Lib.hid (fun W (hB : Box3 w r v1 v2 v3 v4 i g W) => h.fresh hB.b)
  have hlen := doc_len st
  cases l with
  | nil =>
    obtain ⟨rfl, rfl, hz⟩ := hu.nil
    obtain ⟨kk, e, hkl, hv⟩ := doc_val hu.named
    obtain rfl : kk = 0 := by omega
    have CV : Hid (∀ W, Box3 w r v1 v2 v3 v4 0 0 W → ∃ gb cp, v1 = .slice (some ⟨gb, 0, none⟩) st.pl.length cp ∧ W.cell? ⟨gb, 0, none⟩ = some (.int .i64 (-1))) := fun W hB => by
      obtain ⟨gb, cp, hsl, c0, _⟩ := Arena.row_cell (hH.out W hB).o1 hv
      rw [hlen] at hsl
      exact ⟨gb, cp, hsl, c0⟩
    have hp : parI st 0 0 = 0 ∧ parG st 0 0 = 0 ∧ parN 0 0 = 12 := ⟨rfl, rfl, rfl⟩
    rw [hp.1, hp.2.1, hp.2.2]
    have q1 : (0 : Int) < st.pl.length := by omega
    unfold treO hanO at PB
    clear h hu hH hz hv e hp hlen
    go_enter Try.func41, Try.ntmps41
    go_wp2_with fail
    generalize ((w.alloc _).alloc _).alloc _ = W at *
    go_at_call 25; refine (N.out _ PB).mono ?_; rintro e w1 ⟨rfl, hg1⟩
    have P1 := PB.fresh hg1
    obtain ⟨gb, cp, hsl, c0⟩ := CV.out _ P1
    subst hsl
    obtain ⟨⟨b0, b1, b2, b3, b4, bz⟩, ⟨x0, x1, xz⟩, ⟨y0, y1, yz⟩⟩ := P1.cells
    have hB := below_two P1.b (show w.heap.size ≤ w.heap.size + 2 by omega) (.int .i64 0) (.int .i64 0)
    have gd : decide ((-1 : Int) < 0) = true := rfl
    clear CV N
    go_wp2_with fail
    refine bodyPost_ret (v := .tuple #[.agg #[.int .i64 0, .int .i64 0], .int .i64 12]) (by simp [results, Try.results41, go_sem, y0, y1]) rfl ?_
    exact ⟨rfl, hB⟩
  | cons p l =>
    obtain ⟨u0, u1, u2, u3⟩ := hu.not_zero
    obtain ⟨k1, e1, hk1, hv⟩ := doc_val hu.named
    obtain ⟨k2, e2, hk2, hw⟩ := doc_gen u2.named
    have hwi : within st i g = st.thing i g := if_neg (by omega)
    rw [hwi] at hv
    have CV : Hid (∀ W, Box3 w r v1 v2 v3 v4 i g W → ∃ gb cp gc cq, v1 = .slice (some ⟨gb, 0, none⟩) st.pl.length cp ∧ W.cell? ⟨gb, k1, none⟩ = some (.int .i64 (st.thing i g)) ∧ v3 = .slice (some ⟨gc, 0, none⟩) st.pl.length cq ∧ W.cell? ⟨gc, k2, none⟩ = some (.int .i64 (st.tgen i g))) := fun W hB => by
      obtain ⟨gb, cp, hsl, c0, _⟩ := Arena.row_cell (hH.out W hB).o1 hv
      obtain ⟨gc, cq, hsm, c1, _⟩ := Arena.row_cell (hH.out W hB).o3 hw
      rw [hlen] at hsl hsm
      exact ⟨gb, cp, gc, cq, hsl, c0, hsm, c1⟩
    have hir : isRoot i g = false := hu.cons.2.1
    have hp : parI st i g = st.thing i g ∧ parG st i g = st.tgen i g ∧ parN i g = 0 := by simp [parI, parG, parN, hir]
    rw [hp.1, hp.2.1, hp.2.2]
    have q1 : (k1 : Int) < st.pl.length := by omega
    have q2 : (k2 : Int) < st.pl.length := by omega
    have q3 : (st.pl.length : Int) ≤ 4096 := by omega
    unfold treO hanO at PB
    clear h hu hH hv hw hp hlen hwi u1 u2 hir
    generalize st.tgen i g = y at *
    generalize hx : st.thing i g = x at *
    subst e2 e1
    clear hx
    go_enter Try.func41, Try.ntmps41
    go_wp2_with fail
    generalize ((w.alloc _).alloc _).alloc _ = W at *
    go_at_call 25; refine (N.out _ PB).mono ?_; rintro e w1 ⟨rfl, hg1⟩
    have P1 := PB.fresh hg1
    obtain ⟨gb, cp, gc, cq, hsl, c0, hsm, c1⟩ := CV.out _ P1
    subst hsl hsm
    obtain ⟨⟨b0, b1, b2, b3, b4, bz⟩, ⟨x0, x1, xz⟩, ⟨y0, y1, yz⟩⟩ := P1.cells
    have hB := below_two P1.b (show w.heap.size ≤ w.heap.size + 2 by omega) (.int .i64 k2) (.int .i64 y)
    clear CV N
    go_wp2_with fail
    refine bodyPost_ret (v := .tuple #[.agg #[.int .i64 k2, .int .i64 y], .int .i64 0]) (by simp [results, Try.results41, go_sem, y0, y1]) rfl ?_
    exact ⟨rfl, hB⟩
end Go.Proofs.Ytanahddlnchioaa.Gt
