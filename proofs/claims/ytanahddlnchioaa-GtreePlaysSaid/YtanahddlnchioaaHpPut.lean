/- What Put of package arena does. Conditions: none. -/
import Derived.Test.YtanahddlnchioaaHpNext
import Derived.Laws.ResultCell
namespace Go.Proofs.Ytanahddlnchioaa.Hp
open Go.ChangeShapes Go.WideShapes Go.ChangeAt Go.RowKit
set_option linter.unusedVariables false
set_option linter.unusedSimpArgs false

def With (O : Nat → Prop) (k : Nat) : Nat → Prop := fun i => O i ∨ i = k
theorem With.lt {O : Nat → Prop} {k n : Nat} (h : ∀ i, O i → i < n) (hk : k < n) : ∀ i, With O k i → i < n := fun i hi => hi.elim (h i) (fun e => e ▸ hk)
theorem Pool.with {w : World} {b : Nat} {O : Nat → Prop} {st : St} (h : Pool w b O st) : Pool w b (With O w.heap.size) st := h.other fun k hk => hk.elim .inl (fun e => .inr (Nat.le_of_eq e.symm))
theorem Pool.without {w : World} {b k : Nat} {O : Nat → Prop} {st : St} (h : Pool w b (With O k) st) : Pool w b O st := h.other fun k hk => .inl (.inl hk)
theorem Same.without {w w' : World} {k : Nat} {O : Nat → Prop} (h : Same (With O k) w w') : Same O w w' := h.mono fun _ => .inl

theorem with_lt {w : World} {O : Nat → Prop} (hO : ∀ k, O k → k < w.heap.size) (o : Obj) (n : Nat) : ∀ k, With O w.heap.size k → k < ((w.alloc o).drewN n).heap.size := by
  have hs : ((w.alloc o).drewN n).heap.size = w.heap.size + 1 := by simp [World.drewN]
  rintro k (hk | rfl)
  · rw [hs]; exact Nat.lt_succ_of_lt (hO k hk)
  · rw [hs]; omega

theorem alloc2d (w : World) (o1 o2 : Obj) (n : Nat) : Below w.heap.size w (((w.alloc o1).alloc o2).drewN n) := fresh_trans (alloc2 w o1 o2) (drawn _ _)
/-- Two boxes more. -/
def With2 (O : Nat → Prop) (k : Nat) : Nat → Prop := With (With O k) (k + 1)
theorem Pool.with2 {w : World} {b : Nat} {O : Nat → Prop} {st : St} (h : Pool w b O st) : Pool w b (With2 O w.heap.size) st := h.other fun k hk => by
  rcases hk with (hk | rfl) | rfl
  · exact .inl hk
  · exact .inr (Nat.le_refl _)
  · exact .inr (Nat.le_succ _)
theorem Pool.without2 {w : World} {b k : Nat} {O : Nat → Prop} {st : St} (h : Pool w b (With2 O k) st) : Pool w b O st := h.other fun k hk => .inl (.inl (.inl hk))
theorem Same.without2 {w w' : World} {k : Nat} {O : Nat → Prop} (h : Same (With2 O k) w w') : Same O w w' := h.mono fun _ hk => .inl (.inl hk)
theorem with2_lt {w : World} {O : Nat → Prop} (hO : ∀ k, O k → k < w.heap.size) (o1 o2 : Obj) (n : Nat) : ∀ k, With2 O w.heap.size k → k < (((w.alloc o1).alloc o2).drewN n).heap.size := by
  have hs : (((w.alloc o1).alloc o2).drewN n).heap.size = w.heap.size + 2 := by simp [World.drewN]
  rintro k ((hk | rfl) | rfl)
  · rw [hs]; have := hO k hk; omega
  · rw [hs]; omega
  · rw [hs]; omega

def IsPut (i g n : Int) (st : St) (b : Nat) (O : Nat → Prop) (w : World) : Ending → World → Prop := Did (.tuple #[.agg #[.int .i64 i, .int .i64 g], .int .i64 n]) st b O w

theorem len_q (w : World) (b : Nat) (O : Nat → Prop) (st : St) (h : Pool w b O st) (h1 : st.pl.length ≤ 4096) (h2 : st.fr.length ≤ 4096) :
    Calls Try.prog 47 #[.pointer (some ⟨b, 0, none⟩)] w (fun e w' => e = .returned (.int .i64 (st.pl.length - st.fr.length)) ∧ ∃ n, w' = w.drewN n) := by
  obtain ⟨vp, vf, hb, ho, hp, hf⟩ := h
  obtain ⟨c0, c1, c2, fz⟩ := Pool.cells hb
  obtain ⟨ap, cp, rfl, _⟩ := hp.shape
  obtain ⟨af, cf, rfl, _⟩ := hf.shape
  clear hb hp hf
  generalize st.pl.length = n at *
  generalize st.fr.length = m at *
  go_enter Try.func47, Try.ntmps47
  go_wp2
  go_quiet (fail)
  go_wp2
  go_ret; exact ⟨by simp, _, rfl⟩

theorem put_nil (w : World) (x y : Int) : Calls Try.prog 21 #[.pointer none, .agg #[.int .i64 x, .int .i64 y]] w (fun e w' => e = .returned (.tuple #[.agg #[.int .i64 0, .int .i64 0], .int .i64 3]) ∧ Below w.heap.size w w') := by
  have hg := Below.refl w.heap.size w
  go_enter Try.func21, Try.ntmps21
  go_wp2
  go_quiet (fail)
  go_wp2
  refine bodyPost_ret (v := .tuple #[.agg #[.int .i64 0, .int .i64 0], .int .i64 3]) (by simp [results, Try.results21, go_sem]) rfl ?_
  exact ⟨rfl, ((alloc2d _ _ _ _).setCell (Nat.le_succ _) _).setCell (Nat.le_succ _) _⟩

theorem put_full (w : World) (b : Nat) (O : Nat → Prop) (st : St) (x y : Int) (h : Pool w b O st) (h1 : st.pl.length ≤ 4096) (h2 : st.fr.length ≤ 4096) (h3 : ((st.pl.length : Int) - st.fr.length) = st.room) (hO : ∀ k, O k → k < w.heap.size) :
    Calls Try.prog 21 #[.pointer (some ⟨b, 0, none⟩), .agg #[.int .i64 x, .int .i64 y]] w (IsPut 0 0 3 st b O w) := by
  have C : Hid _ := fun w h => len_q w b O st h h1 h2
  have hg := Below.refl w.heap.size w
  obtain ⟨vp, vf, hP⟩ := h.parts
  obtain ⟨c0, c1, c2, fz⟩ := Pool.cells hP.blk
  have d0 := fun o1 o2 => cell_alloc (cell_alloc c0 o1) o2
  rw [h3] at C
  clear hP c0 c1 c2 fz h3 h1 h2
  go_enter Try.func21, Try.ntmps21
  go_wp2
  go_quiet (first | (go_at_call 47; refine Calls.quiet_of (C.out _ ?_); exact h.fresh (alloc2d _ _ _ _)))
  go_wp2
  refine bodyPost_ret (v := .tuple #[.agg #[.int .i64 0, .int .i64 0], .int .i64 3]) (by simp [results, Try.results21, go_sem]) rfl ?_
  have hB := ((alloc2d w (.cells #[.int .i64 x, .int .i64 y] 34) (.cells #[.int .i64 0, .int .i64 0] 34) nq).setCell (p := ⟨w.heap.size + 1, 0, none⟩) (Nat.le_succ _) (.int .i64 0)).setCell (p := ⟨w.heap.size + 1, 1, none⟩) (Nat.le_succ _) (.int .i64 0)
  exact ⟨rfl, h.fresh hB, Same.of hB hO⟩

theorem set_put {l : List Pl} {k : Nat} {q : Pl} {x y : Int} (hq : l[k]? = some q) : cellsP (l.set k ⟨x, y, true, q.gen⟩) = (((cellsP l).set (k * 4) (.int .i64 x)).set (k * 4 + 1) (.int .i64 y)).set (k * 4 + 2) (.bool true) := by
  obtain ⟨h0, ht, h1, h2⟩ := cellsP_at hq
  rw [cellsP_set (List.getElem?_eq_some_iff.1 hq).1, set_eq (i := k * 4 + 3)]
  rw [List.getElem?_set_ne (by omega), List.getElem?_set_ne (by omega), List.getElem?_set_ne (by omega)]; exact h2

theorem Pool.setOther {w : World} {b : Nat} {O : Nat → Prop} {st : St} (h : Pool w b O st) {a : Addr} (ha : O a.block) (u : Value) : Pool (w.setCell a u) b O st := by
  obtain ⟨vp, vf, h1, h2, h3, h4⟩ := h
  exact ⟨vp, vf, (Below.heap_setCell w a u b (fun e => h2 (e ▸ ha))).trans h1, h2, row_setCell h3 (fun i hi e => h3.2 i hi (e ▸ ha)) u, row_setCell h4 (fun i hi e => h4.2 i hi (e ▸ ha)) u⟩
/-- What the stores of Put ask and leave. -/
theorem put_facts {w1 w2 : World} {b B i : Nat} {O : Nat → Prop} {st : St} {q : Pl} (x y : Int) {a0 a1 : Value} {t : TypeId} (hp : Pool w2 b O st) (hs : Same O w1 w2) (hB : O B) (hb : w1.heap[B]? = some (.cells #[a0, a1] t (0, 0))) (hq : st.pl[i]? = some q) :
    ∃ gp cp, (w2.cell? ⟨b, 1, none⟩ = some (.slice (some ⟨gp, 0, none⟩) st.pl.length cp) ∧ w2.cell? ⟨gp, i * 4, none⟩ = some (.int .i64 q.thing) ∧ w2.cell? ⟨gp, i * 4 + 1, none⟩ = some (.int .i64 q.tgen) ∧ w2.frozen? ⟨gp, i * 4, none⟩ = false ∧ w2.frozen? ⟨gp, i * 4 + 1, none⟩ = false) ∧
      Hid (∀ W, W = ((w2.setCell ⟨gp, i * 4, none⟩ (.int .i64 x)).setCell ⟨gp, i * 4 + 1, none⟩ (.int .i64 y)).drew → (W.cell? ⟨b, 1, none⟩ = some (.slice (some ⟨gp, 0, none⟩) st.pl.length cp) ∧ W.cell? ⟨gp, i * 4 + 2, none⟩ = some (.bool q.full) ∧ W.frozen? ⟨gp, i * 4 + 2, none⟩ = false) ∧
      Hid (Pool (W.setCell ⟨gp, i * 4 + 2, none⟩ (.bool true)) b O { st with pl := st.pl.set i ⟨x, y, true, q.gen⟩ } ∧ Same O w1 (W.setCell ⟨gp, i * 4 + 2, none⟩ (.bool true)) ∧
        (W.setCell ⟨gp, i * 4 + 2, none⟩ (.bool true)).heap[B]? = some (.cells #[a0, a1] t (0, 0)))) := by
  obtain ⟨vp, vf, hP⟩ := hp.parts
  obtain ⟨c0, c1, c2, fz⟩ := Pool.cells hP.blk
  obtain ⟨gp, cp, rfl, k0, kt, k1, k2⟩ := hP.pl.places hq
  have hi : i < st.pl.length := (List.getElem?_eq_some_iff.1 hq).1
  have hP1 := ((hP.place (i * 4) (.int .i64 x)).place (i * 4 + 1) (.int .i64 y)).drew
  have hs1 := ((hP.place (i * 4) (.int .i64 x)).placeSame (hP.placeSame hs (i * 4) (.int .i64 x)) (i * 4 + 1) (.int .i64 y)).drew
  have hP2 := hP1.place (i * 4 + 2) (.bool true)
  have hs2 := hP1.placeSame hs1 (i * 4 + 2) (.bool true)
  refine ⟨gp, cp, ⟨c1, k0, kt, hP.pl.1.frozenAt _, hP.pl.1.frozenAt _⟩, ?_⟩
  rintro W rfl
  refine ⟨⟨(Pool.cells hP1.blk).2.1, ?_, hP1.pl.1.frozenAt _⟩, hP2.pool (st := { st with pl := st.pl.set i ⟨x, y, true, q.gen⟩ }) (by simp) (set_put hq) rfl rfl, hs2, by rw [hs2.block B hB, hb]⟩
  rw [hP1.pl.1.cellAt _ (by omega), List.getElem?_set_ne (by omega), List.getElem?_set_ne (by omega)]
  exact (cellsP_at hq).2.2.1
theorem on_handle {w3 w4 : World} {b B : Nat} {O : Nat → Prop} {st : St} {a0 a1 : Value} {t : TypeId} {w1 : World} (h : Hid (Pool w3 b O st ∧ Same O w1 w3 ∧ w3.heap[B]? = some (.cells #[a0, a1] t (0, 0)))) (hO : ∀ k, O k → k < w1.heap.size) (hg : Below w3.heap.size w3 w4) :
    Hid (Pool w4 b O st ∧ Same O w1 w4) ∧ w4.cell? ⟨B, 0, none⟩ = some a0 ∧ w4.cell? ⟨B, 1, none⟩ = some a1 ∧ (∀ j, w4.frozen? ⟨B, j, none⟩ = false) := by
  obtain ⟨h1, h2, h3⟩ := h
  have h4 : w4.heap[B]? = some (.cells #[a0, a1] t (0, 0)) := by rw [hg.block B (lt_of h3), h3]
  refine ⟨⟨h1.fresh hg, h2.trans (Same.of hg fun k hk => Nat.lt_of_lt_of_le (hO k hk) h2.size)⟩, ?_, ?_, fun j => frozen_of_row w4 B j _ _ h4⟩
  all_goals rw [cell_of_row w4 B _ _ _ _ h4]; rfl
theorem put_end {w w1 w4 : World} {b : Nat} {O : Nat → Prop} {st : St} (h : Hid (Pool w4 b (With2 O w.heap.size) st ∧ Same (With2 O w.heap.size) w1 w4)) (hs : Same O w w1) (hO : ∀ k, O k → k < w.heap.size) (u v : Value) :
    Pool ((w4.setCell ⟨w.heap.size + 1, 0, none⟩ u).setCell ⟨w.heap.size + 1, 1, none⟩ v) b O st ∧ Same O w ((w4.setCell ⟨w.heap.size + 1, 0, none⟩ u).setCell ⟨w.heap.size + 1, 1, none⟩ v) := by
  obtain ⟨h1, h2⟩ := h
  have hB : ¬ O (w.heap.size + 1) := fun h => by have := hO _ h; omega
  exact ⟨((h1.setOther (a := ⟨w.heap.size + 1, 0, none⟩) (.inr rfl) u).setOther (a := ⟨w.heap.size + 1, 1, none⟩) (.inr rfl) v).without2, ((hs.trans h2.without2).setCell (p := ⟨w.heap.size + 1, 0, none⟩) hB u).setCell (p := ⟨w.heap.size + 1, 1, none⟩) hB v⟩
theorem two_boxes (w : World) (x0 x1 y0 y1 : Value) (t u : TypeId) (n : Nat) : (((w.alloc (.cells #[x0, x1] t)).alloc (.cells #[y0, y1] u)).drewN n).heap[w.heap.size]? = some (.cells #[x0, x1] t (0, 0)) ∧
    (((w.alloc (.cells #[x0, x1] t)).alloc (.cells #[y0, y1] u)).drewN n).heap[w.heap.size + 1]? = some (.cells #[y0, y1] u (0, 0)) := by
  constructor
  · show ((w.alloc (.cells #[x0, x1] t)).alloc (.cells #[y0, y1] u)).heap[w.heap.size]? = _
    rw [Below.heap_alloc _ _ _ (by simp), heap_alloc_new]
  · show ((w.alloc (.cells #[x0, x1] t)).alloc (.cells #[y0, y1] u)).heap[w.heap.size + 1]? = _
    rw [show w.heap.size + 1 = (w.alloc (.cells #[x0, x1] t)).heap.size by simp, heap_alloc_new]

theorem put_as (w : World) (b : Nat) (O : Nat → Prop) (st st1 : St) (x y : Int) (i : Nat) (q : Pl) (h : Pool w b O st) (h1 : st.pl.length ≤ 4096) (h2 : st.fr.length ≤ 4096) (h3 : (((st.pl.length : Int) - st.fr.length) == st.room) = false) (hO : ∀ k, O k → k < w.heap.size)
    (N : Hid (∀ w O, Pool w b O st → (∀ k, O k → k < w.heap.size) → Calls Try.prog 48 #[.pointer (some ⟨b, 0, none⟩)] w (Did (.int .i64 (i : Int)) st1 b O w))) (hq : st1.pl[i]? = some q) (hm : st1.pl.length ≤ 4096) :
    Calls Try.prog 21 #[.pointer (some ⟨b, 0, none⟩), .agg #[.int .i64 x, .int .i64 y]] w (IsPut i q.gen 0 { st1 with pl := st1.pl.set i ⟨x, y, true, q.gen⟩ } b O w) := by
  have C : Hid _ := fun w h => len_q w b O st h h1 h2
  obtain ⟨vp, vf, hP⟩ := h.parts
  obtain ⟨c0, c1, c2, fz⟩ := Pool.cells hP.blk
  have d0 := fun o1 o2 => cell_alloc (cell_alloc c0 o1) o2
  clear hP c0 c1 c2 fz vp vf
  go_enter Try.func21, Try.ntmps21
  go_wp2
  go_quiet (first | (go_at_call 47; refine Calls.quiet_of (C.out _ ?_); exact h.fresh (alloc2d _ _ _ _)))
  clear C d0
  have hi : (i : Int) < st1.pl.length := by have := (List.getElem?_eq_some_iff.1 hq).1; omega
  have H : Hid _ := fun w' h => handle w' b (With2 O w.heap.size) { st1 with pl := st1.pl.set i ⟨x, y, true, q.gen⟩ } i ⟨x, y, true, q.gen⟩ h (by simpa using hm) (by simp [List.getElem?_set, (List.getElem?_eq_some_iff.1 hq).1])
  go_wp2_with (go_at_call 48; refine (N.out _ (With2 O w.heap.size) (h.with2.fresh (alloc2d _ _ _ _)) (with2_lt hO _ _ _)).mono ?_; rintro e w2 ⟨rfl, hp2, hs2⟩; obtain ⟨e0, e1, _⟩ := box2 ((hs2.block _ (.inl (.inr rfl))).trans (two_boxes w _ _ _ _ _ _ _).1); obtain ⟨gp, cp, ⟨p1, p2, pt, p3, p3'⟩, p4⟩ := put_facts x y hp2 hs2 (.inr rfl) (two_boxes w _ _ _ _ _ _ _).2 hq; clear hp2 hs2)
  go_region
  obtain ⟨⟨p5, p6, p7⟩, p8⟩ := p4.out _ rfl
  clear p1 p2 pt p3 p3' e0 e1 p4
  generalize ((w2.setCell ⟨gp, i * 4, none⟩ (.int .i64 x)).setCell ⟨gp, i * 4 + 1, none⟩ (.int .i64 y)).drew = W at *
  go_wp2_with (go_at_call 49; refine (H.out _ p8.out.1).mono ?_; rintro e w4 ⟨rfl, hg4⟩; obtain ⟨p9, p10, p11, p12⟩ := on_handle p8 (with2_lt hO _ _ _) hg4; clear p8 hg4)
  refine bodyPost_ret (v := .tuple #[.agg #[.int .i64 (i : Int), .int .i64 q.gen], .int .i64 0]) (by simp [results, Try.results21, go_sem, p10, p11]) rfl ?_
  exact ⟨rfl, put_end p9 (Same.of (alloc2d _ _ _ _) hO) hO _ _⟩
end Go.Proofs.Ytanahddlnchioaa.Hp
