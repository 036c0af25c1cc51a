/- What ahead, firstOther and stayOrFirst of package runq answer. Conditions: each number is one of its kind. -/
import Derived.Test.YteoemafdknmklaaQueuePut
import Derived.Test.YteoemafdknmklaaFixSome
namespace Go.Proofs.Yteoemafdknmklaa.Queue
open Go.ChangeShapes Go.WideShapes Go.ChangeAt Go.RowKit Tree
set_option linter.unusedVariables false
set_option linter.unusedSimpArgs false
set_option maxRecDepth 100000

def reach (v g : Int) : Int := Fix.ends (v + Fix.hold g 0 1099511627776)
theorem aheads (v g : Int) (w : World) (hv : I64 v) (hg : I64 g) : Calls Try.prog 72 #[.int .i64 v, .int .i64 g] w (Is (.int .i64 (reach v g)) w) := by
  have m1 := Lib.hid (fun w => Fix.holds g 0 1099511627776 w)
  have m2 := Lib.hid (fun w => Fix.sat v (Fix.hold g 0 1099511627776) w hv (Fix.i64_hold hg (by unfold Fix.I64; omega) (by unfold Fix.I64; omega)))
  unfold reach
  generalize Fix.ends (v + Fix.hold g 0 1099511627776) = x at *
  generalize Fix.hold g 0 1099511627776 = y at *
  go_enter Try.func72, Try.ntmps72
  go_wp2_with (first
    | (go_at_call 83; refine (m1.out _).mono ?_; rintro e w1 ⟨rfl, rfl⟩)
    | (go_at_call 60; refine (m2.out _).mono ?_; rintro e w1 ⟨rfl, hg1⟩))
  go_ret; exact ⟨rfl, hg1⟩

/-- The first one but the current one. -/
def other (st : St) : Option Ent := (drop st.es st.cur).head?
theorem drop_none {es : List Ent} {id : Int} (h : named es id = false) : drop es id = es := by
  unfold drop
  rw [List.filter_eq_self]
  intro x hx
  simp
  rintro rfl
  unfold named at h
  rw [List.any_eq_false] at h
  exact h x hx (by simp)
theorem next_of {e : Ent} {l : List Ent} (hs : Sorted ((e :: l).map Ent.key)) : ((e :: l).map Ent.key).find? (fun x => decide (lt e.key x)) = l.head?.map Ent.key := by
  unfold Sorted at hs
  simp only [List.map_cons, List.pairwise_cons] at hs
  simp only [List.map_cons, List.find?_cons, lt_irrefl, decide_false]
  cases l with
  | nil => rfl
  | cons x l => simp [hs.1 x.key (by simp)]
theorem other_first {st : St} {e : Ent} {l : List Ent} (he : st.es = e :: l) (ho : Once st.es) : other st = if e.id = st.cur then l.head? else some e := by
  unfold other
  rw [he] at ho ⊢
  unfold Once at ho
  rw [List.pairwise_cons] at ho
  unfold drop
  rw [List.filter_cons]
  by_cases h : e.id = st.cur
  · rw [if_neg (by simp [h]), if_pos h]
    congr 1
    rw [List.filter_eq_self]
    intro x hx
    simp
    exact fun e2 => ho.1 x hx (by rw [h, e2])
  · rw [if_pos (by simp [h]), if_neg h]; rfl
set_option maxHeartbeats 2000000 in
theorem firstOthers (w : World) (q : Nat) (O : Nat → Prop) (st : St) (h : Qu w q O st) (ho : Once st.es) :
    Calls Try.prog 71 #[.pointer (some ⟨q, 0, none⟩)] w (Is (keyV ((other st).map Ent.key)) w) := by
  obtain ⟨m, t, T, h⟩ := h
  have M := Lib.hid (fun w' (g : Below w.heap.size w w') => mins w' t T (h.fresh g).kept.top)
  have N := Lib.hid (fun w' (g : Below w.heap.size w w') k => nexts w' t T k (h.fresh g).kept.top h.kept.sorted)
  rw [h.keys] at M N
  have hso := h.kept.sorted
  rw [h.keys] at hso
  obtain ⟨c0, c1, c2, c3, c4, fz⟩ := h.blk.cells
  have hq := h.blk.lt
  have hgW := (Below.refl w.heap.size w).alloc (Nat.le_refl _) (.cells #[.int .i64 0, .int .i64 0] 89)
  clear h
  cases he : st.es with
  | nil =>
    rw [show other st = none by simp [other, he, drop]]
    rw [he] at M
    simp only [List.map_nil, List.head?_nil, keyV, Option.map_none] at *
    go_enter Try.func71, Try.ntmps71
    go_wp2_with (go_at_call 65; refine (M.out _ hgW).mono ?_; rintro e w1 ⟨rfl, hg1⟩; obtain ⟨d0, d1, dz, dd⟩ := new_two hg1; replace hgW := fresh_trans hgW hg1; have hlt1 := lt_of dd; have x2 := (hgW.cell (p := ⟨q, 2, none⟩) hq).trans c2; clear hg1 dd)
    go_quiet (fail)
    have hg3 : Below w1.heap.size w1 ((w1.alloc (.cells #[.int .i64 0, .int .i64 0] 89)).drewN nq) := fresh_trans ((Below.refl _ w1).alloc (Nat.le_refl _) _) (drawn _ _)
    have d0' := (hg3.cell (p := ⟨w.heap.size, 0, none⟩) hlt1).trans d0
    have d1' := (hg3.cell (p := ⟨w.heap.size, 1, none⟩) hlt1).trans d1
    have dz' : ∀ j, ((w1.alloc (.cells #[.int .i64 0, .int .i64 0] 89)).drewN nq).frozen? ⟨w.heap.size, j, none⟩ = false := fun j => (hg3.frozen (p := ⟨w.heap.size, j, none⟩) hlt1).trans (dz j)
    obtain ⟨n0, n1, nz, nn⟩ := new_two (Below.refl _ (w1.alloc (.cells #[.int .i64 0, .int .i64 0] 89)))
    replace n0 : ((w1.alloc (.cells #[.int .i64 0, .int .i64 0] 89)).drewN nq).cell? ⟨w1.heap.size, 0, none⟩ = some (.int .i64 0) := n0
    replace n1 : ((w1.alloc (.cells #[.int .i64 0, .int .i64 0] 89)).drewN nq).cell? ⟨w1.heap.size, 1, none⟩ = some (.int .i64 0) := n1
    have hgV := fresh_trans hgW hg3
    clear hg3 nn nz d0 d1 dz
    generalize (w1.alloc (.cells #[.int .i64 0, .int .i64 0] 89)).drewN nq = V at *
    go_wp2_with fail
    refine bodyPost_ret (v := .tuple #[.agg #[.int .i64 0, .int .i64 0], .bool false]) (by simp [results, Try.results71, go_sem, d0', d1']) rfl ?_
    exact ⟨rfl, (hgV.setCell (Nat.le_refl _) _).setCell (Nat.le_refl _) _⟩
  | cons e l =>
    rw [other_first he ho]
    rw [he] at M N hso
    have N1 := Lib.hid (fun w' g => N.out w' g e.key)
    rw [next_of hso] at N1
    clear N hso ho
    simp only [List.map_cons, List.head?_cons, Ent.key] at M N1
    by_cases hc : e.id = st.cur
    · rw [if_pos hc]
      rw [hc] at M N1
      change Hid (∀ w', Below w.heap.size w w' → Calls Try.prog 85 #[.pointer (some ⟨t, 0, none⟩), .agg #[.int .i64 e.v, .int .i64 st.cur]] w' (Is (keyV (l.head?.map Ent.key)) w')) at N1
      generalize l.head?.map Ent.key = o at *
      obtain ⟨x, y, z, eo⟩ := keyV_parts o
      rw [eo] at N1 ⊢
      simp only [keyV] at M
      clear eo hc he
      generalize e.v = ev at *
      generalize st.cur = cur at *
      go_enter Try.func71, Try.ntmps71
      go_wp2_with (go_at_call 65; refine (M.out _ hgW).mono ?_; rintro e w1 ⟨rfl, hg1⟩; obtain ⟨d0, d1, dz, dd⟩ := new_two hg1; replace hgW := fresh_trans hgW hg1; have hlt1 := lt_of dd; have x2 := (hgW.cell (p := ⟨q, 2, none⟩) hq).trans c2; have x1 := (hgW.cell (p := ⟨q, 1, none⟩) hq).trans c1; have hq1 := Nat.lt_trans hq hlt1; clear hg1)
      go_quiet (fail)
      go_wp2_with fail
      have hg3 : Below w1.heap.size w1 ((w1.alloc (.cells #[.int .i64 ev, .int .i64 cur] 89)).drewN nq) := fresh_trans ((Below.refl _ w1).alloc (Nat.le_refl _) _) (drawn _ _)
      have d0' := (hg3.cell (p := ⟨w.heap.size, 0, none⟩) hlt1).trans d0
      have d1' := (hg3.cell (p := ⟨w.heap.size, 1, none⟩) hlt1).trans d1
      have ddd := (hg3.block w.heap.size hlt1).trans dd
      obtain ⟨n0, n1, nz, nn⟩ := new_two (Below.refl _ (w1.alloc (.cells #[.int .i64 ev, .int .i64 cur] 89)))
      replace n0 : ((w1.alloc (.cells #[.int .i64 ev, .int .i64 cur] 89)).drewN nq).cell? ⟨w1.heap.size, 0, none⟩ = some (.int .i64 ev) := n0
      replace n1 : ((w1.alloc (.cells #[.int .i64 ev, .int .i64 cur] 89)).drewN nq).cell? ⟨w1.heap.size, 1, none⟩ = some (.int .i64 cur) := n1
      have y1 := (hg3.cell (p := ⟨q, 1, none⟩) hq1).trans x1
      have hgV := fresh_trans hgW hg3
      clear hg3 nn nz
      generalize (w1.alloc (.cells #[.int .i64 ev, .int .i64 cur] 89)).drewN nq = V at *
      go_region_with (go_at_call 85; refine (N1.out _ hgV.drew).mono ?_; rintro e' w2 ⟨rfl, hg4⟩; replace hg4 := undrew hg4; have e2 := (hg4.block w.heap.size (lt_of ddd)).trans ddd; have f0 := cell_of_row w2 _ 0 _ _ _ e2; have f1 := cell_of_row w2 _ 1 _ _ _ e2; have ff := fun j => frozen_of_row w2 _ j _ _ e2; replace hgV := fresh_trans hgV hg4; clear hg4 e2)
      all_goals
        go_wp2_with fail
        refine bodyPost_ret (v := .tuple #[.agg #[.int .i64 x, .int .i64 y], .bool z]) (by simp [results, Try.results71, go_sem, f0, f1]) rfl ?_
        exact ⟨rfl, (hgV.setCell (Nat.le_refl _) _).setCell (Nat.le_refl _) _⟩
    · rw [if_neg hc]
      have hc1 : (e.id == st.cur) = false := by simpa using hc
      simp only [keyV, Option.map_some, Ent.key] at M ⊢
      generalize e.v = ev at *
      generalize e.id = ei at *
      generalize st.cur = cur at *
      clear N1 he
      go_enter Try.func71, Try.ntmps71
      go_wp2_with (go_at_call 65; refine (M.out _ hgW).mono ?_; rintro e w1 ⟨rfl, hg1⟩; obtain ⟨d0, d1, dz, dd⟩ := new_two hg1; replace hgW := fresh_trans hgW hg1; have hlt1 := lt_of dd; have x2 := (hgW.cell (p := ⟨q, 2, none⟩) hq).trans c2; have hq1 := Nat.lt_trans hq hlt1; clear hg1 dd)
      go_quiet (fail)
      have hg3 : Below w1.heap.size w1 ((w1.alloc (.cells #[.int .i64 ev, .int .i64 ei] 89)).drewN nq) := fresh_trans ((Below.refl _ w1).alloc (Nat.le_refl _) _) (drawn _ _)
      have d0' := (hg3.cell (p := ⟨w.heap.size, 0, none⟩) hlt1).trans d0
      have d1' := (hg3.cell (p := ⟨w.heap.size, 1, none⟩) hlt1).trans d1
      have dz' : ∀ j, ((w1.alloc (.cells #[.int .i64 ev, .int .i64 ei] 89)).drewN nq).frozen? ⟨w.heap.size, j, none⟩ = false := fun j => (hg3.frozen (p := ⟨w.heap.size, j, none⟩) hlt1).trans (dz j)
      obtain ⟨n0, n1, nz, nn⟩ := new_two (Below.refl _ (w1.alloc (.cells #[.int .i64 ev, .int .i64 ei] 89)))
      replace n0 : ((w1.alloc (.cells #[.int .i64 ev, .int .i64 ei] 89)).drewN nq).cell? ⟨w1.heap.size, 0, none⟩ = some (.int .i64 ev) := n0
      replace n1 : ((w1.alloc (.cells #[.int .i64 ev, .int .i64 ei] 89)).drewN nq).cell? ⟨w1.heap.size, 1, none⟩ = some (.int .i64 ei) := n1
      have hgV := fresh_trans hgW hg3
      clear hg3 nn nz d0 d1 dz
      generalize (w1.alloc (.cells #[.int .i64 ev, .int .i64 ei] 89)).drewN nq = V at *
      go_wp2_with fail
      refine bodyPost_ret (v := .tuple #[.agg #[.int .i64 ev, .int .i64 ei], .bool true]) (by simp [results, Try.results71, go_sem, d0', d1']) rfl ?_
      exact ⟨rfl, (hgV.setCell (Nat.le_refl _) _).setCell (Nat.le_refl _) _⟩
end Go.Proofs.Yteoemafdknmklaa.Queue
