/- What the document's New, Get, All and Same answer, and which handle a deed has. Conditions: none. -/
import Derived.Test.YtanahddlnchioaaArenaRefR
namespace Go.Proofs.Ytanahddlnchioaa.Arena
open Go.ChangeShapes Go.WideShapes Go.ChangeAt Go.RowKit
set_option linter.unusedVariables false
set_option linter.unusedSimpArgs false

theorem boxes2 {w w1 : World} {o o' : Obj} (hg : Below ((w.alloc o).alloc o').heap.size ((w.alloc o).alloc o') w1) : w1.heap[w.heap.size]? = some o ∧ w1.heap[w.heap.size + 1]? = some o' ∧ Below w.heap.size w w1 := by
  refine ⟨?_, ?_, ?_⟩
  · rw [hg.block _ (by simp; omega), Below.heap_alloc _ _ _ (by simp)]
    exact heap_alloc_new w o
  · rw [hg.block _ (by simp)]
    simpa using heap_alloc_new (w.alloc o) o'
  · exact (((Below.refl _ w).alloc (Nat.le_refl _) o).alloc (by simp) o').trans (hg.mono (by simp; omega))
theorem pair {w : World} {b : Nat} {x y : Value} {t : TypeId} (hb : w.heap[b]? = some (.cells #[x, y] t (0, 0))) : w.cell? ⟨b, 0, none⟩ = some x ∧ w.cell? ⟨b, 1, none⟩ = some y ∧ (∀ j, w.frozen? ⟨b, j, none⟩ = false) := by
  refine ⟨?_, ?_, fun j => frozen_of_row w b j _ _ hb⟩
  all_goals rw [cell_of_row w b _ _ _ _ hb]; rfl

theorem refNew (w : World) (r : Int) (h1 : 1 ≤ r) (h2 : r ≤ 4096) : Calls Try.prog 22 #[.int .i64 r] w (fun e w' => e = .returned (.tuple #[.agg #[.int .i64 r, .slice none 0 0, .slice none 0 0, .slice none 0 0, .slice none 0 0], .int .i64 0]) ∧ Below w.heap.size w w') := by
  go_enter Try.func22, Try.ntmps22
  go_wp2
  refine bodyPost_ret (v := .tuple #[.agg #[.int .i64 r, .slice none 0 0, .slice none 0 0, .slice none 0 0, .slice none 0 0], .int .i64 0]) (by simp [results, Try.results22, go_sem]) rfl ?_
  exact ⟨rfl, by go_grown⟩
theorem refNew_none (w : World) (r : Int) (h : r < 1 ∨ 4096 < r) : Calls Try.prog 22 #[.int .i64 r] w (fun e w' => e = .returned (.tuple #[.agg #[.int .i64 0, .slice none 0 0, .slice none 0 0, .slice none 0 0, .slice none 0 0], .int .i64 1]) ∧ Below w.heap.size w w') := by
  by_cases h1 : r < 1
  all_goals
    go_enter Try.func22, Try.ntmps22
    go_wp2
    refine bodyPost_ret (v := .tuple #[.agg #[.int .i64 0, .slice none 0 0, .slice none 0 0, .slice none 0 0, .slice none 0 0], .int .i64 1]) (by simp [results, Try.results22, go_sem]) rfl ?_
    exact ⟨rfl, by go_grown⟩

def RAllI (pl : List Pl) (w W : World) (v i : Value) (wr : World) : Prop := ∃ k : Nat, k ≤ pl.length ∧ i = .int .i64 k ∧ wr.ownsRow W.heap.size 34 2 v (hs pl k).length (cellsH (hs pl k)) ∧ Below W.heap.size W wr

set_option maxHeartbeats 1000000 in
theorem refAll (w : World) (B : Nat) (r : Int) (v1 v2 v3 v4 : Value) (st : St) (h : RefAt B v1 v2 v3 v4 st w) (h1 : st.pl.length ≤ 4096) :
    Calls Try.prog 17 #[.agg #[.int .i64 r, v1, v2, v3, v4]] w (IsAll (hs st.pl st.pl.length) w) := by
  obtain ⟨i0, hi, hz0, hz1, hz2⟩ := info_parts infoH
  obtain ⟨p1, q1, e1⟩ := owns_shape h.o1
  subst e1
  have hb := heap_alloc_new w (.cells #[.int .i64 r, .slice p1 st.pl.length q1, v2, v3, v4] 29)
  have hW := h.fresh ((Below.refl _ w).alloc (Nat.le_refl _) (.cells #[.int .i64 r, .slice p1 st.pl.length q1, v2, v3, v4] 29))
  have hgW := (Below.refl _ w).alloc (Nat.le_refl _) (.cells #[.int .i64 r, .slice p1 st.pl.length q1, v2, v3, v4] 29)
  clear h
  go_enter Try.func17, Try.ntmps17
  go_wp2
  generalize w.alloc (.cells #[.int .i64 r, .slice p1 st.pl.length q1, v2, v3, v4] 29) = W at *
  go_loopw [3, 4] (fun v i wr => RAllI st.pl w W v i wr) (fun _ i _ => st.pl.length - (intOf i).toNat)
  case atStart => exact ⟨0, by omega, rfl, World.ownsRow_nil _ _ _ _, Below.refl _ W⟩
  case round =>
    obtain ⟨k, hk, rfl, hown, hg⟩ := hrel
    have hl := hs_le st.pl k
    have hbr := (hg.block _ (lt_of hb)).trans hb
    obtain ⟨k0, k1, k2, k3, k4, _⟩ := five hbr
    have hR := hW.fresh hg
    have hgr : Below w.heap.size w wr := hgW.trans (hg.mono hgW.size)
    have hz := hgr.size
    by_cases hlt : k < st.pl.length
    · obtain ⟨q, hq⟩ : ∃ q, st.pl[k]? = some q := ⟨_, List.getElem?_eq_getElem hlt⟩
      have hlt1 : (k : Int) < st.pl.length := by omega
      obtain ⟨g2, c2, e2, u2, _⟩ := row_cell hR.o2 (k := k) (x := .bool q.full) (by simp [cU, hq])
      obtain ⟨g3, c3, e3, u3, _⟩ := row_cell hR.o3 (k := k) (x := .int .i64 q.gen) (by simp [cG, hq])
      subst e2 e3
      clear hR
      cases hf : q.full
      · rw [hf] at u2
        go_wp2_with fail
        go_roundw
        case rel => exact ⟨k + 1, by omega, by go_num, by rw [hs_free hq hf]; exact hown, hg⟩
        case measure => simp [intOf]; omega
      · rw [hf] at u2
        go_wp2_with (at_builtin; refine wpList_append_own _ rfl (.tmp 17) (.tmp 25) 35 rfl W.heap.size 34 i0 _ 2 16 Try.underlying35 hi hz0 hz1 hz2 rfl (by decide) _ _ _ rfl (hown.alloc _) ⟨wr.heap.size, 0, none⟩ 1 1 [.int .i64 (k : Int), .int .i64 q.gen] rfl rfl (World.news_of_block (heap_alloc_new wr _)) (by simp [Value.oneCell']) (by simp only [maxLen]; omega) (by omega) (by have := hg.size; simp; omega) ?_; intro v' w2 hown2 hgrow2 _)
        have hg2 := (hg.alloc hg.size _).grown hgrow2 (by have := hg.size; simp; omega) (fun j hj => (hown.lt j hj).1)
        go_roundw
        case rel => exact ⟨k + 1, by omega, by go_num, by rw [hs_full hq hf, cellsH_append]; simpa [cellsH] using hown2, hg2⟩
        case measure => simp [intOf]; omega
    · obtain rfl : k = st.pl.length := by omega
      go_wp2
      go_ret
      exact ⟨_, rfl, owns_lower hown hgW.size, hgr⟩

/-- Two slices of the same handles. -/
def SameI (n : Nat) (W : World) (left : Nat) (t : Value) (wr : World) : Prop := ∃ j nn : Nat, j ≤ n ∧ left = n - j ∧ t = .int .i64 j ∧ Hid (wr = W.drewN nn)
theorem refSame (w : World) (B B' : Nat) (v u : Value) (l : List (Int × Int)) (hv : w.ownsRow B 34 2 v l.length (cellsH l)) (hu : w.ownsRow B' 34 2 u l.length (cellsH l)) (hl : l.length ≤ 4096) :
    Calls Try.prog 15 #[v, u] w (IsBool true w) := by
  obtain ⟨p1, q1, rfl⟩ := owns_shape hv
  obtain ⟨p2, q2, rfl⟩ := owns_shape hu
  go_enter Try.func15, Try.ntmps15
  go_wp2
  go_loopg [5] l.length (fun left t wr => SameI l.length w left t wr)
  case atStart => exact ⟨0, 0, by omega, rfl, rfl, rfl⟩
  case round =>
    obtain ⟨j, nn, hj, rfl, rfl, HW⟩ := hrel
    have hBW : Below w.heap.size w wr := by rw [HW.out]; exact drawn w nn
    by_cases hjl : j < l.length
    · have hjl1 : (j : Int) < l.length := by omega
      obtain ⟨p, hp⟩ : ∃ p, l[j]? = some p := ⟨_, List.getElem?_eq_getElem hjl⟩
      obtain ⟨g1, c1, e1, x0, x1⟩ := told_cell (owns_fresh hv hBW) hp
      obtain ⟨g2, c2, e2, y0, y1⟩ := told_cell (owns_fresh hu hBW) hp
      cases e1
      cases e2
      obtain ⟨a, b⟩ := p
      simp only at x0 x1 y0 y1
      clear hv hu
      go_wp2
      go_quiet (fail)
      go_wp2
      go_roundg (l.length - (j + 1))
      case measure => omega
      case rel => exact ⟨j + 1, nn + nq, by omega, rfl, by go_num, Lib.hid (by rw [HW.out, drewN2])⟩
    · obtain rfl : j = l.length := by omega
      go_wp2
      go_ret
      exact ⟨rfl, hBW⟩
end Go.Proofs.Ytanahddlnchioaa.Arena
