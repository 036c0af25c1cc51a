/- A tree of groups, each within one that was there. Conditions: the argument is a slice of numbers of 8 bits. -/
import Derived.Test.YtcfdpbidhanldaaGtPure
import Derived.Test.YtcfdpbidhanldaaGtLaws
import Derived.IntWalk
namespace Go.Proofs.Ytcfdpbidhanldaa.Gt
open Go.ChangeShapes Go.WideShapes Go.ChangeAt Go.RowKit Hp
set_option linter.unusedVariables false
set_option linter.unusedSimpArgs false

/-- A block of another kind of thing is none of the tree's. -/
theorem Tre.guard {w : World} {tb b k : Nat} {O : Nat → Prop} {st : St} {cur : Array Value} {q : Nat × Nat} (h : Tre w tb b O st) (hk : w.heap[k]? = some (.cells cur 34 q)) : Tre w tb b (With O k) st := by
  obtain ⟨h1, h2, vp, vf, h3, h4, h5, h6⟩ := h
  have e1 : tb ≠ k := by rintro rfl; rw [h1] at hk; simp at hk
  have e2 : b ≠ k := by rintro rfl; rw [h3] at hk; simp at hk
  refine ⟨h1, fun h => h.elim h2 e1, vp, vf, h3, ?_, h5.other fun j hj h => ?_, h6.other fun j hj h => ?_⟩
  · rintro ((h | h) | h)
    · exact h4 (.inl h)
    · exact e2 h
    · exact h4 (.inr h)
  · rcases h with (h | h) | h
    · exact h5.2 j hj (.inl h)
    · exact h5.apart hk (by decide) j hj h
    · exact h5.2 j hj (.inr h)
  · rcases h with (h | h) | h
    · exact h6.2 j hj (.inl h)
    · exact h6.apart hk (by decide) j hj h
    · exact h6.2 j hj (.inr h)

/-- A sound tree and the handles that were told of it. -/
structure Told (w0 : World) (tb b : Nat) (st : St) (T : List (Int × Int)) (v : Value) (w : World) : Prop where
  tree : Tre w tb b (· < w0.heap.size) st
  inv : Inv 0 st
  ok : Ok st
  row : w.ownsRow w0.heap.size 34 2 v T.length (cellsH T)
  named : ∀ p ∈ T, st.names p.1 p.2 = true
  pos : 0 < T.length
  below : Below w0.heap.size w0 w
theorem Told.fresh {w0 w w' : World} {tb b : Nat} {st : St} {T : List (Int × Int)} {v : Value} (h : Told w0 tb b st T v w) (hg : Below w.heap.size w w') : Told w0 tb b st T v w' :=
  ⟨h.tree.fresh hg, h.inv, h.ok, owns_fresh h.row hg, h.named, h.pos, h.below.trans (hg.mono h.below.size)⟩
theorem cellsH_at {T : List (Int × Int)} {j : Nat} {p : Int × Int} (h : T[j]? = some p) : (cellsH T)[j * 2]? = some (.int .i64 p.1) ∧ (cellsH T)[j * 2 + 1]? = some (.int .i64 p.2) := by
  induction T generalizing j with
  | nil => simp at h
  | cons q T ih =>
    cases j with
    | zero => simp at h; subst h; simp [cellsH]
    | succ j =>
      simp at h
      obtain ⟨h1, h2⟩ := ih h
      rw [show (j + 1) * 2 = j * 2 + 2 by omega]
      exact ⟨by simpa [cellsH] using h1, by simpa [cellsH] using h2⟩
theorem Told.at {w0 w : World} {tb b : Nat} {st : St} {T : List (Int × Int)} {v : Value} (h : Told w0 tb b st T v w) {j : Nat} {p : Int × Int} (hp : T[j]? = some p) :
    ∃ g cap, v = .slice (some ⟨g, 0, none⟩) T.length cap ∧ w.cell? ⟨g, j * 2, none⟩ = some (.int .i64 p.1) ∧ w.cell? ⟨g, j * 2 + 1, none⟩ = some (.int .i64 p.2) ∧ st.names p.1 p.2 = true ∧ ∃ cur, w.heap[g]? = some (.cells cur 34 (0, 0)) := by
  have hj : j < T.length := (List.getElem?_eq_some_iff.1 hp).1
  obtain ⟨g, cap, rfl, _⟩ := h.row.form (by omega)
  obtain ⟨a0, a1⟩ := cellsH_at hp
  refine ⟨g, cap, rfl, by rw [h.row.cellAt _ (by omega), a0], by rw [h.row.cellAt _ (by omega), a1], h.named p (List.mem_of_getElem? hp), ?_⟩
  rcases h.row.2 with ⟨e, _⟩ | ⟨g', cap', cur, e, _, hg, _⟩
  · cases e
  · cases e; exact ⟨cur, hg⟩
/-- A Create by who was told. -/
theorem Told.create {w0 w : World} {tb b g : Nat} {st : St} {T : List (Int × Int)} {v : Value} {cur : Array Value} (h : Told w0 tb b st T v w) (hb : v.ownBlock = some g) (hc : w.heap[g]? = some (.cells cur 34 (0, 0))) (i j : Int) :
    Calls Try.prog 13 #[.pointer (some ⟨tb, 0, none⟩), .agg #[.int .i64 i, .int .i64 j]] w (fun e w' => ∃ st' pi pg n, e = .returned (.tuple #[.agg #[.int .i64 pi, .int .i64 pg], .int .i64 n]) ∧ Told w0 tb b st' T v w' ∧ (n = 0 → st'.names pi pg = true) ∧ w'.heap[g]? = some (.cells cur 34 (0, 0))) := by
  refine (Gt.create w tb b (With (· < w0.heap.size) g) 0 (by omega) st i j (h.tree.guard hc) h.inv h.ok ?_).mono ?_
  · rintro k (hk | rfl)
    · have := h.below.size; omega
    · exact lt_of hc
  · rintro e w' ⟨st', pi, pg, n, he, ht, hs, hI, ho, hm⟩
    refine ⟨st', pi, pg, n, he, ⟨ht.other fun k hk => .inl (.inl hk), hI, ho, own_on h.row fun k hk => hs.block k (.inr ?_), ?_, h.pos, h.below.trans (hs.mono fun k hk => .inl hk).below⟩, ?_, (hs.block g (.inr rfl)).trans hc⟩
    · rw [hb] at hk; cases hk; rfl
    · intro p hp
      rcases hm with ⟨rfl, _⟩ | ⟨_, _, hg⟩
      · exact h.named p hp
      · exact (hg.keeps _ _ (h.named p hp)).1
    · intro hn
      rcases hm with ⟨_, h0⟩ | ⟨_, _, hg⟩
      · exact absurd hn h0
      · exact hg.named

theorem But.grown {w w' : World} {g : Nat} (h : w.grownBy w' (some g)) : But g w w' := ⟨h.os, h.tape, h.output, h.size, fun k hk hne => h.block k hk (fun e => hne (by cases e; rfl))⟩
def IsGrown (w : World) (e : Ending) (w' : World) : Prop := ∃ tb b st T v, e = .returned (.tuple #[.pointer (some ⟨tb, 0, none⟩), v]) ∧ Told w tb b st T v w' ∧ T.length ≤ 41
def GrownI (w : World) (tb b : Nat) (len : Nat) (left : Nat) (t5 t6 : Value) (wr : World) : Prop := ∃ st T, ∃ k : Nat, left + k = 41 ∧ t6 = .int .i64 k ∧ k ≤ 40 ∧ Told w tb b st T t5 wr ∧ T.length ≤ k + 1

theorem told0 {w w1 : World} {tb b : Nat} (ht : Tre w1 tb b (· < w.heap.size) st0) (hg : Below w.heap.size w w1) : Told w tb b st0 [(0, 0)] (.slice (some ⟨w1.heap.size, 0, none⟩) 1 1) (w1.alloc (.cells #[.int .i64 0, .int .i64 0] 34)) :=
  ⟨ht.fresh (alloc1 _ _), inv0, Ok.zero, ⟨rfl, .inr ⟨_, 1, _, rfl, hg.size, heap_alloc_new _ _, by decide, by decide, rfl, rfl⟩⟩, by simp; decide, by decide, hg.alloc hg.size _⟩

set_option maxHeartbeats 4000000 in
set_option maxRecDepth 100000 in
theorem grown_tree (v : Option Addr) (len cap : Nat) (z : Nat → Int) (w : World) (hlen : len ≤ 9223372036854775807) (hz : ∀ j, 0 ≤ z j ∧ z j ≤ 255)
    (hc : ∀ j, j < len → ∃ k off, v = some ⟨k, off, none⟩ ∧ k < w.heap.size ∧ w.cell? ⟨k, off + j, none⟩ = some (.int .u8 (z j))) :
    Calls Try.prog 23 #[.slice v len cap] w (IsGrown w) := by
  have hc : Hid _ := hc
  obtain ⟨i0, hi, hz0, hz1, hz2⟩ := info_parts infoH
  go_enter Try.func23, Try.ntmps23
  go_wp2_with fail
  go_at_call 10; refine (new_tree w).mono ?_; rintro e w1 ⟨tb, b, rfl, ht, hg⟩
  have h0 := told0 ht hg
  go_wp2_with fail
  go_loopg [5, 6] 41 (fun left t5 t6 wr => GrownI w tb b len left t5 t6 wr)
  case atStart => exact ⟨_, _, 0, by omega, rfl, by omega, h0, by simp⟩
  case round =>
    clear h0 ht hg
    obtain ⟨st, T, k, hleft, rfl, hk40, hT, hTl⟩ := hrel
    by_cases hk : k < len ∧ k < 40
    · obtain ⟨kb, off, rfl, hkb, hcell⟩ := hc.out k hk.1
      replace hcell := (hT.below.cell hkb).trans hcell
      have hb := hz k
      obtain ⟨j, hj⟩ : ∃ j : Nat, z k % (T.length : Int) = j := Int.eq_ofNat_of_zero_le (Int.emod_nonneg _ (by have := hT.pos; omega))
      have hjl : (j : Int) < T.length := by rw [← hj]; exact Int.emod_lt_of_pos _ (by have := hT.pos; omega)
      obtain ⟨p, hp⟩ : ∃ p, T[j]? = some p := ⟨_, List.getElem?_eq_getElem (show j < T.length by omega)⟩
      obtain ⟨g, cp, rfl, t0, t1, hn, cur, hcur⟩ := hT.at hp
      have q1 : (k : Int) < len := by omega
      have q2 : (k : Int) < 40 := by omega
      have q3 : 0 < T.length := hT.pos
      have C := Lib.hid (hT.create rfl hcur p.1 p.2)
      have hTl2 : T.length ≤ 41 := by omega
      have fin : Hid (∀ st' w2, Told w tb b st' T (.slice (some ⟨g, 0, none⟩) T.length cp) w2 → ∀ o, GrownI w tb b len (gk - 1) (.slice (some ⟨g, 0, none⟩) T.length cp) (.int .i64 ((k : Int) + 1)) (w2.alloc o)) :=
        fun st' w2 h2 o => ⟨st', T, k + 1, by omega, by simp, by omega, h2.fresh (alloc1 _ _), by omega⟩
      have fin2 : Hid (∀ st' w2 pi pg v' w4, Told w tb b st' T (.slice (some ⟨g, 0, none⟩) T.length cp) w2 → st'.names pi pg = true → w4.ownsRow w.heap.size 34 2 v' (T.length + 1) (cellsH T ++ [.int .i64 pi, .int .i64 pg]) → Below w.heap.size w w4 → Tre w4 tb b (· < w.heap.size) st' → GrownI w tb b len (gk - 1) v' (.int .i64 ((k : Int) + 1)) w4) := by
        intro st' w2 pi pg v' w4 h2 hn hown hg ht
        refine ⟨st', T ++ [(pi, pg)], k + 1, by omega, by simp, by omega, ⟨ht, h2.inv, h2.ok, ?_, ?_, by simp, hg⟩, by simp; omega⟩
        · rw [cellsH_append]; simpa [cellsH] using hown
        · intro p hp
          rcases List.mem_append.1 hp with hp | hp
          · exact h2.named p hp
          · simp at hp; subst hp; exact hn
      have hgk : 0 < gk := by omega
      have hlt41 : (T.length : Int) ≤ 41 := by omega
      have hTpos : (0 : Int) < T.length := by omega
      clear hz hT hk hTl hleft hp hn hk40
      generalize z k = zk at *
      go_wp2_with fail
      go_at_call 13
      refine C.out.mono ?_
      rintro e w2 ⟨st', pi, pg, n, rfl, hT2, hn2, hc2⟩
      by_cases hn0 : n = 0
      · subst hn0
        have hgB := hT2.below
        have hgz := hgB.size
        have hrow := hT2.row
        have hb := heap_alloc_new w2 (.cells #[.int .i64 pi, .int .i64 pg] 34)
        obtain ⟨b0, b1, bz⟩ := box2 hb
        have hbb : ((w2.alloc (.cells #[.int .i64 pi, .int .i64 pg] 34)).alloc (.cells #[.int .i64 pi, .int .i64 pg] 34)).heap[w2.heap.size + 1]? = some (.cells #[.int .i64 pi, .int .i64 pg] 34 (0, 0)) := by
          rw [show w2.heap.size + 1 = (w2.alloc (.cells #[.int .i64 pi, .int .i64 pg] 34)).heap.size by simp, heap_alloc_new]
        have ht4 : Hid (∀ w4, ((w2.alloc (.cells #[.int .i64 pi, .int .i64 pg] 34)).alloc (.cells #[.int .i64 pi, .int .i64 pg] 34)).grownBy w4 (some g) → Tre w4 tb b (· < w.heap.size) st' ∧ Below w.heap.size w w4) := by
          intro w4 hgr
          have hB := But.grown hgr
          have h3 := (((hT2.tree.guard hc2).fresh (alloc2 w2 _ _)).but (.inr rfl) hB).other (O' := (· < w.heap.size)) fun k hk => .inl (.inl hk)
          exact ⟨h3, hB.below ((hgB.alloc hgz _).alloc (by simp; omega) _) (own_lt hrow rfl).1⟩
        have hnn := hn2 rfl
        have F2 := Lib.hid (fin2.out st' w2 pi pg)
        have hT2' := Lib.hid hT2
        clear fin fin2 hn2 C
        go_wp2_with (at_builtin; refine wpList_append_own _ rfl (.tmp 43) (.tmp 45) 35 rfl w.heap.size 34 i0 _ 2 16 Try.underlying35 hi hz0 hz1 hz2 rfl (by decide) _ _ _ rfl ((hrow.alloc _).alloc _) ⟨w2.heap.size + 1, 0, none⟩ 1 1 [.int .i64 pi, .int .i64 pg] rfl rfl (World.news_of_block hbb) (by simp [Value.oneCell']) (by simp only [maxLen]; omega) (by omega) (by simp; omega) ?_; intro v' w4 hown4 hgrow4 _; have G := Lib.hid (F2.out v' w4 hT2'.out hnn hown4 (ht4.out w4 hgrow4).2 (ht4.out w4 hgrow4).1))
        go_roundg (gk - 1)
        case measure => omega
        case rel => exact G.out
      · have hn1 : (n == 0) = false := by simpa using hn0
        have F := Lib.hid (fin.out st' w2 hT2)
        clear hT2 hn2
        go_wp2_with fail
        go_roundg (gk - 1)
        case measure => omega
        case rel => exact F.out _
    · have F := Lib.hid hT
      have hTl2 : T.length ≤ 41 := by omega
      by_cases h1 : k < len
      · have q1 : (k : Int) < len := by omega
        have q2 : ¬ (k : Int) < 40 := by omega
        have q3 : decide ((k : Int) < 40) = false := by simpa using q2
        clear hT hk
        go_wp2_with fail
        go_ret2
        exact ⟨_, _, _, _, _, rfl, F.out, hTl2⟩
      · have q2 : ¬ (k : Int) < len := by omega
        have q3 : decide ((k : Int) < len) = false := by simpa using q2
        clear hT hk
        go_wp2_with fail
        go_ret2
        exact ⟨_, _, _, _, _, rfl, F.out, hTl2⟩
end Go.Proofs.Ytcfdpbidhanldaa.Gt
