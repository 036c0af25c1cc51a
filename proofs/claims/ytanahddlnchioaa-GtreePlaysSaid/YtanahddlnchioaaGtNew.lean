/- A tree that a caller holds; what New and Create of package gtree do. Conditions: none. -/
import Derived.Test.YtanahddlnchioaaGtSteps
namespace Go.Proofs.Ytanahddlnchioaa.Gt
open Go.ChangeShapes Go.WideShapes Go.ChangeAt Go.RowKit Hp
set_option linter.unusedVariables false
set_option linter.unusedSimpArgs false

/-- The answer, the tree behind it, and what was held apart from it. -/
def Did (v : Value) (st : St) (tb b : Nat) (O : Nat → Prop) (w : World) (e : Ending) (w' : World) : Prop := e = .returned v ∧ Tre w' tb b O st ∧ Same O w w'

theorem Tre.same {w w' : World} {tb b : Nat} {O : Nat → Prop} {st st' : St} (h : Tre w tb b O st) (hp : Pool w' b (With O tb) st') (hs : Same (With O tb) w w') : Tre w' tb b O st' :=
  ⟨(hs.block _ (.inr rfl)).trans h.blk, h.out, hp⟩

/-- The root alone. -/
def st0 : St := ⟨32, [⟨0, 0, true, 0⟩], []⟩
def IsNew (w : World) (e : Ending) (w' : World) : Prop := ∃ tb b, e = .returned (.pointer (some ⟨tb, 0, none⟩)) ∧ Tre w' tb b (· < w.heap.size) st0 ∧ Below w.heap.size w w'
theorem new_tree (w : World) : Calls Try.prog 5 #[] w (IsNew w) := by
  go_enter Try.func5, Try.ntmps5
  go_wp2_with (first
    | (go_at_call 20; refine (newHold w w 32 (Below.refl _ w) (by omega) (by omega)).mono ?_; rintro e w1 ⟨rfl, h0, _⟩)
    | (go_at_call 21; refine (show Calls _ _ _ _ (Res (.tuple #[.agg #[.int .i64 0, .int .i64 0], .int .i64 0]) _ _ _ _ st0 _) from h0.put 0 0 (by omega)).mono ?_; clear h0; rintro e w2 ⟨rfl, h1, _⟩))
  go_ret
  refine ⟨_, _, rfl, ⟨heap_alloc_new _ _, ?_, (h1.pool.other fun k hk => ?_).fresh (alloc1 _ _)⟩, h1.below.alloc h1.below.size _⟩
  · have := h1.below.size; omega
  · rcases hk with hk | rfl
    · exact .inl hk
    · exact .inr (Nat.le_refl _)

/-- What a tree is beside a sound pool: the root is there, and from each group the way up ends there. -/
structure Ok (st : St) : Prop where
  root : st.names 0 0 = true
  ways : ∀ i g, st.names i g = true → ∃ l, Ups st i g l ∧ l.length ≤ 8
theorem Ok.zero : Ok st0 := by
  have hr : st0.names 0 0 = true := by decide
  refine ⟨hr, fun i g h => ?_⟩
  obtain ⟨k, q, rfl, hq, hf, hg⟩ := St.named h
  cases k with
  | zero => simp [st0] at hq; subst hq; subst hg; exact ⟨[], .root hr, by simp⟩
  | succ k => simp [st0] at hq

/-- The pool's answer, as the tree's. -/
theorem create_nil (w : World) (i g : Int) : Calls Try.prog 8 #[.pointer none, .agg #[.int .i64 i, .int .i64 g]] w (IsTwo 0 0 2 w) := by
  go_enter Try.func8, Try.ntmps8
  go_wp2_with (go_at_call 24; refine (depth_nil _ _ _).mono ?_; rintro e w1 ⟨rfl, hg1⟩; obtain ⟨a0, a1, a2⟩ := four hg1 rfl; have hg := fresh_trans (alloc2 _ _ _) hg1; clear hg1; obtain ⟨b0, b1, bz⟩ := box2 a2)
  refine bodyPost_ret (v := .tuple #[.agg #[.int .i64 0, .int .i64 0], .int .i64 2]) (by simp [results, Try.results8, go_sem, b0, b1]) rfl ?_
  exact ⟨rfl, by have := hg.size; go_grown⟩
theorem create_none (w : World) (tb b : Nat) (O : Nat → Prop) (st : St) (i g : Int) (h : Tre w tb b O st) (h1 : st.pl.length ≤ 4096) (hn : st.names i g = false) :
    Calls Try.prog 8 #[.pointer (some ⟨tb, 0, none⟩), .agg #[.int .i64 i, .int .i64 g]] w (IsTwo 0 0 2 w) := by
  have D : Hid _ := fun w h => depth_none w tb b O st i g h h1 hn
  clear hn
  go_enter Try.func8, Try.ntmps8
  go_wp2_with (go_at_call 24; refine (D.out _ (h.fresh (alloc2 _ _ _))).mono ?_; rintro e w1 ⟨rfl, hg1⟩; obtain ⟨a0, a1, a2⟩ := four hg1 rfl; have hg := fresh_trans (alloc2 _ _ _) hg1; clear hg1; obtain ⟨b0, b1, bz⟩ := box2 a2)
  refine bodyPost_ret (v := .tuple #[.agg #[.int .i64 0, .int .i64 0], .int .i64 2]) (by simp [results, Try.results8, go_sem, b0, b1]) rfl ?_
  exact ⟨rfl, by have := hg.size; go_grown⟩
theorem create_deep (w : World) (tb b : Nat) (O : Nat → Prop) (st : St) (i g : Int) (l : List (Int × Int)) (h : Tre w tb b O st) (h1 : st.pl.length ≤ 4096) (hu : Ups st i g l) (hl : l.length = 8) :
    Calls Try.prog 8 #[.pointer (some ⟨tb, 0, none⟩), .agg #[.int .i64 i, .int .i64 g]] w (IsTwo 0 0 5 w) := by
  have D : Hid _ := fun w h => depth w tb b O st i g l h h1 hu (by omega)
  rw [hl] at D
  clear hu hl
  go_enter Try.func8, Try.ntmps8
  go_wp2_with (go_at_call 24; refine (D.out _ (h.fresh (alloc2 _ _ _))).mono ?_; rintro e w1 ⟨rfl, hg1⟩; obtain ⟨a0, a1, a2⟩ := four hg1 rfl; have hg := fresh_trans (alloc2 _ _ _) hg1; clear hg1; obtain ⟨b0, b1, bz⟩ := box2 a2)
  refine bodyPost_ret (v := .tuple #[.agg #[.int .i64 0, .int .i64 0], .int .i64 5]) (by simp [results, Try.results8, go_sem, b0, b1]) rfl ?_
  exact ⟨rfl, by have := hg.size; go_grown⟩
/-- The box of the result stands apart, too. -/
theorem create_end {w w1 w2 : World} {tb b : Nat} {O : Nat → Prop} {st st' : St} (h : Tre w tb b O st) (hO : ∀ k, O k → k < w.heap.size) (hg : Below w.heap.size w w1) (hp : Pool w2 b (With2 (With O tb) w.heap.size) st') (hs : Same (With2 (With O tb) w.heap.size) w1 w2) (u v : Value) :
    Tre ((w2.setCell ⟨w.heap.size + 1, 0, none⟩ u).setCell ⟨w.heap.size + 1, 1, none⟩ v) tb b O st' ∧ Same O w ((w2.setCell ⟨w.heap.size + 1, 0, none⟩ u).setCell ⟨w.heap.size + 1, 1, none⟩ v) := by
  have hB : ¬ With O tb (w.heap.size + 1) := fun h' => by
    rcases h' with h' | h'
    · have := hO _ h'; omega
    · have := h.lt; omega
  have hlt : ∀ k, With O tb k → k < w.heap.size := With.lt hO h.lt
  have hs1 : Same (With O tb) w w2 := (Same.of hg hlt).trans hs.without2
  have hs2 := (hs1.setCell (p := ⟨w.heap.size + 1, 0, none⟩) hB u).setCell (p := ⟨w.heap.size + 1, 1, none⟩) hB v
  have hp2 := ((hp.setOther (a := ⟨w.heap.size + 1, 0, none⟩) (.inr rfl) u).setOther (a := ⟨w.heap.size + 1, 1, none⟩) (.inr rfl) v).without2
  exact ⟨h.same hp2 hs2, hs2.without⟩
set_option maxHeartbeats 4000000 in
theorem create_some (w : World) (tb b : Nat) (O : Nat → Prop) (N : Int) (st : St) (i g : Int) (l : List (Int × Int)) (h : Tre w tb b O st) (hI : Inv N st) (hO : ∀ k, O k → k < w.heap.size) (hu : Ups st i g l) (hl : l.length < 8) :
    Calls Try.prog 8 #[.pointer (some ⟨tb, 0, none⟩), .agg #[.int .i64 i, .int .i64 g]] w (Did (.tuple #[.agg #[.int .i64 (st.put i g).i, .int .i64 (st.put i g).g], .int .i64 (st.put i g).n]) (st.put i g).st tb b O w) := by
  have D : Hid _ := fun w h => depth w tb b O st i g l h hI.l1 hu (by omega)
  have P : Hid _ := fun w' h hO => Hp.put (w := w') (b := b) (O := With2 (With O tb) w.heap.size) i g h hI hO
  have hlt : ∀ k, With O tb k → k < w.heap.size := With.lt hO h.lt
  have q8 : decide ((8 : Int) ≤ l.length) = false := by simp; omega
  have q9 : ¬ (8 : Int) ≤ l.length := by omega
  have hpw := h.pool.with2
  clear hu hl
  generalize (l.length : Int) = d at *
  generalize st.put i g = R at *
  obtain ⟨st', pi, pg, pn⟩ := R
  have P : Hid (∀ w', Pool w' b (With2 (With O tb) w.heap.size) st → (∀ k, With2 (With O tb) w.heap.size k → k < w'.heap.size) → Calls Try.prog 21 #[.pointer (some ⟨b, 0, none⟩), .agg #[.int .i64 i, .int .i64 g]] w' (IsPut pi pg pn st' b (With2 (With O tb) w.heap.size) w')) := P.out
  go_enter Try.func8, Try.ntmps8
  go_wp2_with (go_at_call 24; refine (D.out _ (h.fresh (alloc2 _ _ _))).mono ?_; rintro e w1 ⟨rfl, hg1⟩; obtain ⟨a0, a1, a2⟩ := four hg1 rfl; have hg := fresh_trans (alloc2 _ _ _) hg1; have hz1 := hg1.size; simp only [World.size_alloc] at hz1; clear hg1)
  have c0 := (h.fresh hg).cell
  have E : Hid (∀ w2, Pool w2 b (With2 (With O tb) w.heap.size) st' → Same (With2 (With O tb) w.heap.size) w1.drew w2 → ∀ u v, _) := fun w2 hp hs u v => create_end h hO hg.drew hp hs u v
  have hlt2 : ∀ k, With2 (With O tb) w.heap.size k → k < w1.drew.heap.size := by
    rintro k ((hk | rfl) | rfl)
    · have := hlt k hk; show k < w1.heap.size; omega
    · show _ < w1.heap.size; omega
    · show _ < w1.heap.size; omega
  have hpp : Hid (Pool w1.drew b (With2 (With O tb) w.heap.size) st) := hpw.fresh hg.drew
  clear hpw
  go_region_with (go_at_call 21; refine (P.out w1.drew hpp.out hlt2).mono ?_; rintro e w2 ⟨rfl, hp2, hs2⟩; obtain ⟨b0, b1, bz⟩ := box2 ((hs2.block _ (.inr rfl)).trans a2); have F := Lib.hid (E.out _ hp2 hs2); clear hp2 hs2)
  all_goals
    go_wp2
    refine bodyPost_ret (v := .tuple #[.agg #[.int .i64 pi, .int .i64 pg], .int .i64 pn]) (by simp [results, Try.results8, go_sem, b0, b1]) rfl ?_
    exact ⟨rfl, F.out _ _⟩
end Go.Proofs.Ytanahddlnchioaa.Gt
