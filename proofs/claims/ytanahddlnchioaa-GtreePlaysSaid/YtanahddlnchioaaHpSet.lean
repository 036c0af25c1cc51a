/- What Set of package arena does. Conditions: none. -/
import Derived.Test.YtanahddlnchioaaHpParts
import Derived.Test.YtanahddlnchioaaHpGet
import Derived.BigRegion
namespace Go.Proofs.Ytanahddlnchioaa.Hp
open Go.ChangeShapes Go.WideShapes Go.ChangeAt Go.RowKit
set_option linter.unusedVariables false
set_option linter.unusedSimpArgs false

def St.set (st : St) (i g x y : Int) : St := if st.names i g then { st with pl := st.pl.set i.toNat ⟨x, y, true, g⟩ } else st
/-- The answer, the pool behind it, and what was held apart from it. -/
def Did (v : Value) (st : St) (b : Nat) (O : Nat → Prop) (w : World) (e : Ending) (w' : World) : Prop := e = .returned v ∧ Pool w' b O st ∧ Same O w w'

theorem set_eq {l : List Value} {i : Nat} {v : Value} (h : l[i]? = some v) : l.set i v = l := by
  apply List.ext_getElem?
  intro j
  rw [List.getElem?_set]
  split
  · rename_i e; subst e; rw [if_pos (List.getElem?_eq_some_iff.1 h).1, h]
  · rfl
theorem set_thing {l : List Pl} {k : Nat} {q : Pl} {g x y : Int} (hq : l[k]? = some q) (hf : q.full = true) (hg : q.gen = g) : cellsP (l.set k ⟨x, y, true, g⟩) = ((cellsP l).set (k * 4) (.int .i64 x)).set (k * 4 + 1) (.int .i64 y) := by
  obtain ⟨h0, ht, h1, h2⟩ := cellsP_at hq
  subst hg
  rw [hf] at h1
  rw [cellsP_set (List.getElem?_eq_some_iff.1 hq).1]
  rw [set_eq (i := k * 4 + 2), set_eq (i := k * 4 + 3)]
  · rw [List.getElem?_set_ne (by omega), List.getElem?_set_ne (by omega)]; exact h2
  · rw [List.getElem?_set_ne (by omega), List.getElem?_set_ne (by omega)]; exact h1

theorem set_nil (w : World) (i g x y : Int) : Calls Try.prog 35 #[.pointer none, .agg #[.int .i64 i, .int .i64 g], .agg #[.int .i64 x, .int .i64 y]] w (IsInt 2 w) := by
  have hg := Below.refl w.heap.size w
  go_enter Try.func35, Try.ntmps35
  go_wp2_with (go_at_call 54; refine (names_nil _ _ _).mono ?_; rintro e w1 ⟨rfl, hg1⟩; replace hg := fresh_trans (alloc2 _ _ _) hg1; clear hg1)
  go_ret
  exact ⟨rfl, hg⟩

theorem set (w : World) (b : Nat) (O : Nat → Prop) (st : St) (i g x y : Int) (h : Pool w b O st) (h1 : st.pl.length ≤ 4096) (hO : ∀ k, O k → k < w.heap.size) :
    Calls Try.prog 35 #[.pointer (some ⟨b, 0, none⟩), .agg #[.int .i64 i, .int .i64 g], .agg #[.int .i64 x, .int .i64 y]] w (Did (.int .i64 (st.err i g)) (st.set i g x y) b O w) := by
  have C := fun w h => names w b O st i g h h1
  cases hn : st.names i g
  · rw [hn] at C
    rw [show st.set i g x y = st by simp [St.set, hn], show st.err i g = 2 by simp [St.err, hn]]
    have hg := Below.refl w.heap.size w
    go_enter Try.func35, Try.ntmps35
    go_wp2_with (go_at_call 54; refine (C _ (h.fresh (alloc2 _ _ _))).mono ?_; rintro e w1 ⟨rfl, hg1⟩; replace hg := fresh_trans (alloc2 _ _ _) hg1; clear hg1)
    go_ret
    exact ⟨rfl, h.fresh hg, Same.of hg hO⟩
  rw [hn] at C
  obtain ⟨k, q, rfl, hq, hqf, hqg⟩ := St.named hn
  have hk : k < st.pl.length := (List.getElem?_eq_some_iff.1 hq).1
  have hk1 : (k : Int) < st.pl.length := by omega
  rw [show st.err k g = 0 by simp [St.err, hn], show st.set k g x y = { st with pl := st.pl.set k ⟨x, y, true, g⟩ } by simp [St.set, hn]]
  have hg := Below.refl w.heap.size w
  go_enter Try.func35, Try.ntmps35
  go_wp2_with (go_at_call 54; refine (C _ (h.fresh (alloc2 _ _ _))).mono ?_; rintro e w1 ⟨rfl, hg1⟩; obtain ⟨a0, a1, a2⟩ := four hg1 rfl; obtain ⟨b0, b1, bz⟩ := box2 a2; replace hg := fresh_trans (alloc2 _ _ _) hg1; clear hg1 a2; replace h := h.fresh hg)
  obtain ⟨vp, vf, hP⟩ := h.parts
  obtain ⟨c0, c1, c2, fz⟩ := Pool.cells hP.blk
  obtain ⟨gp, cp, rfl, k0, kt, k1, k2⟩ := hP.pl.places hq
  have z0 := hP.pl.1.frozenAt (k * 4)
  have z1 := hP.pl.1.frozenAt (k * 4 + 1)
  have key := (((hP.drew).place (k * 4) (.int .i64 x)).place (k * 4 + 1) (.int .i64 y)).pool (st := { st with pl := st.pl.set k ⟨x, y, true, g⟩ }) (by simp) (set_thing hq hqf hqg) rfl rfl
  have same := ((hP.drew).place (k * 4) (.int .i64 x)).placeSame ((hP.drew).placeSame (Same.of hg hO).drew (k * 4) (.int .i64 x)) (k * 4 + 1) (.int .i64 y)
  have A : Hid (_ ∧ _) := ⟨key, same⟩
  clear h hP C key same
  generalize st.pl.length = n at *
  go_region
  go_wp2
  go_ret
  exact ⟨rfl, A.out⟩
end Go.Proofs.Ytanahddlnchioaa.Hp
