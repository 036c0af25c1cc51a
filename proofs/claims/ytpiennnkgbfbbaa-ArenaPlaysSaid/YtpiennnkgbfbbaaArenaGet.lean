/- What handle and Get of package arena answer. Conditions: none. -/
import Derived.Test.YtpiennnkgbfbbaaArenaReads
namespace Go.Proofs.Ytpiennnkgbfbbaa.Arena
open Go.ChangeShapes Go.WideShapes Go.ChangeAt Go.RowKit
set_option linter.unusedVariables false
set_option linter.unusedSimpArgs false

def IsHandle (i g : Int) (w : World) (e : Ending) (w' : World) : Prop := e = .returned (.agg #[.int .i64 i, .int .i64 g]) ∧ Below w.heap.size w w'
def IsTwo (x n : Int) (w : World) (e : Ending) (w' : World) : Prop := e = .returned (.tuple #[.int .i64 x, .int .i64 n]) ∧ Below w.heap.size w w'

theorem handle (w : World) (b : Nat) (O : Nat → Prop) (st : St) (k : Nat) (q : Pl) (h : Pool w b O st) (h1 : st.pl.length ≤ 4096) (hq : st.pl[k]? = some q) :
    Calls Try.prog 26 #[.pointer (some ⟨b, 0, none⟩), .int .i64 (k : Int)] w (IsHandle k q.gen w) := by
  have hk : k < st.pl.length := (List.getElem?_eq_some_iff.1 hq).1
  have hk1 : (k : Int) < st.pl.length := by omega
  obtain ⟨vp, vf, hb, ho, hp, hf⟩ := h
  obtain ⟨c0, c1, c2, fz⟩ := Pool.cells hb
  have d1 := cell_alloc c1
  obtain ⟨gp, cp, rfl, k0, k1, k2⟩ := hp.places hq
  have e2 := cell_alloc k2
  clear hb hp hf
  generalize st.pl.length = n at *
  generalize q.gen = ge at *
  have hg := Below.refl w.heap.size w
  go_enter Try.func26, Try.ntmps26
  go_wp2
  refine bodyPost_ret (v := .agg #[.int .i64 (k : Int), .int .i64 ge]) (by simp [results, Try.results26, go_sem]) rfl ?_
  exact ⟨rfl, by go_grown⟩

def St.thing (st : St) (i g : Int) : Int := if st.names i g then (match st.at i with | some p => p.thing | none => 0) else 0
def St.err (st : St) (i g : Int) : Int := if st.names i g then 0 else 2

theorem St.named {st : St} {i g : Int} (h : st.names i g = true) : ∃ (k : Nat) (q : Pl), i = k ∧ st.pl[k]? = some q ∧ q.full = true ∧ q.gen = g := by
  by_cases hi : 0 ≤ i
  · obtain ⟨k, rfl⟩ := Int.eq_ofNat_of_zero_le hi
    cases hq : st.pl[k]? with
    | none => simp [St.names, St.at, hq] at h
    | some q =>
      simp [St.names, St.at, hq] at h
      exact ⟨k, q, rfl, hq, h.1, h.2⟩
  · rw [St.names_neg (by omega)] at h; cases h
theorem two {w w0 w1 : World} {x0 x1 : Value} {t : TypeId} (h : Below w0.heap.size w0 w1) (e : w0 = w.alloc (.cells #[x0, x1] t)) :
    w1.cell? ⟨w.heap.size, 0, none⟩ = some x0 ∧ w1.cell? ⟨w.heap.size, 1, none⟩ = some x1 := by
  subst e
  refine ⟨?_, ?_⟩ <;> (rw [h.cell (by simp)]; simp [go_sem])

theorem get_nil (w : World) (i g : Int) : Calls Try.prog 15 #[.pointer none, .agg #[.int .i64 i, .int .i64 g]] w (IsTwo 0 2 w) := by
  have hg := Below.refl w.heap.size w
  go_enter Try.func15, Try.ntmps15
  go_wp2_with (go_at_call 28; refine (names_nil _ _ _).mono ?_; rintro e w1 ⟨rfl, hg1⟩; replace hg := fresh_trans (hg.alloc (Nat.le_refl _) _) hg1; clear hg1)
  go_ret2
  exact ⟨rfl, hg⟩

theorem get (w : World) (b : Nat) (O : Nat → Prop) (st : St) (i g : Int) (h : Pool w b O st) (h1 : st.pl.length ≤ 4096) :
    Calls Try.prog 15 #[.pointer (some ⟨b, 0, none⟩), .agg #[.int .i64 i, .int .i64 g]] w (IsTwo (st.thing i g) (st.err i g) w) := by
  have C := fun w h => names w b O st i g h h1
  cases hn : st.names i g
  · rw [hn] at C
    rw [show st.thing i g = 0 by simp [St.thing, hn], show st.err i g = 2 by simp [St.err, hn]]
    have hg := Below.refl w.heap.size w
    go_enter Try.func15, Try.ntmps15
    go_wp2_with (go_at_call 28; refine (C _ (h.fresh ((Below.refl _ w).alloc (Nat.le_refl _) _))).mono ?_; rintro e w1 ⟨rfl, hg1⟩; replace hg := fresh_trans (hg.alloc (Nat.le_refl _) _) hg1; clear hg1)
    go_ret2
    exact ⟨rfl, hg⟩
  rw [hn] at C
  obtain ⟨k, q, rfl, hq, hqf, hqg⟩ := St.named hn
  rw [show st.thing k g = q.thing by simp [St.thing, hn, St.at, hq], show st.err k g = 0 by simp [St.err, hn]]
  have hk : k < st.pl.length := (List.getElem?_eq_some_iff.1 hq).1
  have hk1 : (k : Int) < st.pl.length := by omega
  have hg := Below.refl w.heap.size w
  go_enter Try.func15, Try.ntmps15
  go_wp2_with (go_at_call 28; refine (C _ (h.fresh ((Below.refl _ w).alloc (Nat.le_refl _) _))).mono ?_; rintro e w1 ⟨rfl, hg1⟩; obtain ⟨h0, h1'⟩ := two hg1 rfl; replace hg := fresh_trans (hg.alloc (Nat.le_refl _) _) hg1; clear hg1; replace h := h.fresh hg)
  obtain ⟨vp, vf, hb, ho, hp, hf⟩ := h
  obtain ⟨c0, c1, c2, fz⟩ := Pool.cells hb
  obtain ⟨gp, cp, rfl, k0, k1, k2⟩ := hp.places hq
  clear hb hp hf
  generalize st.pl.length = n at *
  go_quiet (fail)
  go_wp2
  go_ret2
  exact ⟨rfl, fresh_trans hg (drawn _ _)⟩
end Go.Proofs.Ytpiennnkgbfbbaa.Arena
