/- What Depth and Below of the document's tree answer. Conditions: as each fact states them. -/
import Derived.Test.YtanahddlnchioaaGtDocP
import Derived.Test.YtanahddlnchioaaArenaRefN
import Derived.Test.YtanahddlnchioaaGtUnder
namespace Go.Proofs.Ytanahddlnchioaa.Gt
open Go.ChangeShapes Go.WideShapes Go.ChangeAt Go.RowKit Hp
set_option linter.unusedVariables false
set_option linter.unusedSimpArgs false
set_option maxRecDepth 100000

theorem Ups.top {st : St} {i g : Int} {l : List (Int × Int)} (h : Ups st i g l) : st.names 0 0 = true := by
  induction h with
  | root h => exact h
  | step _ _ _ ih => exact ih
theorem root_gen {st : St} {g : Int} (h : st.names 0 0 = true) (hg : st.names 0 g = true) : g = 0 := by
  obtain ⟨k, q, e, hq, _, h1⟩ := St.named h
  obtain ⟨k', q', e', hq', _, h2⟩ := St.named hg
  have : k = k' := by omega
  subst this
  rw [hq] at hq'
  cases hq'
  omega
theorem Ups.not_zero {st : St} {i g : Int} {p : Int × Int} {l : List (Int × Int)} (h : Ups st i g (p :: l)) : 0 < i ∧ p = (st.thing i g, st.tgen i g) ∧ Ups st (st.thing i g) (st.tgen i g) l ∧ 0 ≤ st.thing i g := by
  obtain ⟨h1, h2, h3, h4⟩ := h.cons
  obtain ⟨k, q, e, _⟩ := St.named h1
  obtain ⟨k', q', e', _⟩ := St.named h4.named
  refine ⟨?_, h3, h4, by omega⟩
  by_cases h0 : i = 0
  · rw [h0] at h1 h2
    rw [root_gen h4.top h1] at h2
    simp [isRoot] at h2
  · omega
/-- What the document has at a group's place. -/
def within (st : St) (i g : Int) : Int := if i = 0 then -1 else st.thing i g
theorem doc_val {st : St} {i g : Int} (hn : st.names i g = true) : ∃ k : Nat, i = k ∧ k < st.pl.length ∧ (Arena.cV (doc st).pl)[k]? = some (.int .i64 (within st i g)) := by
  obtain ⟨k, q, rfl, hq, hf, rfl⟩ := St.named hn
  refine ⟨k, rfl, (List.getElem?_eq_some_iff.1 hq).1, ?_⟩
  unfold Arena.cV doc
  rw [List.getElem?_map, docL_at, hq]
  simp only [Option.map_some, docQ, within]
  by_cases hk : k = 0
  · simp [hk]
  · have : ¬ (k : Int) = 0 := by omega
    simp [hk, this, St.thing, hn, St.at, hq]
def DepI (st : St) (W : World) (m : Nat) (left : Nat) (t n : Value) (wr : World) : Prop := ∃ (i g : Int) (l : List (Int × Int)) (k : Nat), t = .int .i64 i ∧ n = .int .i64 k ∧ k + l.length = m ∧ left = l.length ∧ Hid (Ups st i g l) ∧ wr = W
set_option maxHeartbeats 2000000 in
theorem refDepth (w : World) (B : Nat) (r : Int) (v1 v2 v3 v4 : Value) (st : St) (i g : Int) (l : List (Int × Int)) (h : Arena.RefAt B v1 v2 v3 v4 (doc st) w) (h1 : st.pl.length ≤ 4096) (hu : Ups st i g l) (hl : l.length ≤ 100) :
    Calls Try.prog 26 #[.agg #[.int .i64 r, v1, v2, v3, v4], .int .i64 i] w (IsInt l.length w) := by
  have hb := heap_alloc_new w (.cells #[.int .i64 r, v1, v2, v3, v4] 29)
  have hg := (Below.refl w.heap.size w).alloc (Nat.le_refl _) (.cells #[.int .i64 r, v1, v2, v3, v4] 31)
  have H := Lib.hid (h.fresh hg)
  have hb2 := heap_alloc_new w (.cells #[.int .i64 r, v1, v2, v3, v4] 31)
  clear hb
  obtain ⟨m, hm⟩ : ∃ m, l.length = m := ⟨_, rfl⟩
  have HM := Lib.hid hm
  have J0 := Lib.hid (show DepI st (w.alloc (.cells #[.int .i64 r, v1, v2, v3, v4] 31)) m m (.int .i64 i) (.int .i64 0) _ from ⟨i, g, l, 0, rfl, rfl, by omega, hm.symm, hu, rfl⟩)
  have hm100 : m ≤ 100 := by omega
  rw [hm]
  clear h hu hm HM hl
  obtain ⟨b0, b1, b2, b3, b4, bz⟩ := Arena.five hb2
  clear hb2
  go_enter Try.func26, Try.ntmps26
  go_wp2_with fail
  generalize w.alloc (.cells #[.int .i64 r, v1, v2, v3, v4] 31) = W at *
  go_loopg [1, 5] m (fun left t n wr => DepI st W m left t n wr)
  case atStart => exact J0.out
  case round =>
    clear J0
    obtain ⟨i, g, l, k, rfl, rfl, hk, rfl, HU, rfl⟩ := hrel
    obtain ⟨kk, rfl, hkl, hv⟩ := doc_val HU.out.named
    obtain ⟨gb, cp, hsl, c0, _⟩ := Arena.row_cell H.out.o1 hv
    have hdl : (doc st).pl.length = st.pl.length := docL_length st.pl
    rw [hdl] at hsl
    subst hsl
    clear hdl
    have q1 : (kk : Int) < st.pl.length := by omega
    have q2 : (st.pl.length : Int) ≤ 4096 := by omega
    cases l with
    | nil =>
      obtain ⟨z1, z2, _⟩ := HU.out.nil
      have hz : within st (kk : Int) g = -1 := if_pos z1
      rw [hz] at c0
      have gd : decide ((0 : Int) ≤ -1) = false := rfl
      obtain rfl : k = m := by simpa using hk
      clear HU hv hk z1 z2 hz H
      go_wp2_with fail
      go_ret
      exact ⟨rfl, hg⟩
    | cons p l =>
      obtain ⟨u0, u1, u2, u3⟩ := HU.out.not_zero
      have hz : within st (kk : Int) g = st.thing kk g := if_neg (by omega)
      rw [hz] at c0
      have HU2 := Lib.hid u2
      simp only [List.length_cons] at hk ⊢
      have hk2 : (k : Int) ≤ 100 := by omega
      clear HU hv u1 u2 hz H
      generalize st.thing kk g = x at *
      go_wp2_with fail
      go_roundg l.length
      case measure => (first | omega | (simp only [List.length_cons]; omega))
      case rel => exact ⟨x, _, l, k + 1, rfl, by go_num, by omega, rfl, HU2, rfl⟩
end Go.Proofs.Ytanahddlnchioaa.Gt
