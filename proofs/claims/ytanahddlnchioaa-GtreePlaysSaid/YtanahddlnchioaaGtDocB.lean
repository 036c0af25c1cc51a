/- What Below of the document's tree answers. Conditions: as each fact states them. -/
import Derived.Test.YtanahddlnchioaaGtDoc
namespace Go.Proofs.Ytanahddlnchioaa.Gt
open Go.ChangeShapes Go.WideShapes Go.ChangeAt Go.RowKit Hp
set_option linter.unusedVariables false
set_option linter.unusedSimpArgs false
set_option maxRecDepth 100000

theorem one_gen {st : St} {i g g' : Int} (h : st.names i g = true) (h' : st.names i g' = true) : g = g' := by
  obtain ⟨k, q, e, hq, _, h1⟩ := St.named h
  obtain ⟨k', q', e', hq', _, h2⟩ := St.named h'
  have : k = k' := by omega
  subst this
  rw [hq] at hq'
  cases hq'
  omega
theorem Ups.all {st : St} {i g : Int} {l : List (Int × Int)} (h : Ups st i g l) : ∀ p ∈ (i, g) :: l, st.names p.1 p.2 = true := by
  induction h with
  | root h => intro p hp; simp at hp; rw [hp]; exact h
  | step h1 h2 h3 ih =>
    intro p hp
    rcases List.mem_cons.1 hp with rfl | hp
    · exact h1
    · exact ih p hp
/-- Who is on the way up, by places. -/
theorem isIn_place {st : St} {i g j k : Int} {l : List (Int × Int)} (h : Ups st i g l) (hj : st.names j k = true) : isIn i g j k l = decide (j ∈ ((i, g) :: l).map Prod.fst) := by
  unfold isIn
  rw [decide_eq_decide]
  constructor
  · intro hm
    exact List.mem_map.2 ⟨_, hm, rfl⟩
  · intro hm
    obtain ⟨p, hp, hpj⟩ := List.mem_map.1 hm
    have hn := h.all p hp
    obtain ⟨p1, p2⟩ := p
    simp only at hpj hn
    subst hpj
    rw [one_gen hj hn]
    exact hp
def BelI (st : St) (W : World) (j : Int) (R : Bool) (left : Nat) (t : Value) (wr : World) : Prop :=
  wr = W ∧ ((∃ (i g : Int) (l : List (Int × Int)), t = .int .i64 i ∧ left = l.length + 1 ∧ Hid (Ups st i g l) ∧ Hid (R = decide (j ∈ ((i, g) :: l).map Prod.fst))) ∨ (t = .int .i64 (-1) ∧ left = 0 ∧ R = false))
set_option maxHeartbeats 2000000 in
theorem refBelow (w : World) (B : Nat) (r : Int) (v1 v2 v3 v4 : Value) (st : St) (i g j k : Int) (l : List (Int × Int)) (h : Arena.RefAt B v1 v2 v3 v4 (doc st) w) (h1 : st.pl.length ≤ 4096) (hu : Ups st i g l) (hj : st.names j k = true) :
    Calls Try.prog 36 #[.agg #[.int .i64 r, v1, v2, v3, v4], .int .i64 i, .int .i64 j] w (IsBool (isIn i g j k l) w) := by
  have hg := (Below.refl w.heap.size w).alloc (Nat.le_refl _) (.cells #[.int .i64 r, v1, v2, v3, v4] 31)
  have H := Lib.hid (h.fresh hg)
  have hb2 := heap_alloc_new w (.cells #[.int .i64 r, v1, v2, v3, v4] 31)
  rw [isIn_place hu hj]
  obtain ⟨R, hR⟩ : ∃ R, decide (j ∈ ((i, g) :: l).map Prod.fst) = R := ⟨_, rfl⟩
  have J0 := Lib.hid (show BelI st (w.alloc (.cells #[.int .i64 r, v1, v2, v3, v4] 31)) j R (l.length + 1) (.int .i64 i) _ from ⟨rfl, .inl ⟨i, g, l, rfl, rfl, hu, hR.symm⟩⟩)
  rw [hR]
  have j0 : 0 ≤ j := by obtain ⟨kk, _, e, _⟩ := St.named hj; omega
  clear h hu hR hj
  obtain ⟨b0, b1, b2, b3, b4, bz⟩ := Arena.five hb2
  clear hb2
  go_enter Try.func36, Try.ntmps36
  go_wp2_with fail
  generalize w.alloc (.cells #[.int .i64 r, v1, v2, v3, v4] 31) = W at *
  go_loopg [1] (l.length + 1) (fun left t wr => BelI st W j R left t wr)
  case atStart => exact J0.out
  case round =>
    clear J0
    obtain ⟨rfl, hrel⟩ := hrel
    rcases hrel with ⟨i, g, l, rfl, rfl, HU, HR⟩ | ⟨rfl, rfl, rfl⟩
    · by_cases hij : i = j
      · subst hij
        have : R = true := by rw [HR.out]; simp
        subst this
        clear HR HU H
        go_wp2_with fail
        go_ret
        exact ⟨rfl, hg⟩
      · have hij' : (i == j) = false := by simpa using hij
        obtain ⟨kk, rfl, hkl, hv⟩ := doc_val HU.out.named
        obtain ⟨gb, cp, hsl, c0, _⟩ := Arena.row_cell H.out.o1 hv
        have hdl : (doc st).pl.length = st.pl.length := docL_length st.pl
        rw [hdl] at hsl
        subst hsl
        clear hdl
        have q1 : (kk : Int) < st.pl.length := by omega
        have q2 : (st.pl.length : Int) ≤ 4096 := by omega
        have q3 : (0 : Int) ≤ (kk : Int) := by omega
        cases l with
        | nil =>
          obtain ⟨z1, z2, _⟩ := HU.out.nil
          have hz : within st (kk : Int) g = -1 := if_pos z1
          rw [hz] at c0
          have : R = false := by rw [HR.out]; simp; omega
          subst this
          clear HU HR hv z1 z2 hz H
          go_wp2_with fail
          go_roundg 0
          case measure => (first | omega | simp)
          case rel => exact ⟨rfl, .inr ⟨rfl, rfl, rfl⟩⟩
        | cons p l =>
          obtain ⟨u0, u1, u2, u3⟩ := HU.out.not_zero
          have hz : within st (kk : Int) g = st.thing kk g := if_neg (by omega)
          rw [hz] at c0
          have HU2 := Lib.hid u2
          have HR2 : Hid (R = decide (j ∈ ((st.thing kk g, st.tgen kk g) :: l).map Prod.fst)) := by
            show R = _
            rw [HR.out, decide_eq_decide, u1]
            simp only [List.map_cons, List.mem_cons]
            constructor
            · rintro (e | e)
              · exact absurd e.symm hij
              · exact e
            · exact .inr
          clear HU HR hv u1 u2 hz H
          generalize st.thing kk g = x at *
          go_wp2_with fail
          go_roundg (l.length + 1)
          case measure => (first | omega | (simp only [List.length_cons]; omega))
          case rel => exact ⟨rfl, .inl ⟨x, _, l, rfl, rfl, HU2, HR2⟩⟩
    · have h0 : ((-1 : Int) == j) = false := by simp; omega
      have gd : decide ((0 : Int) ≤ -1) = false := rfl
      clear H
      go_wp2_with fail
      go_ret
      exact ⟨by simp [h0], hg⟩
end Go.Proofs.Ytanahddlnchioaa.Gt
