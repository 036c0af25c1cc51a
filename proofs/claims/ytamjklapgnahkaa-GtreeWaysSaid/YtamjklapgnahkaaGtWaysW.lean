/- The walk of GtreeWays. Conditions: the argument is a slice of numbers of 8 bits. -/
import Derived.Test.YtamjklapgnahkaaGtGrown
namespace Go.Proofs.Ytamjklapgnahkaa.Gt
open Go.ChangeShapes Go.WideShapes Go.ChangeAt Go.RowKit Hp
set_option linter.unusedVariables false
set_option linter.unusedSimpArgs false

theorem Told.setBox {w0 w : World} {tb b B : Nat} {st : St} {T : List (Int × Int)} {v : Value} {cur : Array Value} (h : Told w0 tb b st T v w) (hB : w.heap[B]? = some (.cells cur 34 (0, 0))) (hne : ∀ j, v.ownBlock = some j → j ≠ B) (hge : w0.heap.size ≤ B) (u0 u1 : Value) :
    Told w0 tb b st T v ((w.setCell ⟨B, 0, none⟩ u0).setCell ⟨B, 1, none⟩ u1) := by
  have hb := ((But.of (a := B) (Below.refl _ w)).setCell (p := ⟨B, 0, none⟩) (.inl rfl) u0).setCell (p := ⟨B, 1, none⟩) (.inl rfl) u1
  exact ⟨((h.tree.guard hB).but (.inr rfl) hb).other fun k hk => .inl (.inl hk), h.inv, h.ok, own_but h.row hb hne, h.named, h.pos, hb.below h.below hge⟩
theorem pathOf_length (i : Int) (l : List (Int × Int)) : (pathOf i l).length = l.length := by simp [pathOf, upIdx_length]
theorem pathOf_cons (i : Int) (p : Int × Int) (l : List (Int × Int)) : pathOf i (p :: l) = pathOf p.1 l ++ [i] := by simp [pathOf, upIdx]

def WaysI (w1 : World) (tb b : Nat) (st : St) (T : List (Int × Int)) (v : Value) (left : Nat) (t6 : Value) (wr : World) : Prop := ∃ k : Nat, left + k = T.length ∧ t6 = .int .i64 k ∧ Told w1 tb b st T v wr
def WayI (w1 : World) (tb b : Nat) (st : St) (T : List (Int × Int)) (v v2 : Value) (n : Nat) (P : List Int) (B base : Nat) (left : Nat) (t12 : Value) (wr : World) : Prop :=
  ∃ (cx cy : Int) (l : List (Int × Int)) (R : List Int), left = l.length ∧ t12 = .int .i64 ((l.length : Int) - 1) ∧ l.length ≤ 8 ∧ Hid (Ups st cx cy l ∧ P = pathOf cx l ++ R) ∧ Told w1 tb b st T v wr ∧ wr.heap[B]? = some (.cells #[.int .i64 cx, .int .i64 cy] 34 (0, 0)) ∧ wr.ownsRow base 3 1 v2 n (ints P)

set_option maxHeartbeats 8000000 in
set_option maxRecDepth 100000 in
theorem ways_as (v : Option Addr) (len cap : Nat) (z : Nat → Int) (w : World) (hlen : len ≤ 9223372036854775807) (hz : ∀ j, 0 ≤ z j ∧ z j ≤ 255)
    (hc : ∀ j, j < len → ∃ k off, v = some ⟨k, off, none⟩ ∧ k < w.heap.size ∧ w.cell? ⟨k, off + j, none⟩ = some (.int .u8 (z j))) :
    Calls Try.prog 4 #[.slice v len cap] w (Yes w) := by
  replace hc := Lib.hid hc
  replace hz := Lib.hid hz
  go_enter Try.func4, Try.ntmps4
  go_wp2_with fail
  go_at_call 9; refine (awake w).mono ?_; rintro e w1 ⟨rfl, hg⟩
  go_wp2_with fail
  go_at_call 23
  refine (grown_tree v len cap z w1 hlen hz.out (fun j hj => ?_)).mono ?_
  · obtain ⟨k, off, e1, e2, e3⟩ := hc.out j hj
    exact ⟨k, off, e1, Nat.lt_of_lt_of_le e2 hg.size, (hg.cell e2).trans e3⟩
  rintro e w2 ⟨tb, b, st, T, tv, rfl, hT, hTl⟩
  clear hc hz
  obtain ⟨g, cp, rfl, -⟩ := hT.row.form hT.pos
  go_wp2_with fail
  go_loopg [6] T.length (fun left t6 wr => WaysI w1 tb b st T (.slice (some ⟨g, 0, none⟩) T.length cp) left t6 wr)
  case atStart => exact ⟨0, by omega, rfl, hT⟩
  case round =>
    clear hT
    obtain ⟨k, hk, rfl, hT⟩ := hrel
    by_cases hlt : k < T.length
    · obtain ⟨p, hp⟩ : ∃ p, T[k]? = some p := ⟨_, List.getElem?_eq_getElem hlt⟩
      obtain ⟨g', cp', e', t0, t1, hn, cur, hcur⟩ := hT.at hp
      cases e'
      obtain ⟨l, hu, hl⟩ := hT.ok.ways _ _ hn
      have q1 : (k : Int) < T.length := by omega
      have PA := Lib.hid (path_some wr tb b _ st p.1 p.2 l hT.tree hT.inv.l1 hu (by omega))
      have DE : Hid _ := fun w' h => depth w' tb b (· < w1.heap.size) st p.1 p.2 l h hT.inv.l1 hu (by omega)
      have hst := hT.inv.l1
      obtain ⟨px, py⟩ := p
      simp only at *
      go_wp2_with fail
      go_at_call 24; refine PA.out.mono ?_; rintro e w3 ⟨v2, rfl, ho, hg3⟩
      rw [pathOf_length] at ho
      obtain ⟨ao, c2, rfl⟩ : ∃ ao c2, v2 = .slice ao l.length c2 := by
        rcases ho.2 with ⟨e, e2⟩ | ⟨_, _, _, e, _⟩
        · exact ⟨none, 0, by rw [e, e2]⟩
        · exact ⟨_, _, e⟩
      replace hT := hT.fresh hg3
      replace t0 := cell_fresh t0 hg3; replace t1 := cell_fresh t1 hg3; replace hcur := heap_fresh hcur hg3
      clear PA
      go_wp2_with fail
      go_at_call 25; refine (DE.out _ hT.tree).mono ?_; rintro e w4 ⟨rfl, hg4⟩
      replace hT := hT.fresh hg4
      replace t0 := cell_fresh t0 hg4; replace t1 := cell_fresh t1 hg4; replace hcur := heap_fresh hcur hg4
      replace ho := owns_fresh ho hg4
      have q2 : ((l.length : Int) != l.length) = false := by simp
      have q3 : ¬ (8 : Int) < l.length := by omega
      have q4 : decide ((8 : Int) < l.length) = false := by simpa using q3
      clear DE hg3 hg4
      have lg := lt_of hcur
      have hge := hT.below.size
      have hB := heap_alloc_new w4 (.cells #[.int .i64 px, .int .i64 py] 34)
      have hT2 := hT.fresh (alloc1 w4 (.cells #[.int .i64 px, .int .i64 py] 34))
      have ho2 := owns_fresh ho (alloc1 w4 (.cells #[.int .i64 px, .int .i64 py] 34))
      clear hT ho
      go_wp2_with fail
      generalize wr.heap.size = base at ho2
      have hne : ∀ j, (Value.slice (some ⟨g, 0, none⟩) T.length cp).ownBlock = some j → j ≠ w4.heap.size := by
        intro j hj; simp [Value.ownBlock] at hj; omega
      replace hne := Lib.hid hne
      replace hu := Lib.hid hu
      generalize w4.alloc (.cells #[.int .i64 px, .int .i64 py] 34) = W4 at *
      generalize w4.heap.size = B at *
      clear t0 t1 hcur lg q2 q3 q4
      go_loopg [12] l.length (fun left t12 wr => WayI w1 tb b st T (.slice (some ⟨g, 0, none⟩) T.length cp) (.slice ao l.length c2) l.length (pathOf px l) B base left t12 wr)
      case atStart => exact ⟨px, py, l, [], rfl, rfl, hl, ⟨hu.out, by simp⟩, hT2, hB, ho2⟩
      case round =>
        clear hT2 hB ho2 hu
        obtain ⟨cx, cy, l', R, hleft, rfl, hl8, hUP, hT, hB, ho⟩ := hrel
        cases l' with
        | nil =>
          obtain ⟨rfl, rfl, _⟩ := hUP.out.1.nil
          obtain ⟨b0, b1, bz⟩ := box2 hB
          replace hT := Lib.hid hT
          clear hUP ho hB
          simp only [List.length_nil]
          go_wp2_with fail
          go_roundg (T.length - (k + 1))
          case measure => omega
          case rel => exact ⟨k + 1, by omega, by go_num, hT.out⟩
        | cons q m =>
          obtain ⟨hn, hr, e, hu'⟩ := hUP.out.1.cons
          have hP : pathOf px l = pathOf q.1 m ++ [cx] ++ R := by rw [← pathOf_cons]; exact hUP.out.2
          have hpl : (pathOf px l).length = l.length := pathOf_length _ _
          have hml : m.length < l.length := by
            rw [← hpl, hP]; simp [pathOf_length]
          obtain ⟨g2, c3, e3, -⟩ := ho.form (by omega)
          cases e3
          have hcell := ho.cellAt m.length (by omega)
          rw [ints_get (x := cx) (by rw [hP]; simp [pathOf_length, List.getElem?_append])] at hcell
          have PAR : Hid _ := fun w' h => parent_some w' tb b (· < w1.heap.size) st cx cy h hst hn hr
          subst e
          replace hu' := Lib.hid hu'
          replace hP := Lib.hid hP
          obtain ⟨b0, b1, bz⟩ := box2 hB
          have q1 : (m.length : Int) < l.length := by omega
          rw [show (((st.thing cx cy, st.tgen cx cy) :: m).length : Int) - 1 = (m.length : Int) by simp]
          have hm8 : (m.length : Int) ≤ 8 := by simp at hl8; omega
          have hleft' : Hid (gk = m.length + 1) := by show _ = _; simpa using hleft
          clear hleft hl8 hUP hn hr hpl
          generalize st.thing cx cy = tx at *
          generalize st.tgen cx cy = ty at *
          go_wp2_with fail
          go_quiet (fail)
          have hT3 := hT.fresh (drawn wr nq)
          have hB3 := heap_fresh hB (drawn wr nq)
          have ho3 := owns_fresh ho (drawn wr nq)
          clear hT hB ho hcell b0 b1 bz
          generalize wr.drewN nq = W at *
          obtain ⟨b0, b1, bz⟩ := box2 hB3
          have fin : Hid (∀ w5, Below W.heap.size W w5 → WayI w1 tb b st T (.slice (some ⟨g, 0, none⟩) T.length cp) (.slice (some ⟨g2, 0, none⟩) l.length c2) l.length (pathOf px l) B base m.length (.int .i64 ((m.length : Int) - 1)) (((w5.alloc (.cells #[.int .i64 tx, .int .i64 ty] 34)).setCell ⟨B, 0, none⟩ (.int .i64 tx)).setCell ⟨B, 1, none⟩ (.int .i64 ty))) := by
            intro w5 hg5
            have hg6 := fresh_trans hg5 (alloc1 w5 (.cells #[.int .i64 tx, .int .i64 ty] 34))
            have hB6 := heap_fresh hB3 hg6
            have hb := ((But.of (a := B) (Below.refl _ (w5.alloc (.cells #[.int .i64 tx, .int .i64 ty] 34)))).setCell (p := ⟨B, 0, none⟩) (.inl rfl) (.int .i64 tx)).setCell (p := ⟨B, 1, none⟩) (.inl rfl) (.int .i64 ty)
            have ho6 := owns_fresh ho3 hg6
            exact ⟨tx, ty, m, [cx] ++ R, rfl, rfl, by omega, ⟨hu'.out, by rw [hP.out]; simp⟩, (hT3.fresh hg6).setBox hB6 hne.out hge _ _, set_block (set_block hB6 0 _) 1 _, own_but ho6 hb (fun j hj => own_apart ho6 hB6 (by decide) j hj)⟩
          go_wp2_with (go_at_call 26; refine (PAR.out _ hT3.tree).mono ?_; rintro e w5 ⟨rfl, hg5⟩; obtain ⟨d0, d1, dz⟩ := box2a (heap_fresh hB3 hg5); have F := Lib.hid (fin.out _ hg5); clear hg5)
          go_roundg m.length
          case measure => have := hleft'.out; omega
          case rel => exact F.out
    · have hb := hT.below
      have q2 : ¬ (k : Int) < T.length := by omega
      clear hT
      go_wp2_with fail
      go_ret
      exact ⟨rfl, hg.trans (hb.mono hg.size)⟩
theorem waysLaw (v : Option Addr) (len cap : Nat) (zs : List Int) (w : World) (hlen : len ≤ 9223372036854775807) (hz : ∀ n ∈ zs, (Lit.int .u8 n).wf = true)
    (hc : ∀ j, j < len → ∃ k off, v = some ⟨k, off, none⟩ ∧ k < w.heap.size ∧ w.cell? ⟨k, off + j, none⟩ = some (.int .u8 (zs[j]?.getD 0))) :
    Calls Try.prog 4 #[.slice v len cap] w (Yes w) := by
  refine ways_as v len cap (fun j => zs[j]?.getD 0) w hlen (fun j => ?_) hc
  show 0 ≤ zs[j]?.getD 0 ∧ zs[j]?.getD 0 ≤ 255
  cases h : zs[j]? with
  | none => simp
  | some z => exact bounds_u8 (hz z (List.mem_of_getElem? h))
end Go.Proofs.Ytamjklapgnahkaa.Gt
