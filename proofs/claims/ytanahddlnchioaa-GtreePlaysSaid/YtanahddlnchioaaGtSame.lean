/- Two lists that are the same: what ints of the law's package and Same of the document's answer tell of such ones; Parent and Move of package gtree in whatever case. Conditions: none. -/
import Derived.Test.YtanahddlnchioaaGtMoveC
import Derived.Test.YtanahddlnchioaaGtMoved
import Derived.Test.YtanahddlnchioaaGtGrown
namespace Go.Proofs.Ytanahddlnchioaa.Gt
open Go.ChangeShapes Go.WideShapes Go.ChangeAt Go.RowKit Hp
set_option linter.unusedVariables false
set_option linter.unusedSimpArgs false

theorem drawn' {w w' : World} {n : Nat} (h : Below n w w') (k : Nat) : Below n w (w'.drewN k) := h.trans ⟨rfl, rfl, rfl, Nat.le_refl _, fun _ _ => rfl⟩
theorem own_slice {w : World} {B : Nat} {e : TypeId} {s : Nat} {v : Value} {n : Nat} {xs : List Value} (h : w.ownsRow B e s v n xs) : ∃ ao cp, v = .slice ao n cp := by
  rcases h.2 with ⟨e1, e2⟩ | ⟨_, _, _, e, _⟩
  · exact ⟨none, 0, by rw [e1, e2]⟩
  · exact ⟨_, _, e⟩
def SameI (n : Nat) (w : World) (t : Value) (wr : World) : Prop := ∃ k : Nat, k ≤ n ∧ t = .int .i64 k ∧ Below w.heap.size w wr
theorem ints_same (w : World) (B B' : Nat) (v v' : Value) (P : List Int) (h : w.ownsRow B 3 1 v P.length (ints P)) (h' : w.ownsRow B' 3 1 v' P.length (ints P)) (hP : P.length ≤ 1000) :
    Calls Try.prog 42 #[v, v'] w (Yes w) := by
  obtain ⟨ao, cp, rfl⟩ := own_slice h
  obtain ⟨ao', cp', rfl⟩ := own_slice h'
  have HA := Lib.hid h
  have HB := Lib.hid h'
  clear h h'
  go_enter Try.func42, Try.ntmps42
  go_wp2
  go_loopw [5] (fun t5 wr => SameI P.length w t5 wr) (fun i _ => P.length - (intOf i).toNat)
  case atStart => exact ⟨0, by omega, rfl, Below.refl _ _⟩
  case round =>
    obtain ⟨k, hk, rfl, hB⟩ := hrel
    by_cases hlt : k < P.length
    · have h3 : (k : Int) < P.length := by omega
      obtain ⟨g1, c1, e1, -⟩ := HA.out.form (by omega)
      obtain ⟨g2, c2, e2, -⟩ := HB.out.form (by omega)
      cases e1; cases e2
      have a1 := HA.out.cellAt k (by omega)
      have a2 := HB.out.cellAt k (by omega)
      rw [show (ints P)[k]? = some (.int .i64 P[k]) by simp [ints, hlt]] at a1 a2
      have e1 := (hB.cell (World.block_lt_of_cell? w _ a1)).trans a1
      have e2 := (hB.cell (World.block_lt_of_cell? w _ a2)).trans a2
      generalize P[k] = x at *
      clear a1 a2
      go_wp2
      go_quiet (fail)
      go_wp2
      go_roundw
      case rel => exact ⟨k + 1, hlt, by go_num, drawn' hB _⟩
      case measure => simp [intOf]; omega
    · have h3 : ¬ (k : Int) < P.length := by omega
      go_wp2
      go_ret
      exact ⟨rfl, hB⟩
theorem hands_same (w : World) (B B' : Nat) (v v' : Value) (L : List (Int × Int)) (h : w.ownsRow B 34 2 v L.length (cellsH L)) (h' : w.ownsRow B' 34 2 v' L.length (cellsH L)) (hL : L.length ≤ 4096) :
    Calls Try.prog 15 #[v, v'] w (Yes w) := by
  obtain ⟨ao, cp, rfl⟩ := own_slice h
  obtain ⟨ao', cp', rfl⟩ := own_slice h'
  have HA := Lib.hid h
  have HB := Lib.hid h'
  clear h h'
  go_enter Try.func15, Try.ntmps15
  go_wp2
  go_loopw [5] (fun t5 wr => SameI L.length w t5 wr) (fun i _ => L.length - (intOf i).toNat)
  case atStart => exact ⟨0, by omega, rfl, Below.refl _ _⟩
  case round =>
    obtain ⟨k, hk, rfl, hB⟩ := hrel
    by_cases hlt : k < L.length
    · have h3 : (k : Int) < L.length := by omega
      obtain ⟨g1, c1, e1, -⟩ := HA.out.form (by omega)
      obtain ⟨g2, c2, e2, -⟩ := HB.out.form (by omega)
      cases e1; cases e2
      obtain ⟨q, hq⟩ : ∃ q, L[k]? = some q := ⟨_, List.getElem?_eq_getElem hlt⟩
      obtain ⟨x0, x1⟩ := cellsH_at' hq
      have a1 := HA.out.cellAt (k * 2) (by omega)
      have b1 := HA.out.cellAt (k * 2 + 1) (by omega)
      have a2 := HB.out.cellAt (k * 2) (by omega)
      have b2 := HB.out.cellAt (k * 2 + 1) (by omega)
      rw [x0] at a1 a2
      rw [x1] at b1 b2
      replace a1 := (hB.cell (World.block_lt_of_cell? w _ a1)).trans a1
      replace a2 := (hB.cell (World.block_lt_of_cell? w _ a2)).trans a2
      replace b1 := (hB.cell (World.block_lt_of_cell? w _ b1)).trans b1
      replace b2 := (hB.cell (World.block_lt_of_cell? w _ b2)).trans b2
      obtain ⟨qx, qy⟩ := q
      simp only at *
      clear x0 x1 hq
      go_wp2
      go_quiet (fail)
      go_wp2
      go_roundw
      case rel => exact ⟨k + 1, hlt, by go_num, drawn' hB _⟩
      case measure => simp [intOf]; omega
    · have h3 : ¬ (k : Int) < L.length := by omega
      go_wp2
      go_ret
      exact ⟨rfl, hB⟩

/-- What Parent tells, in whatever case. -/
def parN (i g : Int) : Int := if isRoot i g then 12 else 0
def parI (st : St) (i g : Int) : Int := if isRoot i g then 0 else st.thing i g
def parG (st : St) (i g : Int) : Int := if isRoot i g then 0 else st.tgen i g
theorem parent_any (w : World) (tb b : Nat) (O : Nat → Prop) (st : St) (i g : Int) (h : Tre w tb b O st) (h1 : st.pl.length ≤ 4096) (hn : st.names i g = true) :
    Calls Try.prog 40 #[.pointer (some ⟨tb, 0, none⟩), .agg #[.int .i64 i, .int .i64 g]] w (IsTwo (parI st i g) (parG st i g) (parN i g) w) := by
  unfold parI parG parN
  cases hr : isRoot i g
  · exact parent_some w tb b O st i g h h1 hn hr
  · obtain ⟨rfl, rfl⟩ := isRoot_eq hr
    exact parent_root w tb b O st h h1 hn
/-- What Move does, in whatever case. -/
def IsMoved (st : St) (i g j k : Int) (tb b : Nat) (O : Nat → Prop) (w : World) (e : Ending) (w' : World) : Prop :=
  ∃ n st', e = .returned (.int .i64 n) ∧ Tre w' tb b O st' ∧ Same O w w' ∧
    ((n = 1 ∧ isRoot i g = true) ∨ (n = 10 ∧ isRoot i g = false) ∨ (n = 5 ∧ isRoot i g = false) ∨ (n = 0 ∧ isRoot i g = false ∧ st' = st.set i g j k ∧ isIn j k i g (upsOf st j k) = false ∧ ((upsOf st j k).length : Int) + 1 + reachOf st i g ≤ 8))
theorem move_any (w : World) (tb b : Nat) (O : Nat → Prop) (st : St) (i g j k : Int) (h : Tre w tb b O st) (h1 : st.pl.length ≤ 4096) (ho : Ok st) (hn : st.names i g = true) (hm : st.names j k = true) (hO : ∀ k, O k → k < w.heap.size) :
    Calls Try.prog 12 #[.pointer (some ⟨tb, 0, none⟩), .agg #[.int .i64 i, .int .i64 g], .agg #[.int .i64 j, .int .i64 k]] w (IsMoved st i g j k tb b O w) := by
  cases hr : isRoot i g
  · cases hin : isIn j k i g (upsOf st j k)
    · obtain ⟨r0, r1⟩ := reach_bd (st := st) (i := i) (g := g) ho
      by_cases hd : ((upsOf st j k).length : Int) + 1 + reachOf st i g ≤ 8
      · exact (move_some w tb b O st i g j k h h1 ho hn hr hm hin r0 (by omega) hd hO).mono fun e w' d => ⟨0, _, d.1, d.2.1, d.2.2, .inr (.inr (.inr ⟨rfl, hr, rfl, hin, hd⟩))⟩
      · exact (move_deep w tb b O st i g j k h h1 ho hn hr hm hin r0 (by omega) (by omega)).mono fun e w' d => ⟨5, st, d.1, h.fresh d.2, Same.of d.2 hO, .inr (.inr (.inl ⟨rfl, hr⟩))⟩
    · exact (move_loop w tb b O st i g j k _ h h1 hn hr (ho.ups hm).1 hin).mono fun e w' d => ⟨10, st, d.1, h.fresh d.2, Same.of d.2 hO, .inr (.inl ⟨rfl, hr⟩)⟩
  · obtain ⟨rfl, rfl⟩ := isRoot_eq hr
    exact (move_root w tb b O st j k h h1 hn hm).mono fun e w' d => ⟨1, st, d.1, h.fresh d.2, Same.of d.2 hO, .inl ⟨rfl, hr⟩⟩
end Go.Proofs.Ytanahddlnchioaa.Gt
