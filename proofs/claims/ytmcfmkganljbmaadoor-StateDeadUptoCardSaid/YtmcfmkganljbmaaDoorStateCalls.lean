/- What the calls of package state do. Conditions: as each fact states them. -/
import Derived.Test.YtmcfmkganljbmaaDoorStatePlain
import Derived.Test.YtmcfmkganljbmaaDoorStateLaid
import Derived.LoopTactic
import Derived.Deep.LoopGhost
import Derived.Deep.QuietTactic
import Derived.Lib.Hide
import Derived.Deep.MidRow
namespace Go.Proofs.YtmcfmkganljbmaaDoor.State
open Go.ChangeShapes Go.WideShapes Go.ChangeAt Go.RowKit
set_option linter.unusedVariables false
set_option linter.unusedSimpArgs false
set_option maxRecDepth 100000

theorem fresh_trans {a b c : World} (h : Below a.heap.size a b) (k : Below b.heap.size b c) : Below a.heap.size a c := h.trans (k.mono h.size)
def IsBool (b : Bool) (w : World) (e : Ending) (w' : World) : Prop := e = .returned (.bool b) ∧ w = w'
def Says (b : Bool) (w : World) (e : Ending) (w' : World) : Prop := e = .returned (.bool b) ∧ Below w.heap.size w w'
def IsNext (s n : Int) (w : World) (e : Ending) (w' : World) : Prop := e = .returned (.tuple #[.int .i64 (toS s n), .int .i64 (errS s n)]) ∧ Below w.heap.size w w'

theorem isState (s : Int) (w : World) : Calls Tryd.prog 9 #[.int .i64 s] w (IsBool (isSt s) w) := by
  by_cases h1 : s = 1
  · subst h1
    go_enter Tryd.func9, Tryd.ntmps9
    go_wp2
    go_ret
    exact ⟨rfl, rfl⟩
  by_cases h2 : s = 2
  · subst h2
    go_enter Tryd.func9, Tryd.ntmps9
    go_wp2
    go_ret
    exact ⟨rfl, rfl⟩
  by_cases h3 : s = 3
  · subst h3
    go_enter Tryd.func9, Tryd.ntmps9
    go_wp2
    go_ret
    exact ⟨rfl, rfl⟩
  by_cases h4 : s = 4
  · subst h4
    go_enter Tryd.func9, Tryd.ntmps9
    go_wp2
    go_ret
    exact ⟨rfl, rfl⟩
  have hs : isSt s = false := by unfold isSt; simp; omega
  rw [hs]
  have e1 : (s == 1) = false := by simpa using h1
  have e2 : (s == 2) = false := by simpa using h2
  have e3 : (s == 3) = false := by simpa using h3
  have e4 : (s == 4) = false := by simpa using h4
  clear h1 h2 h3 h4 hs
  go_enter Tryd.func9, Tryd.ntmps9
  go_wp2
  go_ret
  exact ⟨rfl, rfl⟩

def evZ : List Int := [7, 101, 8, 9, 10, 102]
def EvI (e : Int) (w : World) (t : Value) (wr : World) : Prop := ∃ k : Nat, k ≤ 6 ∧ t = .int .i64 k ∧ (∀ j, j < k → ¬ evZ.getD j 0 = e) ∧ Below w.heap.size w wr

theorem EvI.next {e : Int} {w wr : World} {k : Nat} (hk : k < 6) (h : ∀ j, j < k → ¬ evZ.getD j 0 = e) (hn : ¬ evZ.getD k 0 = e) (hb : Below w.heap.size w wr) {t : Value} (ht : t = .int .i64 ((k + 1 : Nat) : Int)) : EvI e w t wr :=
  ⟨k + 1, by omega, ht, fun j hj => by by_cases hjk : j = k; · subst hjk; exact hn
                                       · exact h j (by omega), hb⟩
theorem ev_no {e : Int} (h : ∀ j, j < 6 → ¬ evZ.getD j 0 = e) : isEv e = false := by
  have h0 := h 0 (by decide)
  have h1 := h 1 (by decide)
  have h2 := h 2 (by decide)
  have h3 := h 3 (by decide)
  have h4 := h 4 (by decide)
  have h5 := h 5 (by decide)
  simp [evZ] at h0 h1 h2 h3 h4 h5
  unfold isEv
  simp
  omega
theorem ev_yes {k : Nat} (hk : k < 6) : isEv (evZ.getD k 0) = true := by
  match k, hk with
  | 0, _ | 1, _ | 2, _ | 3, _ | 4, _ | 5, _ => decide
  | k + 6, hk => omega
def rowsC : List Value := cellZ.map (Value.int .i64)
theorem tabR {w : World} (h : Tab w) : w.rangeAt 0 0 rowsC := by
  intro j v hv
  have hj : j < 18 := by
    have := (List.getElem?_eq_some_iff.1 hv).1
    simpa [rowsC, cellZ] using this
  rw [Nat.zero_add, h j hj, ← hv]
  match j, hj with
  | 0, _ | 1, _ | 2, _ | 3, _ | 4, _ | 5, _ | 6, _ | 7, _ | 8, _ | 9, _ | 10, _ | 11, _ | 12, _ | 13, _ | 14, _ | 15, _ | 16, _ | 17, _ => rfl
  | j + 18, hj => omega
def frZ : List Int := [1, 2, 3, 3, 3, 3]
def dnZ : List Int := [2, 3, 1, 2, 4, 2]
theorem idx (k : Nat) (hk : k < 6) (w : World) : Sem.run Tryd.prog (Instr.index 34 (.agg rowsC.toArray) (.int .i64 k)) w = .ok (.agg #[.int .i64 (frZ.getD k 0), .int .i64 (evZ.getD k 0), .int .i64 (dnZ.getD k 0)]) w := by
  have h : k = 0 ∨ k = 1 ∨ k = 2 ∨ k = 3 ∨ k = 4 ∨ k = 5 := by omega
  rcases h with rfl | rfl | rfl | rfl | rfl | rfl <;> rfl
theorem isEvent (e : Int) (w : World) (hT : Tab w) : Calls Tryd.prog 10 #[.int .i64 e] w (Says (isEv e) w) := by
  have hg := Below.refl w.heap.size w
  have hR := tabR hT
  have IX := Lib.hid idx
  clear hT
  have hl : (Tryd.prog.info? 34).map (·.size) = some rowsC.length := by kernel_rfl
  generalize rowsC = R at hR IX hl
  go_enter Tryd.func10, Tryd.ntmps10
  go_wp2_with (refine wpList_load_mid rfl 34 _ rfl 0 0 rfl R _ hR Tryd.underlying34 rfl hl ?_)
  clear hR hl
  generalize R.toArray = C at *
  go_loopw [6] (fun t wr => EvI e w t wr) (fun t _ => 6 - (intOf t).toNat)
  case atStart => exact ⟨0, by omega, rfl, fun j hj => by omega, hg⟩
  case round =>
    clear hg
    obtain ⟨k, hk, rfl, hne, hg⟩ := hrel
    by_cases hlt : k < 6
    · have hix := IX.out k hlt
      have h1 : (k : Int) < 6 := by omega
      have NX := Lib.hid (fun hn w' hb => EvI.next (e := e) (w := w) (wr := w') hlt hne hn hb rfl)
      have HY := Lib.hid (ev_yes hlt)
      clear IX hne
      generalize frZ.getD k 0 = a at *
      generalize evZ.getD k 0 = b at *
      generalize dnZ.getD k 0 = c at *
      by_cases he : b = e
      · subst he
        clear NX
        go_wp2
        go_ret
        exact ⟨by rw [HY.out]; rfl, hg.alloc (hg.size) _⟩
      · have he' : (b == e) = false := by simpa using he
        go_wp2
        go_roundw
        case rel => exact NX.out he _ (hg.alloc hg.size _)
        case measure => simp [intOf]; omega
    · obtain rfl : k = 6 := by omega
      have hb := Lib.hid (ev_no hne)
      clear IX hne
      go_wp2
      go_ret
      exact ⟨by rw [hb.out]; rfl, hg⟩

/-- No step below k fits. -/
def NxI (s e : Int) (w : World) (t : Value) (wr : World) : Prop := ∃ k : Nat, k ≤ 6 ∧ t = .int .i64 k ∧ (∀ j, j < k → ¬ (frZ.getD j 0 = s ∧ evZ.getD j 0 = e)) ∧ Below w.heap.size w wr
theorem NxI.next {s e : Int} {w wr : World} {k : Nat} (hk : k < 6) (h : ∀ j, j < k → ¬ (frZ.getD j 0 = s ∧ evZ.getD j 0 = e)) (hn : ¬ (frZ.getD k 0 = s ∧ evZ.getD k 0 = e)) (hb : Below w.heap.size w wr) : NxI s e w (.int .i64 ((k : Int) + 1)) wr :=
  ⟨k + 1, by omega, by go_num, fun j hj => by by_cases hjk : j = k; · subst hjk; exact hn
                                              · exact h j (by omega), hb⟩
theorem nx_no {s e : Int} (h : ∀ j, j < 6 → ¬ (frZ.getD j 0 = s ∧ evZ.getD j 0 = e)) : toS s e = 0 := by
  have h0 := h 0 (by decide)
  have h1 := h 1 (by decide)
  have h2 := h 2 (by decide)
  have h3 := h 3 (by decide)
  have h4 := h 4 (by decide)
  have h5 := h 5 (by decide)
  simp [evZ, frZ] at h0 h1 h2 h3 h4 h5
  unfold toS
  rw [if_neg (by omega), if_neg (by omega), if_neg (by omega), if_neg (by omega), if_neg (by omega), if_neg (by omega)]
theorem nx_yes {k : Nat} (hk : k < 6) : toS (frZ.getD k 0) (evZ.getD k 0) = dnZ.getD k 0 ∧ errS (frZ.getD k 0) (evZ.getD k 0) = 0 := by
  have h : k = 0 ∨ k = 1 ∨ k = 2 ∨ k = 3 ∨ k = 4 ∨ k = 5 := by omega
  rcases h with rfl | rfl | rfl | rfl | rfl | rfl <;> decide

theorem next (s e : Int) (w : World) (hT : Tab w) : Calls Tryd.prog 8 #[.int .i64 s, .int .i64 e] w (IsNext s e w) := by
  have hg := Below.refl w.heap.size w
  have S := Lib.hid (isState s w)
  have E := Lib.hid (isEvent e w hT)
  have V : Hid (isSt s = false → errS s e = 1 ∧ toS s e = 0) := Lib.hid fun h => by
    refine ⟨by unfold errS; rw [if_pos (.inl h)], ?_⟩
    unfold isSt at h
    simp at h
    unfold toS
    rw [if_neg (by omega), if_neg (by omega), if_neg (by omega), if_neg (by omega), if_neg (by omega), if_neg (by omega)]
  have V2 : Hid (isEv e = false → errS s e = 1 ∧ toS s e = 0) := Lib.hid fun h => by
    refine ⟨by unfold errS; rw [if_pos (.inr h)], ?_⟩
    unfold isEv at h
    simp at h
    unfold toS
    rw [if_neg (by omega), if_neg (by omega), if_neg (by omega), if_neg (by omega), if_neg (by omega), if_neg (by omega)]
  have V3 : Hid (isSt s = true → isEv e = true → toS s e = 0 → errS s e = 7) := Lib.hid fun h1 h2 h3 => by
    unfold errS
    rw [if_neg (by simp [h1, h2]), if_pos h3]
  generalize hs : isSt s = bs at S V V3
  generalize he : isEv e = be at E V2 V3
  clear hs he
  cases bs
  · obtain ⟨v1, v2⟩ := V.out rfl
    replace v1 := Lib.hid v1
    replace v2 := Lib.hid v2
    clear V V2 V3 hT
    go_enter Tryd.func8, Tryd.ntmps8
    go_wp2_with (first
      | (go_at_call 9; refine S.out.mono ?_; rintro r w1 ⟨rfl, rfl⟩)
      | (go_at_call 10; refine E.out.mono ?_; rintro r w1 ⟨rfl, hg1⟩; replace hg := fresh_trans hg hg1; clear hg1))
    go_ret2
    exact ⟨by rw [v1.out, v2.out]; rfl, hg⟩
  cases be
  · obtain ⟨v1, v2⟩ := V2.out rfl
    replace v1 := Lib.hid v1
    replace v2 := Lib.hid v2
    clear V V2 V3 hT
    go_enter Tryd.func8, Tryd.ntmps8
    go_wp2_with (first
      | (go_at_call 9; refine S.out.mono ?_; rintro r w1 ⟨rfl, rfl⟩)
      | (go_at_call 10; refine E.out.mono ?_; rintro r w1 ⟨rfl, hg1⟩; replace hg := fresh_trans hg hg1; clear hg1))
    go_ret2
    exact ⟨by rw [v1.out, v2.out]; rfl, hg⟩
  have V4 := Lib.hid (V3.out rfl rfl)
  have hR := Lib.hid (fun w' (h : Below w.heap.size w w') => tabR (hT.fresh h))
  have IX := Lib.hid idx
  clear V V2 V3 hT
  have hl : (Tryd.prog.info? 34).map (·.size) = some rowsC.length := by kernel_rfl
  generalize rowsC = R at hR IX hl
  go_enter Tryd.func8, Tryd.ntmps8
  go_wp2_with (first
    | (go_at_call 9; refine S.out.mono ?_; rintro r w1 ⟨rfl, rfl⟩)
    | (go_at_call 10; refine E.out.mono ?_; rintro r w1 ⟨rfl, hg1⟩; replace hg := fresh_trans hg hg1; clear hg1)
    | (refine wpList_load_mid rfl 34 _ rfl 0 0 rfl R _ (hR.out _ hg) Tryd.underlying34 rfl hl ?_))
  clear hR hl S E
  generalize R.toArray = C at *
  go_loopw [17] (fun t wr => NxI s e w t wr) (fun t _ => 6 - (intOf t).toNat)
  case atStart => exact ⟨0, by omega, rfl, fun j hj => by omega, hg⟩
  case round =>
    clear hg
    obtain ⟨k, hk, rfl, hne, hg⟩ := hrel
    by_cases hlt : k < 6
    · have hix := IX.out k hlt
      have h1 : (k : Int) < 6 := by omega
      have NX := Lib.hid (fun hn w' hb => NxI.next (s := s) (e := e) (w := w) (wr := w') hlt hne hn hb)
      have HY := Lib.hid (nx_yes hlt)
      clear IX hne V4
      generalize frZ.getD k 0 = a at *
      generalize evZ.getD k 0 = b at *
      generalize dnZ.getD k 0 = c at *
      by_cases hs : a = s
      · subst hs
        by_cases he : b = e
        · subst he
          clear NX
          go_wp2
          go_ret2
          exact ⟨by rw [HY.out.1, HY.out.2]; rfl, hg.alloc hg.size _⟩
        · have he' : (b == e) = false := by simpa using he
          clear HY
          go_wp2
          go_roundw
          case rel => exact NX.out (fun h => he h.2) _ (hg.alloc hg.size _)
          case measure => simp [intOf]; omega
      · have hs' : (a == s) = false := by simpa using hs
        clear HY
        go_wp2
        go_roundw
        case rel => exact NX.out (fun h => hs h.1) _ (hg.alloc hg.size _)
        case measure => simp [intOf]; omega
    · obtain rfl : k = 6 := by omega
      have hb := Lib.hid (nx_no hne)
      clear IX hne
      go_wp2
      go_ret2
      exact ⟨by rw [hb.out, V4.out hb.out]; rfl, hg⟩
end Go.Proofs.YtmcfmkganljbmaaDoor.State
