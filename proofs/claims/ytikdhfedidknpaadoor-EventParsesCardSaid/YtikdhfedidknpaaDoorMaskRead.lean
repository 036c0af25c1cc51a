/- What each method of mask's reader does. Conditions: the reader lies in a block of its own, its numbers are of their sizes. -/
import Derived.Test.YtikdhfedidknpaaDoorMaskPlain
import Derived.WalkKit
import Derived.BigRegion
import Derived.Deep.Cut
import Derived.Deep.CutBlock
import Derived.Deep.QuietTactic
import Derived.BigQuiet
import Derived.Deep.RegionHeld3
import Derived.Deep.AppendLies
import Derived.Handy
namespace Go.Proofs.YtikdhfedidknpaaDoor.Mask
open Go.ChangeShapes Go.WideShapes Go.ChangeAt Go.RowKit
set_option linter.unusedVariables false
set_option linter.unusedSimpArgs false
set_option maxRecDepth 100000

/-- Nothing but block b has changed, of what was there, and no block came. -/
structure One (b : Nat) (w w' : World) : Prop where
  os : w'.os = w.os
  tape : w'.tape = w.tape
  output : w'.output = w.output
  size : w'.heap.size = w.heap.size
  block : ∀ k, k ≠ b → w'.heap[k]? = w.heap[k]?

theorem One.refl (b : Nat) (w : World) : One b w w := ⟨rfl, rfl, rfl, rfl, fun _ _ => rfl⟩
theorem One.trans {b : Nat} {a c d : World} (h : One b a c) (k : One b c d) : One b a d := ⟨k.os.trans h.os, k.tape.trans h.tape, k.output.trans h.output, k.size.trans h.size, fun i hi => (k.block i hi).trans (h.block i hi)⟩
theorem One.setCell {b : Nat} {a w : World} (h : One b a w) (j : Nat) (u : Value) : One b a (w.setCell ⟨b, j, none⟩ u) :=
  h.trans ⟨rfl, rfl, rfl, by simp [World.setCell], fun k hk => Below.heap_setCell _ _ _ _ hk⟩
theorem One.drew {b : Nat} {a w : World} (h : One b a w) : One b a w.drew := ⟨h.os, h.tape, h.output, h.size, h.block⟩
theorem One.drewN {b : Nat} {a w : World} (h : One b a w) (n : Nat) : One b a (w.drewN n) := ⟨h.os, h.tape, h.output, h.size, h.block⟩
theorem One.below {b n : Nat} {a w : World} (h : One b a w) (hb : n ≤ b) : Below n a w := ⟨h.os, h.tape, h.output, by rw [h.size]; exact Nat.le_refl _, fun k hk => h.block k (by omega)⟩

/-- A reader's block, cell by cell. -/
def Rc (w : World) (b : Nat) (s : Int) (wr hy : Bool) (f n g : Int) : Prop :=
  w.heap[b]? = some (.cells #[.int .u64 s, .bool wr, .bool hy, .int .i64 f, .int .i64 n, .int .i64 g] 102 (0, 0))
theorem Rc.cells {w : World} {b : Nat} {s : Int} {wr hy : Bool} {f n g : Int} (h : Rc w b s wr hy f n g) :
    w.cell? ⟨b, 0, none⟩ = some (.int .u64 s) ∧ w.cell? ⟨b, 1, none⟩ = some (.bool wr) ∧ w.cell? ⟨b, 2, none⟩ = some (.bool hy) ∧ w.cell? ⟨b, 3, none⟩ = some (.int .i64 f) ∧ w.cell? ⟨b, 4, none⟩ = some (.int .i64 n) ∧ w.cell? ⟨b, 5, none⟩ = some (.int .i64 g) ∧
    (∀ j, w.frozen? ⟨b, j, none⟩ = false) := by
  unfold Rc at h
  refine ⟨?_, ?_, ?_, ?_, ?_, ?_, fun j => frozen_of_row w b j _ _ h⟩
  all_goals rw [cell_of_row w b _ _ _ _ h]; rfl
theorem Rc.drew {w : World} {b : Nat} {s : Int} {wr hy : Bool} {f n g : Int} (h : Rc w b s wr hy f n g) : Rc w.drew b s wr hy f n g := h
theorem Rc.set0 {w : World} {b : Nat} {s : Int} {wr hy : Bool} {f n g : Int} (h : Rc w b s wr hy f n g) (u : Int) : Rc (w.setCell ⟨b, 0, none⟩ (.int .u64 u)) b u wr hy f n g := by unfold Rc at *; rw [heap_setCell_same w b 0 _ _ _ h]; rfl
theorem Rc.set1 {w : World} {b : Nat} {s : Int} {wr hy : Bool} {f n g : Int} (h : Rc w b s wr hy f n g) (u : Bool) : Rc (w.setCell ⟨b, 1, none⟩ (.bool u)) b s u hy f n g := by unfold Rc at *; rw [heap_setCell_same w b 1 _ _ _ h]; rfl
theorem Rc.set2 {w : World} {b : Nat} {s : Int} {wr hy : Bool} {f n g : Int} (h : Rc w b s wr hy f n g) (u : Bool) : Rc (w.setCell ⟨b, 2, none⟩ (.bool u)) b s wr u f n g := by unfold Rc at *; rw [heap_setCell_same w b 2 _ _ _ h]; rfl
theorem Rc.set3 {w : World} {b : Nat} {s : Int} {wr hy : Bool} {f n g : Int} (h : Rc w b s wr hy f n g) (u : Int) : Rc (w.setCell ⟨b, 3, none⟩ (.int .i64 u)) b s wr hy u n g := by unfold Rc at *; rw [heap_setCell_same w b 3 _ _ _ h]; rfl
theorem Rc.set4 {w : World} {b : Nat} {s : Int} {wr hy : Bool} {f n g : Int} (h : Rc w b s wr hy f n g) (u : Int) : Rc (w.setCell ⟨b, 4, none⟩ (.int .i64 u)) b s wr hy f u g := by unfold Rc at *; rw [heap_setCell_same w b 4 _ _ _ h]; rfl
theorem Rc.set5 {w : World} {b : Nat} {s : Int} {wr hy : Bool} {f n g : Int} (h : Rc w b s wr hy f n g) (u : Int) : Rc (w.setCell ⟨b, 5, none⟩ (.int .i64 u)) b s wr hy f n u := by unfold Rc at *; rw [heap_setCell_same w b 5 _ _ _ h]; rfl

/-- A reader in memory. What stands ahead of a hyphen counts only where there was one. -/
def Rd (w : World) (b : Nat) (t : R) : Prop := ∃ x : Int, Rc w b t.set t.wrong t.hyphen x t.number t.figures ∧ (t.hyphen = true → x = t.first)

/-- What a method did. -/
def Took (o : Option R) (b : Nat) (w : World) (e : Ending) (w' : World) : Prop := e = .returned (.bool o.isSome) ∧ One b w w' ∧ ∀ t', o = some t' → Rd w' b t'

theorem figure (t : R) (f b : Nat) (w : World) (h : Rd w b t) (ok : t.Ok) (hf : f ≤ 9) : Calls Tryd.prog 92 #[.pointer (some ⟨b, 0, none⟩), .int .i64 f] w (Took (t.figure f) b w) := by
  obtain ⟨x, hc, hx⟩ := h
  obtain ⟨c0, c1, c2, c3, c4, c5, cf⟩ := hc.cells
  have o1 := ok.number
  have o2 := ok.figures
  have o3 := ok.none
  have o4 := ok.one
  obtain ⟨s, wr, hy, fi, n, g⟩ := t
  simp only at *
  have K := Lib.hid hc
  clear hc c0 c1 c2 c3
  by_cases h1 : (g = 1 ∧ n = 0) ∨ g = 2
  · rw [show R.figure ⟨s, wr, hy, fi, n, g⟩ f = none by simp [R.figure, h1]]
    rcases h1 with ⟨rfl, rfl⟩ | rfl
    all_goals
      go_enter Tryd.func92, Tryd.ntmps92
      go_wp2
      go_ret
      exact ⟨rfl, One.refl _ _, fun t' e => by cases e⟩
  · rw [show R.figure ⟨s, wr, hy, fi, n, g⟩ f = some ⟨s, wr, hy, fi, 10 * n + f, g + 1⟩ by simp [R.figure, h1]]
    have h2 : ((g : Int) == 2) = false := by simp; omega
    have fin : ∀ W : World, W = (w.setCell ⟨b, 4, none⟩ (.int .i64 (10 * (n : Int) + (f : Int)))).setCell ⟨b, 5, none⟩ (.int .i64 ((g : Int) + 1)) → One b w W ∧ ∀ t', some (⟨s, wr, hy, fi, 10 * n + f, g + 1⟩ : R) = some t' → Rd W b t' := by
      rintro W rfl
      refine ⟨((One.refl _ _).setCell _ _).setCell _ _, fun t' e => ?_⟩
      cases e
      exact ⟨x, by simpa using ((K.out.set4 (10 * (n : Int) + (f : Int))).set5 ((g : Int) + 1)), hx⟩
    by_cases hg : g = 1
    · subst hg
      have hn : ((n : Int) == 0) = false := by simp; omega
      have hn9 : n ≤ 9 := o4 (by omega)
      go_enter Tryd.func92, Tryd.ntmps92
      go_wp2
      go_ret
      exact ⟨rfl, fin _ rfl⟩
    · have hg1 : ((g : Int) == 1) = false := by simp; omega
      have hn9 : n ≤ 9 := o4 (by omega)
      go_enter Tryd.func92, Tryd.ntmps92
      go_wp2
      go_ret
      exact ⟨rfl, fin _ rfl⟩

theorem between (t : R) (b : Nat) (w : World) (h : Rd w b t) (ok : t.Ok) : Calls Tryd.prog 93 #[.pointer (some ⟨b, 0, none⟩)] w (Took t.between b w) := by
  obtain ⟨x, hc, hx⟩ := h
  obtain ⟨c0, c1, c2, c3, c4, c5, cf⟩ := hc.cells
  obtain ⟨s, wr, hy, fi, n, g⟩ := t
  simp only at *
  have K := Lib.hid hc
  have hx' := Lib.hid hx
  clear hc c0 c1 hx ok
  by_cases h1 : hy = true ∨ g = 0
  · rw [show R.between ⟨s, wr, hy, fi, n, g⟩ = none by simp [R.between, h1]]
    by_cases h2 : hy = true
    · subst h2
      go_enter Tryd.func93, Tryd.ntmps93
      go_wp2
      go_ret
      exact ⟨rfl, One.refl _ _, fun t' e => by cases e⟩
    · simp only [Bool.not_eq_true] at h2
      subst h2
      obtain rfl : g = 0 := by simpa using h1
      go_enter Tryd.func93, Tryd.ntmps93
      go_wp2
      go_ret
      exact ⟨rfl, One.refl _ _, fun t' e => by cases e⟩
  · rw [show R.between ⟨s, wr, hy, fi, n, g⟩ = some ⟨s, wr, true, n, 0, 0⟩ by simp [R.between, h1]]
    obtain ⟨h2, h3⟩ : hy = false ∧ ¬ g = 0 := by simpa using h1
    subst h2
    have h3' : ((g : Int) == 0) = false := by simpa using h3
    clear h1 h3
    go_enter Tryd.func93, Tryd.ntmps93
    go_wp2_with fail
    go_ret
    refine ⟨rfl, ((((One.refl _ _).setCell _ _).setCell _ _).setCell _ _).setCell _ _, fun t' e => ?_⟩
    cases e
    exact ⟨n, (((K.out.set3 n).set2 true).set4 0).set5 0, fun _ => rfl⟩

set_option maxHeartbeats 8000000 in
theorem end_ (t : R) (b : Nat) (w : World) (h : Rd w b t) (ok : t.Ok) : Calls Tryd.prog 78 #[.pointer (some ⟨b, 0, none⟩)] w (Took t.end b w) := by
  obtain ⟨x, hc, hx⟩ := h
  obtain ⟨c0, c1, c2, c3, c4, c5, cf⟩ := hc.cells
  have o1 := ok.number
  have o2 := ok.first
  have os := ok.set
  obtain ⟨s, wr, hy, fi, n, g⟩ := t
  simp only at *
  have K := Lib.hid hc
  have hx' := Lib.hid hx
  clear hc hx ok
  by_cases h1 : g = 0
  · subst h1
    go_enter Tryd.func78, Tryd.ntmps78
    go_wp2
    go_ret
    exact ⟨rfl, One.refl _ _, fun t' e => by cases e⟩
  · have h1' : ((g : Int) == 0) = false := by simpa using h1
    obtain ⟨F, hF, hF2⟩ : ∃ F : Nat, F = R.from ⟨s, wr, hy, fi, n, g⟩ ∧ F ≤ 99 := ⟨_, rfl, by unfold R.from; split <;> assumption⟩
    have fin : ∀ W : World, One b w W → ∀ wr' : Bool, (∃ x' : Int, Rc W b (if R.bad ⟨s, wr, hy, fi, n, g⟩ then s else s ||| rw' F n : Nat) (wr || R.bad ⟨s, wr, hy, fi, n, g⟩) false x' 0 0) → Took (R.end ⟨s, wr, hy, fi, n, g⟩) b w (.returned (.bool true)) W := by
      rintro W hO wr' ⟨x', hR⟩
      unfold R.end
      rw [if_neg (show ¬ g = 0 from h1)]
      refine ⟨rfl, hO, fun t' e => ?_⟩
      cases e
      rw [← hF]
      exact ⟨x', hR, fun h => by cases h⟩
    have hbad : R.bad ⟨s, wr, hy, fi, n, g⟩ = (decide (64 ≤ n) || decide (n < F)) := by rw [hF]; rfl
    rw [hbad] at fin
    have hxF : hy = true → x = (F : Int) := by intro h; rw [hF, hx'.out h]; unfold R.from; rw [if_pos h]
    have hnF : hy = false → (n : Int) = (F : Int) := by intro h; rw [hF]; unfold R.from; rw [if_neg (by simp [h])]
    have fin' := Lib.hid fin
    clear fin hbad hF h1
    have KN : ∀ k, Rc (w.drewN k) b s wr hy x n g := fun k => K.out
    have bad' : 64 ≤ n ∨ n < F → ∀ k, Took (R.end ⟨s, wr, hy, fi, n, g⟩) b w (.returned (.bool true)) (((((w.drewN k).setCell ⟨b, 1, none⟩ (.bool true)).setCell ⟨b, 2, none⟩ (.bool false)).setCell ⟨b, 4, none⟩ (.int .i64 0)).setCell ⟨b, 5, none⟩ (.int .i64 0)) := by
      intro hb k
      have e : (decide (64 ≤ n) || decide (n < F)) = true := by rcases hb with h | h <;> simp [h]
      refine fin'.out _ ((((((One.refl _ _).drewN k).setCell _ _).setCell _ _).setCell _ _).setCell _ _) true ⟨x, ?_⟩
      rw [e, if_pos rfl, Bool.or_true]
      exact ((((KN k).set1 true).set2 false).set4 0).set5 0
    have good' : ¬ 64 ≤ n → ¬ n < F → ∀ k, Took (R.end ⟨s, wr, hy, fi, n, g⟩) b w (.returned (.bool true)) (((((w.drewN k).setCell ⟨b, 0, none⟩ (.int .u64 (bits .or .u64 (s : Int) (rw' F n : Int)))).setCell ⟨b, 2, none⟩ (.bool false)).setCell ⟨b, 4, none⟩ (.int .i64 0)).setCell ⟨b, 5, none⟩ (.int .i64 0)) := by
      intro hb hb2 k
      have e : (decide (64 ≤ n) || decide (n < F)) = false := by simp [hb, hb2]
      refine fin'.out _ ((((((One.refl _ _).drewN k).setCell _ _).setCell _ _).setCell _ _).setCell _ _) true ⟨x, ?_⟩
      rw [e, if_neg (by decide), Bool.or_false, ← bits_or_u64_nat _ _ os (rw_lt _ _ (by omega))]
      exact ((((KN k).set0 _).set2 false).set4 0).set5 0
    have bad := Lib.hid bad'
    have good := Lib.hid good'
    have hr : n < 64 → F ≤ n → ∀ w, Calls Tryd.prog 71 #[.int .i64 F, .int .i64 n] w (IsU (rw' F n) w) := fun h1 h2 w => row F n w h2 h1
    clear bad' good' fin' KN K hx' os
    cases hy
    · have hnF' : n = F := by have := hnF rfl; omega
      subst hnF'
      clear hxF hnF
      by_cases hb : 64 ≤ n
      · clear hr
        go_enter Tryd.func78, Tryd.ntmps78
        go_wp2_with fail
        go_quiet (fail)
        go_wp2_with fail
        go_ret
        exact bad.out (.inl hb) _
      · have hr' := hr (by omega) (Nat.le_refl _)
        have hb' : ¬ 64 ≤ (n : Int) := by omega
        clear hr
        go_enter Tryd.func78, Tryd.ntmps78
        go_wp2_with fail
        go_quiet (fail)
        go_wp2_with fail
        go_region_with (go_at_call 71; refine (hr' _).mono ?_; rintro e w1 ⟨rfl, rfl⟩)
        all_goals
          go_wp2_with fail
          go_ret
          exact good.out hb (by omega) _
    · have hxF' := hxF rfl
      subst hxF'
      clear hxF hnF
      by_cases hb : 64 ≤ n
      · clear hr
        go_enter Tryd.func78, Tryd.ntmps78
        go_wp2_with fail
        go_quiet (fail)
        go_wp2_with fail
        go_ret
        exact bad.out (.inl hb) _
      · have hb' : ¬ 64 ≤ (n : Int) := by omega
        by_cases hb2 : n < F
        · clear hr
          have hb2' : (n : Int) < (F : Int) := by omega
          go_enter Tryd.func78, Tryd.ntmps78
          go_wp2_with fail
          go_quiet (fail)
          go_wp2_with fail
          go_ret
          exact bad.out (.inr hb2) _
        · have hr' := hr (by omega) (by omega)
          have hb2' : ¬ (n : Int) < (F : Int) := by omega
          clear hr
          go_enter Tryd.func78, Tryd.ntmps78
          go_wp2_with fail
          go_quiet (fail)
          go_wp2_with fail
          go_region_with (go_at_call 71; refine (hr' _).mono ?_; rintro e w1 ⟨rfl, rfl⟩)
          all_goals
            go_wp2_with fail
            go_ret
            exact good.out hb hb2 _

theorem take_none {t : R} {r : Nat} (h1 : ¬ (48 ≤ r ∧ r ≤ 57)) (h2 : ¬ r = 45) (h3 : ¬ r = 44) : t.take r = none := by simp [R.take, h1, h2, h3]

theorem take (t : R) (r b : Nat) (w : World) (h : Rd w b t) (ok : t.Ok) (hr : r < 2147483648) : Calls Tryd.prog 77 #[.pointer (some ⟨b, 0, none⟩), .int .i32 r] w (Took (t.take r) b w) := by
  by_cases h1 : 48 ≤ r ∧ r ≤ 57
  · have C : ∀ f : Int, f = ((r - 48 : Nat) : Int) → Calls Tryd.prog 92 #[.pointer (some ⟨b, 0, none⟩), .int .i64 f] w (Took (t.take r) b w) := by
      rintro f rfl
      rw [show t.take r = t.figure (r - 48) by simp [R.take, h1]]
      exact figure t (r - 48) b w h ok (by omega)
    have C' := Lib.hid C
    obtain ⟨h2, h3⟩ := h1
    clear C h ok
    go_enter Tryd.func77, Tryd.ntmps77
    go_wp2_with (go_at_call 92; refine (C'.out _ (by omega)).mono ?_; rintro e w1 ⟨rfl, hO, hR⟩)
    go_ret
    exact ⟨rfl, hO, hR⟩
  by_cases h2 : r = 45
  · subst h2
    have C := Lib.hid (between t b w h ok)
    rw [show t.take 45 = t.between by simp [R.take]]
    clear h ok h1
    go_enter Tryd.func77, Tryd.ntmps77
    go_wp2_with (go_at_call 93; refine C.out.mono ?_; rintro e w1 ⟨rfl, hO, hR⟩)
    go_ret
    exact ⟨rfl, hO, hR⟩
  by_cases h3 : r = 44
  · subst h3
    have C := Lib.hid (end_ t b w h ok)
    rw [show t.take 44 = t.end by simp [R.take]]
    clear h ok h1
    go_enter Tryd.func77, Tryd.ntmps77
    go_wp2_with (go_at_call 78; refine C.out.mono ?_; rintro e w1 ⟨rfl, hO, hR⟩)
    go_ret
    exact ⟨rfl, hO, hR⟩
  · rw [take_none h1 h2 h3]
    have e2 : ((r : Int) == 45) = false := by simp; omega
    have e3 : ((r : Int) == 44) = false := by simp; omega
    clear h ok h2 h3
    by_cases h4 : 48 ≤ r
    · have h5 : ¬ (r : Int) ≤ 57 := by omega
      clear h1
      go_enter Tryd.func77, Tryd.ntmps77
      go_wp2
      go_ret
      exact ⟨rfl, One.refl _ _, fun t' e => by cases e⟩
    · have h5 : ¬ 48 ≤ (r : Int) := by omega
      clear h1
      go_enter Tryd.func77, Tryd.ntmps77
      go_wp2
      go_ret
      exact ⟨rfl, One.refl _ _, fun t' e => by cases e⟩
end Go.Proofs.YtikdhfedidknpaaDoor.Mask
