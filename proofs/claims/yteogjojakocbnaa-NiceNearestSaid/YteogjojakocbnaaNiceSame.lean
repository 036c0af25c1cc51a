/- What the document's table tells: the 40 weights, in memory of its own; and that two such tables are the same. Conditions: none. -/
import Derived.Test.YteogjojakocbnaaNiceTable
namespace Go.Proofs.Yteogjojakocbnaa.Nice
open Go.RowKit Go.Shelf
set_option linter.unusedVariables false

def RowI (w : World) (t1 t2 : Value) (wr : World) : Prop := ∃ (k : Nat) (v : Value), k ≤ 40 ∧ t1 = v ∧ t2 = .int .i64 ((k : Int) - 20) ∧ wr.ownsRow w.heap.size 23 1 v k (words k) ∧ Below w.heap.size w wr
theorem own_from {w wr : World} {v : Value} {k : Nat} {xs : List Value} {n₀ : Nat} (h : wr.ownsRow n₀ 23 1 v k xs) (j : Nat) (e : v.ownBlock = some j) : n₀ ≤ j := by
  rcases h.2 with ⟨rfl, _⟩ | ⟨g, cap, cur, rfl, hb, _, _⟩
  · simp [Value.ownBlock] at e
  · obtain rfl : g = j := by simpa [Value.ownBlock] using e
    exact hb

set_option maxRecDepth 100000 in
theorem refTable (w : World) : Calls Try.prog 15 #[] w (Tab w) := by
  obtain ⟨i0, hi, hz0, hz1, hz2⟩ := info_parts info
  go_enter Try.func15, Try.ntmps15
  go_wp2
  go_loopw [1, 2] (fun t1 t2 wr => RowI w t1 t2 wr) (fun _ i _ => (20 - intOf i).toNat)
  case atStart => exact ⟨0, _, by omega, rfl, rfl, World.ownsRow_nil _ _ _ _, Below.refl _ _⟩
  case round =>
    obtain ⟨k, v, hk, rfl, rfl, hrow, hB⟩ := hrel
    by_cases hlt : k = 40
    · subst hlt
      go_wp2
      go_ret
      exact tab_of hrow hB
    · have hle : (k : Int) - 20 < 20 := by omega
      have hw := wt_in (may_in (show -20 ≤ (k : Int) - 20 by omega) (by omega))
      have C := Lib.hid (fun w => refWeight ((k : Int) - 20) w)
      rw [hw] at C
      clear hw
      have hs := Lib.hid (words_succ k)
      go_wp2_with (first
        | (go_at_call 12; refine (C.out _).mono ?_; rintro e w' ⟨rfl, rfl⟩)
        | (at_builtin; refine wpList_append_own _ rfl _ _ 28 rfl w.heap.size 23 i0 (.int .u64 0) 1 8 Try.underlying28 hi hz0 hz1 hz2 rfl (by decide) _ _ _ rfl (hrow.alloc _) ⟨wr.heap.size, 0, none⟩ 1 1 [.int .u64 (wgt ((k : Int) - 20))] rfl rfl (cell_one_new _ _ _) (by simp [Value.oneCell']) (by simp only [maxLen]; omega) (by omega) (by have := hB.size; simp; omega) ?_; intro v' w2 hown' hgrow _; obtain ⟨g', cap', rfl⟩ := ownsRow_succ hown'))
      have hB2 := (hB.alloc hB.size _).grown hgrow (by have := hB.size; simp; omega) (fun j e => own_from (w := w) hrow j e)
      go_roundw
      case rel => exact ⟨k + 1, _, by omega, rfl, by go_num, by rw [hs.out]; exact hown', hB2⟩
      case measure => simp [intOf]; omega

def BoolFresh (b : Bool) (w : World) (e : Ending) (w' : World) : Prop := e = .returned (.bool b) ∧ Below w.heap.size w w'
theorem boolfresh_of {a b : Bool} {w w' : World} (h : a = b) (g : Below w.heap.size w w') : BoolFresh b w (.returned (.bool a)) w' := by subst h; exact ⟨rfl, g⟩

set_option maxRecDepth 100000 in
theorem same (g h c d : Nat) (w : World) (hg : Cells g w) (hh : Cells h w) :
    Calls Try.prog 13 #[.slice (some ⟨g, 0, none⟩) 40 c, .slice (some ⟨h, 0, none⟩) 40 d] w (BoolFresh true w) := by
  have HG := Lib.hid hg
  have HH := Lib.hid hh
  clear hg hh
  go_enter Try.func13, Try.ntmps13
  go_wp2
  go_loopw [5] (fun t5 wr => ∃ k : Nat, k ≤ 40 ∧ t5 = .int .i64 k ∧ Below w.heap.size w wr) (fun i _ => 40 - (intOf i).toNat)
  case atStart => exact ⟨0, by omega, rfl, Below.refl _ _⟩
  case round =>
    obtain ⟨k, hk, rfl, hB⟩ := hrel
    by_cases hlt : k = 40
    · subst hlt
      go_wp2
      go_ret
      exact boolfresh_of rfl hB
    · have hle : k < 40 := by omega
      have hle' : (k : Int) < 40 := by omega
      have c1 := (HG.out.on hB).2 k hle
      have c2 := (HH.out.on hB).2 k hle
      have HB := Lib.hid hB
      clear hB
      generalize wgt ((k : Int) - 20) = v at c1 c2
      go_wp2
      go_quiet (fail)
      go_wp2
      go_roundw
      case rel => exact ⟨k + 1, by omega, by go_num, HB.out.trans ⟨rfl, rfl, rfl, Nat.le_refl _, fun _ _ => rfl⟩⟩
      case measure => simp [intOf]; omega
end Go.Proofs.Yteogjojakocbnaa.Nice
