/- What state.Script does, and the law's own example. Conditions: as each fact states them. -/
import Derived.Test.YtmcfmkganljbmaaDoorStateCalls
import Derived.Laws.NewBlocks
namespace Go.Proofs.YtmcfmkganljbmaaDoor.State
open Go.ChangeShapes Go.WideShapes Go.ChangeAt Go.RowKit
set_option linter.unusedVariables false
set_option linter.unusedSimpArgs false
set_option maxRecDepth 100000

theorem alloc1 (w : World) (o : Obj) : Below w.heap.size w (w.alloc o) := (Below.refl _ w).alloc (Nat.le_refl _) o
/-- A slice of numbers, z 0 to z (len - 1). -/
def Lies (v : Option Addr) (len : Nat) (z : Nat → Int) (w : World) : Prop := ∀ j, j < len → ∃ b off, v = some ⟨b, off, none⟩ ∧ b < w.heap.size ∧ w.cell? ⟨b, off + j, none⟩ = some (.int .i64 (z j))
theorem Lies.fresh {v : Option Addr} {len : Nat} {z : Nat → Int} {w w' : World} (h : Lies v len z w) (hg : Below w.heap.size w w') : Lies v len z w' := by
  intro j hj
  obtain ⟨b, o, e, hb, hc⟩ := h j hj
  exact ⟨b, o, e, by have := hg.size; omega, (hg.cell hb).trans hc⟩

def IsRun (z : Nat → Int) (n : Nat) (w : World) (e : Ending) (w' : World) : Prop :=
  e = .returned (.tuple #[.int .i64 (script z n).1, .int .i64 (script z n).2.1, .int .i64 (script z n).2.2]) ∧ Below w.heap.size w w'
def RunI (z : Nat → Int) (n : Nat) (w : World) (lf : Nat) (t u : Value) (wr : World) : Prop :=
  ∃ k : Nat, k ≤ n ∧ lf = n - k ∧ t = .int .i64 (script z k).1 ∧ u = .int .i64 k ∧ (script z k).2.2 = 0 ∧ Below w.heap.size w wr

theorem script_end {z : Nat → Int} {k n : Nat} (hk : k < n) (h : (script z k).2.2 = 0) (e : ¬ errS (script z k).1 (z k) = 0) : script z n = (0, (k : Int), errS (script z k).1 (z k)) := by
  have h1 := script_no h e
  have h2 := script_bad (z := z) (n := k + 1) (by rw [h1]; exact e) (n - (k + 1))
  rw [show k + 1 + (n - (k + 1)) = n by omega] at h2
  rw [h2, h1]
theorem runs_to (v : Option Addr) (n cap : Nat) (z : Nat → Int) (w : World) (hn : n ≤ 9223372036854775807) (hT : Tab w) (hc : Lies v n z w) :
    Calls Tryd.prog 7 #[.slice v n cap] w (IsRun z n w) := by
  have hg := Below.refl w.heap.size w
  have NX := Lib.hid (fun s e w' (h : Below w.heap.size w w') => next s e w' (hT.fresh h))
  have HC := Lib.hid hc
  clear hT hc
  go_enter Tryd.func7, Tryd.ntmps7
  go_wp2
  go_loopg [5, 12] n (fun lf t u wr => RunI z n w lf t u wr)
  case atStart => exact ⟨0, by omega, rfl, rfl, rfl, rfl, hg⟩
  case round =>
    clear hg
    obtain ⟨k, hk, rfl, rfl, rfl, h0, hg⟩ := hrel
    replace h0 := Lib.hid h0
    by_cases hlt : k < n
    · have h1 : (k : Int) < n := by omega
      obtain ⟨b, o, rfl, hb, hcell⟩ := HC.out k hlt
      replace hcell := (hg.cell hb).trans hcell
      have N1 := Lib.hid (NX.out (script z k).1 (z k) wr hg)
      clear NX HC hb
      by_cases he : errS (script z k).1 (z k) = 0
      · have NT := Lib.hid (fun w' (h : Below w.heap.size w w') => (⟨k + 1, by omega, rfl, by rw [script_yes h0.out he], by go_num, by rw [script_yes h0.out he], h⟩ : RunI z n w (n - (k + 1)) (.int .i64 (toS (script z k).1 (z k))) (.int .i64 ((k : Int) + 1)) w'))
        unfold IsNext at N1
        rw [he] at N1
        clear h0 he
        generalize toS (script z k).1 (z k) = t at *
        generalize (script z k).1 = s at *
        generalize z k = x at *
        go_wp2_with (go_at_call 8; refine N1.out.mono ?_; rintro e w1 ⟨rfl, hg1⟩; replace hg := fresh_trans hg hg1; clear hg1)
        go_roundg (n - (k + 1))
        case measure => omega
        case rel => exact NT.out _ hg
      · have SE := Lib.hid (script_end hlt h0.out he)
        have he' : (errS (script z k).1 (z k) == 0) = false := by simpa using he
        have he2 : (errS (script z k).1 (z k) != 0) = true := by simpa using he
        unfold IsNext at N1
        clear h0 he
        generalize errS (script z k).1 (z k) = r at *
        generalize toS (script z k).1 (z k) = t at *
        generalize (script z k).1 = s at *
        generalize z k = x at *
        go_wp2_with (go_at_call 8; refine N1.out.mono ?_; rintro e w1 ⟨rfl, hg1⟩; replace hg := fresh_trans hg hg1; clear hg1)
        refine bodyPost_ret (v := .tuple #[.int .i64 0, .int .i64 k, .int .i64 r]) (by simp [results, Tryd.results7, go_sem]) rfl ⟨by rw [SE.out], hg⟩
    · obtain rfl : k = n := by omega
      have h1 := Lib.hid (script_ok z k |>.1 h0.out)
      clear NX HC
      generalize hS : (script z k).1 = s at *
      replace hS := Lib.hid hS
      go_wp2
      refine bodyPost_ret (v := .tuple #[.int .i64 s, .int .i64 k, .int .i64 0]) (by simp [results, Tryd.results7, go_sem]) rfl ⟨by rw [hS.out, h1.out, h0.out], hg⟩
def Yes (w : World) (e : Ending) (w' : World) : Prop := e = .returned (.bool true) ∧ Below w.heap.size w w'
theorem yes_of {w w' : World} {b : Bool} (h : b = true) (hg : Below w.heap.size w w') : Yes w (.returned (.bool b)) w' := by subst h; exact ⟨rfl, hg⟩

def exZ (j : Nat) : Int := [7, 101, 9].getD j 0
theorem ex_run : script exZ 3 = (2, 3, 0) := by decide
theorem shown (w : World) (hT : Tab w) : Calls Tryd.prog 6 #[] w (Yes w) := by
  have hg := alloc1 w (.cells #[.int .i64 7, .int .i64 101, .int .i64 9] 3 (0, 0))
  have C1 := Lib.hid (runs_to (some ⟨w.heap.size, 0, none⟩) 3 3 exZ _ (by omega) (hT.fresh hg) (fun j hj => ⟨w.heap.size, 0, rfl, by simp, by
    have := cell_of_row _ w.heap.size j _ _ _ (heap_alloc_new w (.cells #[.int .i64 7, .int .i64 101, .int .i64 9] 3 (0, 0)))
    rw [Nat.zero_add, this]
    have h : j = 0 ∨ j = 1 ∨ j = 2 := by omega
    rcases h with rfl | rfl | rfl <;> rfl⟩))
  unfold IsRun at C1
  rw [ex_run] at C1
  clear hT
  go_enter Tryd.func6, Tryd.ntmps6
  go_wp2_with (go_at_call 7; refine C1.out.mono ?_; rintro e w1 ⟨rfl, hg1⟩; replace hg := fresh_trans hg hg1; clear hg1)
  go_ret
  exact yes_of rfl hg
end Go.Proofs.YtmcfmkganljbmaaDoor.State
