/- The walks of layer 19's laws: the example at each one's head, the document's Same of equal events, EventBack, EventAgain. Conditions: the listed variables hold what they are listed with; numbers are of their kinds. -/
import Derived.Test.YtikdhfedidknpaaDoorEventTextW
import Derived.Laws.StructEq
namespace Go.Proofs.YtikdhfedidknpaaDoor.Event
open Go.ChangeShapes Go.WideShapes Go.ChangeAt Go.RowKit
open Mem (box_fresh owns_fresh)
set_option linter.unusedVariables false
set_option linter.unusedSimpArgs false
set_option maxRecDepth 100000
attribute [local irreducible] Go.wpQuiet

def IsYes (w : World) (e : Ending) (w' : World) : Prop := e = .returned (.bool true) ∧ Below w.heap.size w w'
theorem same_ (a b : Option Addr) (l : List Ev) (c1 c2 : Nat) (w : World) (h1 : Evs a l w) (h2 : Evs b l w) (hl : l.length ≤ 1073741824) : Calls Tryd.prog 12 #[.slice a l.length c1, .slice b l.length c2] w (IsYes w) := by
  obtain ⟨n, hn⟩ : ∃ n, n = l.length := ⟨_, rfl⟩
  have hn' := Lib.hid hn
  rw [← hn] at hl ⊢
  clear hn
  have mixed : Tryd.prog.follows Departure.mixedOrders = true := by kernel_rfl
  go_enter Tryd.func12, Tryd.ntmps12
  go_wp2
  go_loopw [5] (fun t wr => ∃ k : Nat, k ≤ n ∧ t = .int .i64 k ∧ ∃ m, wr = w.drewN m) (fun t _ => n - (intOf t).toNat)
  case atStart => exact ⟨0, Nat.zero_le _, rfl, 0, rfl⟩
  case round =>
    obtain ⟨k, hk, rfl, m, hw⟩ := hrel
    by_cases hlt : k < n
    · have hlt' : (k : Int) < n := by omega
      obtain ⟨e, he⟩ : ∃ e, l[k]? = some e := ⟨_, List.getElem?_eq_getElem (by rw [← hn'.out]; exact hlt)⟩
      obtain ⟨b1, o1, rfl, _, c0, d1, d2, d3, d4, d5⟩ := h1 k e he
      obtain ⟨b2, o2, rfl, _, f0, f1, f2, f3, f4, f5⟩ := h2 k e he
      obtain ⟨ek, ea, eb, en, em, es⟩ := e
      have cc : ∀ i, wr.cell? i = w.cell? i := fun i => by rw [hw]; rfl
      rw [← cc] at c0 d1 d2 d3 d4 d5 f0 f1 f2 f3 f4 f5
      have hw' := Lib.hid hw
      clear he h1 h2 cc hw
      simp only at c0 d1 d2 d3 d4 d5 f0 f1 f2 f3 f4 f5
      go_wp2_with fail
      go_quiet (fail)
      rename_i nq
      have hw2 := Lib.hid (show wr.drewN nq = w.drewN (m + nq) by rw [hw'.out, World.drewN_drewN])
      go_wp2_with fail
      go_roundw
      case rel => exact ⟨k + 1, by omega, by go_num, _, hw2.out⟩
      case measure => simp [intOf]; omega
    · obtain rfl : k = n := by omega
      have hw' := Lib.hid (show Below w.heap.size w wr by rw [hw]; exact ⟨rfl, rfl, rfl, Nat.le_refl _, fun _ _ => rfl⟩)
      clear h1 h2 hw
      go_wp2_with fail
      go_ret
      exact ⟨rfl, hw'.out⟩
/-- The document's example. -/
def exE : Ev := ⟨6, 0, 0, -5, 0, 15⟩
theorem ex_may : may exE = true := by decide
theorem ex_ok : exE.Ok := ⟨⟨by decide, by decide⟩, ⟨by decide, by decide⟩, ⟨by decide, by decide⟩, ⟨by decide, by decide⟩, ⟨by decide, by decide⟩, by decide⟩
theorem ex_text : linesT MK [exE] = [115, 112, 97, 119, 110, 32, 48, 32, 45, 53, 32, 48, 45, 51, 10] := by
  have h1 : figs 0 = [48] := by unfold figs Lib.itoa; rw [if_neg (by decide)]; exact Lib.decDigits_one (by decide)
  have h2 : figs (-5) = [45, 53] := by
    unfold figs Lib.itoa
    rw [if_pos (by decide)]
    rw [show (-5 : Int).natAbs = 5 from rfl, Lib.decDigits_one (by decide)]
    rfl
  have h3 : MK.t 15 = [48, 45, 51] := by show Mask.text 15 = _; decide +kernel
  have hf : form 6 = [97, 110, 115] := by decide
  have hw : wordOf 6 = [115, 112, 97, 119, 110] := by decide
  simp [linesT, lineT, exE, hf, hw, fieldT, h1, h2, h3]
theorem ex_parse : parseP MK [115, 112, 97, 119, 110, 32, 48, 32, 45, 53, 32, 48, 45, 51, 10] = ([exE], 0, 0) := by
  rw [← ex_text]
  exact text_back good (fun e he => by rw [List.mem_singleton] at he; subst he; exact ⟨ex_ok, ex_may⟩) (by simp)
theorem shown (w : World) (hT : Tab w) : Calls Tryd.prog 9 #[] w (IsYes w) := by
  have P0 := Lib.hid (fun (w : World) (hT : Tab w) => parse_ [115, 112, 97, 119, 110, 32, 48, 32, 45, 53, 32, 48, 45, 51, 10] (by simp) w hT)
  rw [ex_parse] at P0
  have M0 := Lib.hid (fun (w : World) (hT : Tab w) => may_ exE w hT)
  rw [ex_may] at M0
  unfold evV evC exE at M0
  simp only at M0
  go_enter Tryd.func9, Tryd.ntmps9
  go_upto_region 2 with (go_at_call 10; refine (P0.out _ hT).mono ?_; rintro e w1 ⟨v, rfl, hO, hg⟩)
  obtain ⟨va, vc, rfl⟩ := hO.shape
  obtain ⟨hE, _⟩ := hO.evs
  obtain ⟨b, off, rfl, _, c0, c1, c2, c3, c4, c5⟩ := hE 0 exE rfl
  unfold exE at c0 c1 c2 c3 c4 c5
  simp only [Nat.zero_mul, Nat.add_zero] at c0 c1 c2 c3 c4 c5
  have hT1 := hT.fresh hg
  clear hO hE
  rw [show ([exE] : List Ev).length = 1 from rfl]
  simp only [show ((15 : Nat) : Int) = 15 from rfl] at c5 M0
  go_wp2_with (go_at_call 17; refine (M0.out _ hT1).mono ?_; rintro e w2 ⟨rfl, h1⟩; replace hg := hg.trans (h1.mono hg.size); clear h1)
  go_ret
  exact ⟨rfl, hg⟩
end Go.Proofs.YtikdhfedidknpaaDoor.Event
