/- What set, which makes a bench, does. Conditions: each argument is a number of 16 bits. -/
import Derived.Test.YtfddefenmlcecaaBenchMem
namespace Go.Proofs.Ytfddefenmlcecaa.Queue
open Go.ChangeShapes Go.WideShapes Go.ChangeAt Go.RowKit Tree
set_option linter.unusedVariables false
set_option linter.unusedSimpArgs false
set_option maxRecDepth 100000

def ownAt (i : Nat) : List Ent := (List.range 8).map fun j : Nat => if j < i then ⟨(j : Int), 1024, 0, 0⟩ else Ent.zero
def own0 : List Ent := ownAt 8
theorem ownAt_set : ∀ i, i < 8 → (ownAt i).set i ⟨(i : Int), 1024, 0, 0⟩ = ownAt (i + 1) := by decide

/-- A bench told, that is new. -/
def Bench (c g k : Int) (w : World) (e : Ending) (w' : World) : Prop := ∃ b q, w.heap.size ≤ b ∧ w.heap.size ≤ q ∧ e = .returned (.pointer (some ⟨b, 0, none⟩)) ∧ Below w.heap.size w w' ∧ Be w' b q own0 c g (1 + k) ∧ ∀ O : Nat → Prop, (∀ j, O j → j < w.heap.size) → Qu w' q (fun j => O j ∨ j = b) St.new

def SetI (w : World) (b q : Nat) (c g k : Int) (left : Nat) (t : Value) (wr : World) : Prop := ∃ i : Nat, i ≤ 8 ∧ left = 9 - i ∧ t = .int .i64 i ∧ Hid (Be wr b q (ownAt i) c g (1 + k) ∧ Below w.heap.size w wr ∧ ∀ O : Nat → Prop, (∀ j, O j → j < w.heap.size) → Qu wr q (fun j => O j ∨ j = b) St.new)

set_option maxHeartbeats 4000000 in
theorem sets (c g k : Int) (w : World) (hc : 0 ≤ c ∧ c ≤ 65535) (hg : 0 ≤ g ∧ g ≤ 65535) (hk : 0 ≤ k ∧ k ≤ 65535) : Calls Try.prog 26 #[.int .u16 c, .int .u16 g, .int .u16 k] w (Bench c g k w) := by
  obtain ⟨hc1, hc2⟩ := hc
  obtain ⟨hg1, hg2⟩ := hg
  obtain ⟨hk1, hk2⟩ := hk
  have N := Lib.hid (news w)
  go_enter Try.func26, Try.ntmps26
  go_wp2_with (go_at_call 11; refine (N.out).mono ?_; rintro e w1 ⟨q, hq, rfl, hgN, hb⟩)
  have G1 := (Below.refl _ w1).alloc (Nat.le_refl _) (.cells (benchL q (ownAt 0) c g (1 + k)).toArray 64)
  have start : Hid (SetI w w1.heap.size q c g k 9 (.int .i64 0) (w1.alloc (.cells (benchL q (ownAt 0) c g (1 + k)).toArray 64))) := Lib.hid ⟨0, by omega, rfl, rfl, Lib.hid ⟨⟨heap_alloc_new _ _, rfl⟩, fresh_trans hgN G1, fun O hO => ((hb O hO).other (fun j hj => hj.imp (fun h => h) (fun e => by omega))).fresh G1⟩⟩
  have hbw : w.heap.size ≤ w1.heap.size := hgN.size
  clear hb N G1 hgN
  generalize w1.heap.size = b at *
  go_loopg [8] 9 (fun left t wr => SetI w b q c g k left t wr)
  case atStart => exact start.out
  case round =>
    obtain ⟨i, hi, rfl, rfl, H⟩ := hrel
    by_cases hlt : i < 8
    · have hlt' : (i : Int) < 8 := by omega
      have hz : (ownAt i)[i]? = some Ent.zero := by
        unfold ownAt
        rw [List.getElem?_map, List.getElem?_range hlt]
        simp
      obtain ⟨k0, k1, k2, k3⟩ := H.out.1.own hz
      obtain ⟨_, _, _, _, fz⟩ := H.out.1.cells
      have nx : Hid (SetI w b q c g k (9 - (i + 1)) (.int .i64 ((i + 1 : Nat) : Int)) ((((wr.setCell ⟨b, 1 + i * 4, none⟩ (.int .i64 (i : Int))).setCell ⟨b, 1 + i * 4 + 1, none⟩ (.int .u64 1024)).setCell ⟨b, 1 + i * 4 + 2, none⟩ (.int .i64 0)).setCell ⟨b, 1 + i * 4 + 3, none⟩ (.int .u64 0))) := by
        obtain ⟨h1, h2, h3⟩ := H.out
        have h4 := h1.setOwn i hlt ⟨(i : Int), 1024, 0, 0⟩
        rw [ownAt_set i hlt] at h4
        refine Lib.hid ⟨i + 1, by omega, rfl, rfl, Lib.hid ⟨h4, (((h2.setCell hbw _).setCell hbw _).setCell hbw _).setCell hbw _, fun O hO => ((((h3 O hO).away (p := ⟨b, _, none⟩) (.inr rfl) _).away (p := ⟨b, _, none⟩) (.inr rfl) _).away (p := ⟨b, _, none⟩) (.inr rfl) _).away (p := ⟨b, _, none⟩) (.inr rfl) _⟩⟩
      clear hz H
      go_wp2_with fail
      go_roundg (9 - (i + 1))
      case measure => omega
      case rel =>
        rw [show (i : Int) + 1 = ((i + 1 : Nat) : Int) by omega]
        exact nx.out
    · obtain rfl : i = 8 := by omega
      go_wp2_with fail
      go_ret
      exact ⟨b, q, hbw, hq, rfl, H.out.2.1, H.out.1, H.out.2.2⟩
end Go.Proofs.Ytfddefenmlcecaa.Queue
