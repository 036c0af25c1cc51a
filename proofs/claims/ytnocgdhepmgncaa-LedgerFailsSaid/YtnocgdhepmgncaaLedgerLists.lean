/- Is a number in a list; are two lists the same. Conditions: as each fact states them. -/
import Derived.Test.YtnocgdhepmgncaaLedgerRun
import Derived.BigRegion
namespace Go.Proofs.Ytnocgdhepmgncaa.Ledger
open Go.ChangeShapes Go.WideShapes Go.ChangeAt Go.RowKit Go.Sort Mem
set_option linter.unusedVariables false
set_option linter.unusedSimpArgs false
set_option maxRecDepth 100000

theorem not_in {l : List Int} {x : Int} {n : Nat} (hn : l.length = n) (h : ∀ j, j < n → l[j]? ≠ some x) : x ∉ l := by
  intro hm
  obtain ⟨i, hi, e⟩ := List.mem_iff_getElem.1 hm
  exact h i (by omega) (by rw [List.getElem?_eq_getElem hi, e])
def HasI (xs : List Int) (n : Nat) (p : Int) (w : World) (left : Nat) (t : Value) (wr : World) : Prop := ∃ k : Nat, k ≤ n ∧ left = n - k ∧ t = .int .i64 (k : Int) ∧ wr = w ∧ Hid (∀ j, j < k → xs[j]? ≠ some p)
theorem has (B : Nat → Prop) (a : Option Addr) (n c : Nat) (xs : List Int) (p : Int) (w : World) (h : Path B w a n c xs) :
    Calls Try.prog 25 #[.slice a n c, .int .i64 p] w (Is (.bool (decide (p ∈ xs))) w) := by
  have hl := h.len
  have hbig := h.big
  have H := Lib.hid h
  clear h
  go_enter Try.func25, Try.ntmps25
  go_wp2_with fail
  go_loopg [5] n (fun left t wr => HasI xs n p w left t wr)
  case atStart => exact ⟨0, by omega, by omega, rfl, rfl, Lib.hid (fun j hj => by omega)⟩
  case round =>
    obtain ⟨k, hk, rfl, rfl, rfl, hb⟩ := hrel
    by_cases hlt : k < n
    · have q1 : (k : Int) < n := by omega
      obtain ⟨x, hx1⟩ : ∃ x, xs[k]? = some x := ⟨_, List.getElem?_eq_getElem (by omega)⟩
      obtain ⟨_, b1, o1, rfl, _, hb1, c1⟩ := H.out.at_ k x hx1
      have NX := Lib.hid (show x ≠ p → HasI xs n p wr (n - (k + 1)) (.int .i64 ((k : Int) + 1)) wr from fun hne => ⟨k + 1, by omega, by omega, by go_num, rfl, Lib.hid (fun j hj => by
        rcases Nat.lt_succ_iff_lt_or_eq.1 hj with h1 | rfl
        · exact hb.out j h1
        · rw [hx1]; simpa using hne)⟩)
      have FD := Lib.hid (show x = p → decide (p ∈ xs) = true from fun he => by rw [decide_eq_true_eq, ← he]; exact List.mem_of_getElem? hx1)
      clear H hb hx1
      by_cases hp : x = p
      · have FD' := Lib.hid (FD.out hp)
        subst hp
        go_wp2_with fail
        go_ret
        exact ⟨by rw [FD'.out]; rfl, Below.refl _ _⟩
      · have hp' : (x == p) = false := by simpa using hp
        have NX' := Lib.hid (NX.out hp)
        go_wp2_with fail
        go_roundg (n - (k + 1))
        case measure => omega
        case rel => exact NX'.out
    · obtain rfl : k = n := by omega
      have q1 : ¬ (k : Int) < k := by omega
      have E := Lib.hid (show decide (p ∈ xs) = false by rw [decide_eq_false_iff_not]; exact not_in hl (fun j hj => hb.out j (by omega)))
      clear hb H
      go_wp2_with fail
      go_ret
      exact ⟨by rw [E.out]; rfl, Below.refl _ _⟩
def SameI (n : Nat) (w : World) (left : Nat) (t : Value) (wr : World) : Prop := ∃ k : Nat, k ≤ n ∧ left = n - k ∧ t = .int .i64 (k : Int) ∧ Below w.heap.size w wr
theorem same (B : Nat → Prop) (a a2 : Option Addr) (n c c2 : Nat) (xs : List Int) (w : World) (h : Path B w a n c xs) (h2 : Path B w a2 n c2 xs) :
    Calls Try.prog 22 #[.slice a n c, .slice a2 n c2] w (Is (.bool true) w) := by
  have hl := h.len
  have hbig := h.big
  have H := Lib.hid (fun w' (hg : Below w.heap.size w w') => h.fresh hg)
  have H2 := Lib.hid (fun w' (hg : Below w.heap.size w w') => h2.fresh hg)
  clear h h2
  go_enter Try.func22, Try.ntmps22
  go_wp2_with fail
  go_loopg [5] n (fun left t wr => SameI n w left t wr)
  case atStart => exact ⟨0, by omega, by omega, rfl, Below.refl _ _⟩
  case round =>
    obtain ⟨k, hk, rfl, rfl, hb⟩ := hrel
    by_cases hlt : k < n
    · have q1 : (k : Int) < n := by omega
      obtain ⟨x, hx1⟩ : ∃ x, xs[k]? = some x := ⟨_, List.getElem?_eq_getElem (by omega)⟩
      obtain ⟨_, b1, o1, rfl, _, hb1, c1⟩ := (H.out _ hb).at_ k x hx1
      obtain ⟨_, b2, o2, rfl, _, hb2, c3⟩ := (H2.out _ hb).at_ k x hx1
      have NX := Lib.hid (show ∀ w', Below wr.heap.size wr w' → SameI n w (n - (k + 1)) (.int .i64 ((k : Int) + 1)) w' from fun w' hg => ⟨k + 1, by omega, by omega, by go_num, hb.trans (hg.mono hb.size)⟩)
      have NX' := Lib.hid (NX.out wr.drew (Below.refl _ _).drew)
      clear H H2 hb hx1 NX
      go_wp2_with fail
      go_region
      go_wp2_with fail
      go_roundg (n - (k + 1))
      case measure => omega
      case rel => exact NX'.out
    · obtain rfl : k = n := by omega
      have q1 : ¬ (k : Int) < k := by omega
      clear H H2
      go_wp2_with fail
      go_ret
      exact ⟨rfl, hb⟩
/-- A list of Tasks as one that is read. -/
theorem path_row {w : World} {B m cap : Nat} {e : TypeId} {ao : Option Addr} {xs : List Int} (h : w.ownsRow B e 1 (.slice ao m cap) m (cL xs)) (hx : ∀ x ∈ xs, I64 x) (hm : m ≤ 1000000) : Path (fun k => B ≤ k) w ao m cap xs := by
  have hl := h.1
  simp only [List.length_map, Nat.mul_one] at hl
  refine ⟨hl, by omega, fun e => ?_, fun j x hj => ?_⟩
  · rcases h.2 with ⟨e1, e2⟩ | ⟨g, cp, cur, e1, _⟩
    · cases e1; exact ⟨rfl, rfl⟩
    · cases e1; cases e
  · obtain ⟨g, cp, e1, hc, _, h1, h2⟩ := row_cell (k := j) (x := .int .i64 x) h (by simp [hj])
    cases e1
    exact ⟨hx x (List.mem_of_getElem? hj), g, 0, rfl, h1, h2, by rw [Nat.zero_add]; exact hc⟩
end Go.Proofs.Ytnocgdhepmgncaa.Ledger
