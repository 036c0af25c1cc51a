/- What the document's answers return: May, Busiest, Least, Idle. Conditions: each argument is a number of its kind. -/
import Derived.Test.YtijocgpbifgifaaLoadMem
import Derived.Deep.QuietTactic
namespace Go.Proofs.Ytijocgpbifgifaa.Load
open Go.ChangeShapes Go.WideShapes Go.ChangeAt Go.RowKit
set_option linter.unusedVariables false
set_option linter.unusedSimpArgs false
attribute [local irreducible] Go.wpQuiet

def IsBool (b : Bool) (w : World) (e : Ending) (w' : World) : Prop := e = .returned (.bool b) ∧ w' = w
def can (n m p : Nat) : Bool := decide (p < n) && may m p
theorem can_in {n m p : Nat} (h : p < n) : can n m p = may m p := by unfold can; rw [decide_eq_true h]; rfl
theorem refMay (v : Option Addr) (n cap m p : Nat) (w : World) (hm : m < 18446744073709551616) :
    Calls Try.prog 21 #[.slice v n cap, .int .i64 p, .int .u64 m] w (IsBool (can n m p) w) := by
  by_cases h1 : p < n
  · have h1' : (p : Int) < n := by omega
    rw [can_in h1]
    by_cases h2 : p < 64
    · have h2' : (p : Int) < 64 := by omega
      have HB := bit_may m p hm h2
      generalize may m p = b at *
      go_enter Try.func21, Try.ntmps21
      go_wp2
      go_ret
      exact ⟨rfl, rfl⟩
    · have h2' : ¬ (p : Int) < 64 := by omega
      have e : may m p = false := by unfold may; rw [decide_eq_false h2]; rfl
      rw [e]
      go_enter Try.func21, Try.ntmps21
      go_wp2
      go_ret
      exact ⟨rfl, rfl⟩
  · have h1' : ¬ (p : Int) < n := by omega
    have e : can n m p = false := by unfold can; rw [decide_eq_false h1]; rfl
    rw [e]
    go_enter Try.func21, Try.ntmps21
    go_wp2
    go_ret
    exact ⟨rfl, rfl⟩

/-- The one whom none of the others is ahead of. -/
def IsB (S : Nat → Bool) (z : Nat → Int) (n p : Nat) : Prop := S p = true ∧ ∀ q, q < n → S q = true → z q ≤ z p
theorem isB_pick {S : Nat → Bool} {z : Nat → Int} {n p : Nat} (hp : p < n) (h : IsB S z n p) (hb : ∀ q, q < p → ¬ IsB S z n q) : (p : Int) = pick S z n := by
  refine best_only ?_ (pick_best S z n)
  refine .inr ⟨p, rfl, hp, h.1, fun q hq hS => ?_⟩
  have h1 := h.2 q hq hS
  by_cases h2 : z q = z p
  · refine .inr ⟨h2, ?_⟩
    by_cases h3 : q < p
    · exact absurd ⟨hS, fun r hr hSr => by rw [h2]; exact h.2 r hr hSr⟩ (hb q h3)
    · omega
  · left; omega
theorem isB_none {S : Nat → Bool} {z : Nat → Int} {n : Nat} (hb : ∀ q, q < n → ¬ IsB S z n q) : (-1 : Int) = pick S z n := by
  rcases pick_best S z n with ⟨e, _⟩ | ⟨p, e, hp, hS, h⟩
  · exact e.symm
  · exact absurd ⟨hS, fun q hq hSq => by have := h q hq hSq; omega⟩ (hb p hp)

def OutI (S : Nat → Bool) (z : Nat → Int) (n : Nat) (w : World) (left : Nat) (t : Value) (wr : World) : Prop :=
  ∃ k : Nat, left + k = n ∧ t = .int .i64 k ∧ Hid (∀ q, q < k → ¬ IsB S z n q) ∧ Below w.heap.size w wr
def InI (S : Nat → Bool) (z : Nat → Int) (n k : Nat) (w : World) (left : Nat) (t8 t9 : Value) (wr : World) : Prop :=
  ∃ (j : Nat) (c : Bool), left + j = n ∧ t9 = .int .i64 j ∧ t8 = .bool c ∧ Hid (c = true → S k = true ∧ ∀ q, q < j → S q = true → z q ≤ z k) ∧ Hid (c = false → ¬ IsB S z n k) ∧ Below w.heap.size w wr

set_option maxRecDepth 100000 in
set_option maxHeartbeats 4000000 in
theorem refBusiest (v : Option Addr) (n cap m : Nat) (mine : Int) (z : Nat → Int) (w : World) (hm : m < 18446744073709551616) (hn : n ≤ 9223372036854775807) (HL : Hid (Lies v n z w)) :
    Calls Try.prog 12 #[.slice v n cap, .int .i64 mine, .int .u64 m] w (OneB .i64 (bus z n mine m) w) := by
  have MY : Hid (∀ (p : Nat) (w : World), p < n → Calls Try.prog 21 #[.slice v n cap, .int .i64 p, .int .u64 m] w (IsBool (may m p) w)) := Lib.hid fun p w hp => by
    have := refMay v n cap m p w hm
    rwa [can_in hp] at this
  have FN := Lib.hid (fun h => isB_none (S := fun j => may m j && !((j : Int) == mine)) (z := z) (n := n) h)
  have FP : Hid (∀ k, k < n → IsB (fun j => may m j && !((j : Int) == mine)) z n k → (∀ q, q < k → ¬ IsB (fun j => may m j && !((j : Int) == mine)) z n q) → (k : Int) = bus z n mine m) := Lib.hid fun k hk h1 h2 => isB_pick hk h1 h2
  have FN' : Hid ((∀ q, q < n → ¬ IsB (fun j => may m j && !((j : Int) == mine)) z n q) → (-1 : Int) = bus z n mine m) := FN
  clear FN
  have FS : Hid (∀ j : Nat, (fun j => may m j && !((j : Int) == mine)) j = (may m j && !((j : Int) == mine))) := Lib.hid fun _ => rfl
  generalize (fun j : Nat => may m j && !((j : Int) == mine)) = S at *
  generalize bus z n mine m = R at *
  go_enter Try.func12, Try.ntmps12
  go_wp2
  go_loopg [7] n (fun left t wr => OutI S z n w left t wr)
  case atStart => exact ⟨0, by omega, rfl, Lib.hid (fun q hq => by omega), Below.refl _ _⟩
  case round =>
    obtain ⟨k, hk, rfl, HB, hb⟩ := hrel
    by_cases hlt : k < n
    · have h3 : (k : Int) < n := by omega
      have MK := Lib.hid (fun w => MY.out k w hlt)
      have E := FS.out k
      have q0 : (0 : Int) ≤ k := by omega
      obtain ⟨b1, o1, rfl, l1, d1⟩ := HL.out k hlt
      have D1 := Lib.hid (fun wx (h : Below w.heap.size w wx) => (h.cell (p := ⟨b1, o1 + k, none⟩) l1).trans d1)
      clear d1
      cases hM : may m k
      · rw [hM] at MK E
        go_wp2_with (go_at_call 21; refine (MK.out _).mono ?_; rintro e w1 ⟨rfl, hw⟩; replace hw := hw.symm; subst hw)
        go_loopg [8, 9] n (fun left t8 t9 wr => InI S z n k w left t8 t9 wr)
        case atStart => exact ⟨0, false, by omega, rfl, rfl, Lib.hid (fun h => by cases h), Lib.hid (fun _ hI => by have := hI.1; rw [E] at this; simp at this), hb⟩
        case round =>
          clear hb
          obtain ⟨j, c, hj, rfl, rfl, HT, HF, hb⟩ := hrel
          have q1 : (0 : Int) ≤ j := by omega
          by_cases hlj : j < n
          · have h5 : (j : Int) < n := by omega
            cases c
            · have HX := Lib.hid (fun wx (h : Below w.heap.size w wx) => (show OutI S z n w (n - (k + 1)) (.int .i64 ((k : Int) + 1)) wx from ⟨k + 1, by omega, by go_num, Lib.hid (fun q hq => by rcases (by omega : q < k ∨ q = k) with h | rfl; exact HB.out q h; exact HF.out rfl), h⟩))
              go_wp2_with fail
              go_roundg (n - (k + 1))
              case measure => omega
              case rel => exact HX.out _ hb
            · have MJ := Lib.hid (fun w => MY.out j w hlj)
              have EJ := FS.out j
              obtain ⟨b2, o2, e2, l2, d2⟩ := HL.out j hlj
              cases e2
              have D2 := (hb.cell (p := ⟨b1, o1 + j, none⟩) l2).trans d2
              have D0 := D1.out _ hb
              have NX : Hid ((S j = true → z j ≤ z k) → ∀ m', InI S z n k w (gk - 1) (.bool true) (.int .i64 ((j : Int) + 1)) (wr.drewN m')) := Lib.hid fun h m' => ⟨j + 1, true, by omega, by go_num, rfl, Lib.hid (fun _ => ⟨(HT.out rfl).1, fun q hq hS => by rcases (by omega : q < j ∨ q = j) with h1 | rfl; exact (HT.out rfl).2 q h1 hS; exact h hS⟩), Lib.hid (fun h => by cases h), drawn hb m'⟩
              have NF : Hid (S j = true → z k < z j → ∀ m', InI S z n k w (gk - 1) (.bool false) (.int .i64 ((j : Int) + 1)) (wr.drewN m')) := Lib.hid fun hS hz m' => ⟨j + 1, false, by omega, by go_num, rfl, Lib.hid (fun h => by cases h), Lib.hid (fun _ hI => by have := hI.2 j hlj hS; omega), drawn hb m'⟩
              cases hMj : may m j
              · rw [hMj] at MJ EJ
                have N1 := Lib.hid (NX.out (by rw [EJ]; simp))
                generalize z j = y at *
                generalize z k = x at *
                clear NX NF HT HF EJ hb hMj d2 D1 HB FP FN' MY FS MK
                go_wp2_with fail
                go_quiet (first | (go_at_call 21; exact Calls.quiet_of_same (MJ.out _)))
                go_wp2_with fail
                go_roundg (gk - 1)
                case measure => omega
                case rel => exact N1.out _
              · rw [hMj] at MJ EJ
                by_cases hqj : (j : Int) = mine
                · have hqj' : ((j : Int) != mine) = false := by simp [hqj]
                  have N1 := Lib.hid (NX.out (by rw [EJ]; simp [hqj]))
                  generalize z j = y at *
                  generalize z k = x at *
                  clear NX NF HT HF EJ hb hqj hMj d2 D1 HB FP FN' MY FS MK
                  go_wp2_with fail
                  go_quiet (first | (go_at_call 21; exact Calls.quiet_of_same (MJ.out _)))
                  go_wp2_with fail
                  go_roundg (gk - 1)
                  case measure => omega
                  case rel => exact N1.out _
                · have hqj' : ((j : Int) != mine) = true := by simp [hqj]
                  have EJ' : S j = true := by rw [EJ]; simp [hqj]
                  by_cases hzz : z k < z j
                  · have N1 := Lib.hid (NF.out EJ' hzz)
                    generalize z j = y at *
                    generalize z k = x at *
                    clear NX NF HT HF EJ hb hqj EJ' hMj d2 D1 HB FP FN' MY FS MK
                    have hz2 : decide (x < y) = true := by simpa using hzz
                    go_wp2_with fail
                    go_quiet (first | (go_at_call 21; exact Calls.quiet_of_same (MJ.out _)))
                    go_wp2_with fail
                    go_roundg (gk - 1)
                    case measure => omega
                    case rel => exact N1.out _
                  · have N1 := Lib.hid (NX.out (fun _ => by omega))
                    generalize z j = y at *
                    generalize z k = x at *
                    clear NX NF HT HF EJ hb hqj EJ' hMj d2 D1 HB FP FN' MY FS MK
                    have hz2 : decide (x < y) = false := by simpa using hzz
                    go_wp2_with fail
                    go_quiet (first | (go_at_call 21; exact Calls.quiet_of_same (MJ.out _)))
                    go_wp2_with fail
                    go_roundg (gk - 1)
                    case measure => omega
                    case rel => exact N1.out _
          · have h5 : ¬ (j : Int) < n := by omega
            obtain rfl : j = n := by omega
            cases c
            · have HX := Lib.hid (fun wx (h : Below w.heap.size w wx) => (show OutI S z j w (j - (k + 1)) (.int .i64 ((k : Int) + 1)) wx from ⟨k + 1, by omega, by go_num, Lib.hid (fun q hq => by rcases (by omega : q < k ∨ q = k) with h | rfl; exact HB.out q h; exact HF.out rfl), h⟩))
              go_wp2_with fail
              go_roundg (j - (k + 1))
              case measure => omega
              case rel => exact HX.out _ hb
            · have FE := Lib.hid (FP.out k hlt ⟨(HT.out rfl).1, (HT.out rfl).2⟩ HB.out)
              go_wp2_with fail
              go_ret
              exact oneB_of FE.out hb
      · rw [hM] at MK E
        by_cases hq : (k : Int) = mine
        · have hq' : ((k : Int) != mine) = false := by simp [hq]
          have E2 : S k = false := by rw [E]; simp [hq]
          clear hq
          rw [E2] at E
          clear E
          have E := E2
          clear E2
          go_wp2_with (go_at_call 21; refine (MK.out _).mono ?_; rintro e w1 ⟨rfl, hw⟩; replace hw := hw.symm; subst hw)
          go_loopg [8, 9] n (fun left t8 t9 wr => InI S z n k w left t8 t9 wr)
          case atStart => exact ⟨0, false, by omega, rfl, rfl, Lib.hid (fun h => by cases h), Lib.hid (fun _ hI => by have := hI.1; rw [E] at this; simp at this), hb⟩
          case round =>
            clear hb
            obtain ⟨j, c, hj, rfl, rfl, HT, HF, hb⟩ := hrel
            have q1 : (0 : Int) ≤ j := by omega
            by_cases hlj : j < n
            · have h5 : (j : Int) < n := by omega
              cases c
              · have HX := Lib.hid (fun wx (h : Below w.heap.size w wx) => (show OutI S z n w (n - (k + 1)) (.int .i64 ((k : Int) + 1)) wx from ⟨k + 1, by omega, by go_num, Lib.hid (fun q hq => by rcases (by omega : q < k ∨ q = k) with h | rfl; exact HB.out q h; exact HF.out rfl), h⟩))
                go_wp2_with fail
                go_roundg (n - (k + 1))
                case measure => omega
                case rel => exact HX.out _ hb
              · have MJ := Lib.hid (fun w => MY.out j w hlj)
                have EJ := FS.out j
                obtain ⟨b2, o2, e2, l2, d2⟩ := HL.out j hlj
                cases e2
                have D2 := (hb.cell (p := ⟨b1, o1 + j, none⟩) l2).trans d2
                have D0 := D1.out _ hb
                have NX : Hid ((S j = true → z j ≤ z k) → ∀ m', InI S z n k w (gk - 1) (.bool true) (.int .i64 ((j : Int) + 1)) (wr.drewN m')) := Lib.hid fun h m' => ⟨j + 1, true, by omega, by go_num, rfl, Lib.hid (fun _ => ⟨(HT.out rfl).1, fun q hq hS => by rcases (by omega : q < j ∨ q = j) with h1 | rfl; exact (HT.out rfl).2 q h1 hS; exact h hS⟩), Lib.hid (fun h => by cases h), drawn hb m'⟩
                have NF : Hid (S j = true → z k < z j → ∀ m', InI S z n k w (gk - 1) (.bool false) (.int .i64 ((j : Int) + 1)) (wr.drewN m')) := Lib.hid fun hS hz m' => ⟨j + 1, false, by omega, by go_num, rfl, Lib.hid (fun h => by cases h), Lib.hid (fun _ hI => by have := hI.2 j hlj hS; omega), drawn hb m'⟩
                cases hMj : may m j
                · rw [hMj] at MJ EJ
                  have N1 := Lib.hid (NX.out (by rw [EJ]; simp))
                  generalize z j = y at *
                  generalize z k = x at *
                  clear NX NF HT HF EJ hb hMj d2 D1 HB FP FN' MY FS MK
                  go_wp2_with fail
                  go_quiet (first | (go_at_call 21; exact Calls.quiet_of_same (MJ.out _)))
                  go_wp2_with fail
                  go_roundg (gk - 1)
                  case measure => omega
                  case rel => exact N1.out _
                · rw [hMj] at MJ EJ
                  by_cases hqj : (j : Int) = mine
                  · have hqj' : ((j : Int) != mine) = false := by simp [hqj]
                    have N1 := Lib.hid (NX.out (by rw [EJ]; simp [hqj]))
                    generalize z j = y at *
                    generalize z k = x at *
                    clear NX NF HT HF EJ hb hqj hMj d2 D1 HB FP FN' MY FS MK
                    go_wp2_with fail
                    go_quiet (first | (go_at_call 21; exact Calls.quiet_of_same (MJ.out _)))
                    go_wp2_with fail
                    go_roundg (gk - 1)
                    case measure => omega
                    case rel => exact N1.out _
                  · have hqj' : ((j : Int) != mine) = true := by simp [hqj]
                    have EJ' : S j = true := by rw [EJ]; simp [hqj]
                    by_cases hzz : z k < z j
                    · have N1 := Lib.hid (NF.out EJ' hzz)
                      generalize z j = y at *
                      generalize z k = x at *
                      clear NX NF HT HF EJ hb hqj EJ' hMj d2 D1 HB FP FN' MY FS MK
                      have hz2 : decide (x < y) = true := by simpa using hzz
                      go_wp2_with fail
                      go_quiet (first | (go_at_call 21; exact Calls.quiet_of_same (MJ.out _)))
                      go_wp2_with fail
                      go_roundg (gk - 1)
                      case measure => omega
                      case rel => exact N1.out _
                    · have N1 := Lib.hid (NX.out (fun _ => by omega))
                      generalize z j = y at *
                      generalize z k = x at *
                      clear NX NF HT HF EJ hb hqj EJ' hMj d2 D1 HB FP FN' MY FS MK
                      have hz2 : decide (x < y) = false := by simpa using hzz
                      go_wp2_with fail
                      go_quiet (first | (go_at_call 21; exact Calls.quiet_of_same (MJ.out _)))
                      go_wp2_with fail
                      go_roundg (gk - 1)
                      case measure => omega
                      case rel => exact N1.out _
            · have h5 : ¬ (j : Int) < n := by omega
              obtain rfl : j = n := by omega
              cases c
              · have HX := Lib.hid (fun wx (h : Below w.heap.size w wx) => (show OutI S z j w (j - (k + 1)) (.int .i64 ((k : Int) + 1)) wx from ⟨k + 1, by omega, by go_num, Lib.hid (fun q hq => by rcases (by omega : q < k ∨ q = k) with h | rfl; exact HB.out q h; exact HF.out rfl), h⟩))
                go_wp2_with fail
                go_roundg (j - (k + 1))
                case measure => omega
                case rel => exact HX.out _ hb
              · have FE := Lib.hid (FP.out k hlt ⟨(HT.out rfl).1, (HT.out rfl).2⟩ HB.out)
                go_wp2_with fail
                go_ret
                exact oneB_of FE.out hb
        · have hq' : ((k : Int) != mine) = true := by simp [hq]
          have E2 : S k = true := by rw [E]; simp [hq]
          go_wp2_with (go_at_call 21; refine (MK.out _).mono ?_; rintro e w1 ⟨rfl, hw⟩; replace hw := hw.symm; subst hw)
          go_loopg [8, 9] n (fun left t8 t9 wr => InI S z n k w left t8 t9 wr)
          case atStart => exact ⟨0, true, by omega, rfl, rfl, Lib.hid (fun _ => ⟨E2, fun q hq => by omega⟩), Lib.hid (fun h => by cases h), hb⟩
          case round =>
            clear hb
            obtain ⟨j, c, hj, rfl, rfl, HT, HF, hb⟩ := hrel
            have q1 : (0 : Int) ≤ j := by omega
            by_cases hlj : j < n
            · have h5 : (j : Int) < n := by omega
              cases c
              · have HX := Lib.hid (fun wx (h : Below w.heap.size w wx) => (show OutI S z n w (n - (k + 1)) (.int .i64 ((k : Int) + 1)) wx from ⟨k + 1, by omega, by go_num, Lib.hid (fun q hq => by rcases (by omega : q < k ∨ q = k) with h | rfl; exact HB.out q h; exact HF.out rfl), h⟩))
                go_wp2_with fail
                go_roundg (n - (k + 1))
                case measure => omega
                case rel => exact HX.out _ hb
              · have MJ := Lib.hid (fun w => MY.out j w hlj)
                have EJ := FS.out j
                obtain ⟨b2, o2, e2, l2, d2⟩ := HL.out j hlj
                cases e2
                have D2 := (hb.cell (p := ⟨b1, o1 + j, none⟩) l2).trans d2
                have D0 := D1.out _ hb
                have NX : Hid ((S j = true → z j ≤ z k) → ∀ m', InI S z n k w (gk - 1) (.bool true) (.int .i64 ((j : Int) + 1)) (wr.drewN m')) := Lib.hid fun h m' => ⟨j + 1, true, by omega, by go_num, rfl, Lib.hid (fun _ => ⟨(HT.out rfl).1, fun q hq hS => by rcases (by omega : q < j ∨ q = j) with h1 | rfl; exact (HT.out rfl).2 q h1 hS; exact h hS⟩), Lib.hid (fun h => by cases h), drawn hb m'⟩
                have NF : Hid (S j = true → z k < z j → ∀ m', InI S z n k w (gk - 1) (.bool false) (.int .i64 ((j : Int) + 1)) (wr.drewN m')) := Lib.hid fun hS hz m' => ⟨j + 1, false, by omega, by go_num, rfl, Lib.hid (fun h => by cases h), Lib.hid (fun _ hI => by have := hI.2 j hlj hS; omega), drawn hb m'⟩
                cases hMj : may m j
                · rw [hMj] at MJ EJ
                  have N1 := Lib.hid (NX.out (by rw [EJ]; simp))
                  generalize z j = y at *
                  generalize z k = x at *
                  clear NX NF HT HF EJ hb hMj d2 D1 HB FP FN' MY FS MK
                  go_wp2_with fail
                  go_quiet (first | (go_at_call 21; exact Calls.quiet_of_same (MJ.out _)))
                  go_wp2_with fail
                  go_roundg (gk - 1)
                  case measure => omega
                  case rel => exact N1.out _
                · rw [hMj] at MJ EJ
                  by_cases hqj : (j : Int) = mine
                  · have hqj' : ((j : Int) != mine) = false := by simp [hqj]
                    have N1 := Lib.hid (NX.out (by rw [EJ]; simp [hqj]))
                    generalize z j = y at *
                    generalize z k = x at *
                    clear NX NF HT HF EJ hb hqj hMj d2 D1 HB FP FN' MY FS MK
                    go_wp2_with fail
                    go_quiet (first | (go_at_call 21; exact Calls.quiet_of_same (MJ.out _)))
                    go_wp2_with fail
                    go_roundg (gk - 1)
                    case measure => omega
                    case rel => exact N1.out _
                  · have hqj' : ((j : Int) != mine) = true := by simp [hqj]
                    have EJ' : S j = true := by rw [EJ]; simp [hqj]
                    by_cases hzz : z k < z j
                    · have N1 := Lib.hid (NF.out EJ' hzz)
                      generalize z j = y at *
                      generalize z k = x at *
                      clear NX NF HT HF EJ hb hqj EJ' hMj d2 D1 HB FP FN' MY FS MK
                      have hz2 : decide (x < y) = true := by simpa using hzz
                      go_wp2_with fail
                      go_quiet (first | (go_at_call 21; exact Calls.quiet_of_same (MJ.out _)))
                      go_wp2_with fail
                      go_roundg (gk - 1)
                      case measure => omega
                      case rel => exact N1.out _
                    · have N1 := Lib.hid (NX.out (fun _ => by omega))
                      generalize z j = y at *
                      generalize z k = x at *
                      clear NX NF HT HF EJ hb hqj EJ' hMj d2 D1 HB FP FN' MY FS MK
                      have hz2 : decide (x < y) = false := by simpa using hzz
                      go_wp2_with fail
                      go_quiet (first | (go_at_call 21; exact Calls.quiet_of_same (MJ.out _)))
                      go_wp2_with fail
                      go_roundg (gk - 1)
                      case measure => omega
                      case rel => exact N1.out _
            · have h5 : ¬ (j : Int) < n := by omega
              obtain rfl : j = n := by omega
              cases c
              · have HX := Lib.hid (fun wx (h : Below w.heap.size w wx) => (show OutI S z j w (j - (k + 1)) (.int .i64 ((k : Int) + 1)) wx from ⟨k + 1, by omega, by go_num, Lib.hid (fun q hq => by rcases (by omega : q < k ∨ q = k) with h | rfl; exact HB.out q h; exact HF.out rfl), h⟩))
                go_wp2_with fail
                go_roundg (j - (k + 1))
                case measure => omega
                case rel => exact HX.out _ hb
              · have FE := Lib.hid (FP.out k hlt ⟨(HT.out rfl).1, (HT.out rfl).2⟩ HB.out)
                go_wp2_with fail
                go_ret
                exact oneB_of FE.out hb
    · have h3 : ¬ (k : Int) < n := by omega
      obtain rfl : k = n := by omega
      go_wp2
      go_ret
      exact oneB_of (FN'.out HB.out) hb
end Go.Proofs.Ytijocgpbifgifaa.Load
