/- The walks of five of stage 15's laws. Conditions: each argument is a number of its kind; a slice has room for what it holds. -/
import Derived.Test.YtijocgpbifgifaaLoadFindC
import Derived.Test.YtijocgpbifgifaaLoadRefB
import Derived.Test.YtijocgpbifgifaaLoadRefC
namespace Go.Proofs.Ytijocgpbifgifaa.Load
open Go.ChangeShapes Go.WideShapes Go.ChangeAt Go.RowKit
set_option linter.unusedVariables false
set_option linter.unusedSimpArgs false

def four (a b c d : Int) : Nat → Int := fun j => if j = 0 then a else if j = 1 then b else if j = 2 then c else d
theorem four_in {w : World} {g : Nat} (h : w.heap[g]? = some (.cells #[.int .u64 3, .int .u64 7, .int .u64 7, .int .u64 0] 23 (0, 0))) : In (some ⟨g, 0, none⟩) 4 4 (four 3 7 7 0) w := by
  refine ⟨fun j hj => ⟨g, 0, rfl, lt_of h, ?_⟩, fun j hj => ?_, by omega, fun h => by cases h⟩
  · rw [cell_of_row w g _ _ _ _ h]
    rcases (by omega : j = 0 ∨ j = 1 ∨ j = 2 ∨ j = 3) with rfl | rfl | rfl | rfl <;> rfl
  · unfold U64 four; repeat' split <;> omega

theorem shown (w : World) : Calls Try.prog 9 #[] w (Yes w) := by
  have B1 : Hid (∀ w g, In (some ⟨g, 0, none⟩) 4 4 (four 3 7 7 0) w → Calls Try.prog 11 #[.slice (some ⟨g, 0, none⟩) 4 4, .int .i64 1, .int .u64 15] w (OneB .i64 2 w)) := Lib.hid fun w g h => busiest _ 4 4 15 1 (four 3 7 7 0) w (by decide) h
  have B2 : Hid (∀ w g, In (some ⟨g, 0, none⟩) 4 4 (four 3 7 7 0) w → Calls Try.prog 13 #[.slice (some ⟨g, 0, none⟩) 4 4, .int .u64 15] w (OneB .i64 3 w)) := Lib.hid fun w g h => least _ 4 4 15 (four 3 7 7 0) w (by decide) h
  have B3 : Hid (∀ w g, In (some ⟨g, 0, none⟩) 4 4 (four 3 7 7 0) w → Calls Try.prog 15 #[.slice (some ⟨g, 0, none⟩) 4 4, .int .u64 15] w (OneB .i64 3 w)) := Lib.hid fun w g h => idle _ 4 4 15 (four 3 7 7 0) w (by decide) h
  have B4 : Hid (∀ w, Calls Try.prog 19 #[.int .u64 7, .int .u64 3] w (One .u64 4 w)) := Lib.hid fun w => gaps 7 3 w (by unfold U64; omega) (by unfold U64; omega)
  have I0 : Hid (∀ w : World, In (some ⟨w.heap.size, 0, none⟩) 4 4 (four 3 7 7 0) (w.alloc (.cells #[.int .u64 3, .int .u64 7, .int .u64 7, .int .u64 0] 23))) := Lib.hid fun w => four_in (heap_alloc_new _ _)
  have G0 : Hid (∀ w : World, Below w.heap.size w (w.alloc (.cells #[.int .u64 3, .int .u64 7, .int .u64 7, .int .u64 0] 23))) := Lib.hid fun w => alloc1 w _
  go_enter Try.func9, Try.ntmps9
  go_wp2_with (first
    | (go_at_call 11; refine (B1.out _ _ (I0.out _)).mono ?_; rintro e w1 ⟨rfl, hg1⟩; have hI := Lib.hid ((I0.out _).fresh hg1); have hg := fresh_trans (G0.out _) hg1; clear hg1)
    | (go_at_call 13; refine (B2.out _ _ hI.out).mono ?_; rintro e w2 ⟨rfl, hg1⟩; replace hI := Lib.hid (hI.out.fresh hg1); replace hg := fresh_trans hg hg1; clear hg1)
    | (go_at_call 15; refine (B3.out _ _ hI.out).mono ?_; rintro e w3 ⟨rfl, hg1⟩; replace hI := Lib.hid (hI.out.fresh hg1); replace hg := fresh_trans hg hg1; clear hg1)
    | (go_at_call 19; refine (B4.out _).mono ?_; rintro e w4 ⟨rfl, rfl⟩))
  go_ret
  exact ⟨rfl, hg⟩

theorem In.less {v : Option Addr} {n k cap : Nat} {z : Nat → Int} {w : World} (h : In v n cap z w) (hk : k ≤ n) : In v k cap z w := ⟨h.lies.less hk, fun j hj => h.nums j (by omega), by have := h.room; omega, fun e => by have := h.nils e; omega⟩
theorem few' (v : Option Addr) (n cap : Nat) (z : Nat → Int) (w : World) (hn : n ≤ 9223372036854775807) (h : In v n cap z w) :
    Calls Try.prog 10 #[.slice v n cap] w (fun e w' => e = .returned (.slice v (min n 100) cap) ∧ w = w') := few v n cap w hn h.room h.nils

theorem findsLaw (v : Option Addr) (n cap m : Nat) (mine : Int) (z : Nat → Int) (w : World) (hm : m < 18446744073709551616) (hn : n ≤ 9223372036854775807) (h : In v n cap z w) :
    Calls Try.prog 3 #[.slice v n cap, .int .i64 mine, .int .u64 m] w (Yes w) := by
  have S := Lib.hid (fun w => shown w)
  have hI := Lib.hid h
  have FW := Lib.hid (fun w (h : In v n cap z w) => few' v n cap z w hn h)
  have IL : Hid (∀ w, In v n cap z w → In v (min n 100) cap z w) := Lib.hid fun w h => h.less (by omega)
  have hk : min n 100 ≤ 100 := by omega
  generalize min n 100 = k at *
  have B1 := Lib.hid (fun w (h : In v k cap z w) => busiest v k cap m mine z w hm h)
  have B2 := Lib.hid (fun w (h : In v k cap z w) => least v k cap m z w hm h)
  have B3 := Lib.hid (fun w (h : In v k cap z w) => idle v k cap m z w hm h)
  have R1 := Lib.hid (fun w (h : In v k cap z w) => refBusiest v k cap m mine z w hm (by omega) (Lib.hid h.lies))
  have R2 := Lib.hid (fun w (h : In v k cap z w) => refLeast v k cap m z w hm (by omega) (Lib.hid h.lies))
  have R3 := Lib.hid (fun w (h : In v k cap z w) => refIdle v k cap m z w hm (by omega) (Lib.hid h.lies))
  generalize bus z k mine m = r1 at *
  generalize lea z k m = r2 at *
  generalize idl z k m = r3 at *
  have hg := Below.refl w.heap.size w
  clear h
  go_enter Try.func3, Try.ntmps3
  go_wp2_with (first
    | (go_at_call 9; refine (S.out _).mono ?_; rintro e w' ⟨rfl, hg1⟩; replace hI := Lib.hid (hI.out.fresh hg1); replace hg := fresh_trans hg hg1; clear hg1)
    | (go_at_call 10; refine (FW.out _ hI.out).mono ?_; rintro e w' ⟨rfl, rfl⟩; replace hI := Lib.hid (IL.out _ hI.out))
    | (go_at_call 11; refine (B1.out _ hI.out).mono ?_; rintro e w' ⟨rfl, hg1⟩; replace hI := Lib.hid (hI.out.fresh hg1); replace hg := fresh_trans hg hg1; clear hg1)
    | (go_at_call 13; refine (B2.out _ hI.out).mono ?_; rintro e w' ⟨rfl, hg1⟩; replace hI := Lib.hid (hI.out.fresh hg1); replace hg := fresh_trans hg hg1; clear hg1)
    | (go_at_call 15; refine (B3.out _ hI.out).mono ?_; rintro e w' ⟨rfl, hg1⟩; replace hI := Lib.hid (hI.out.fresh hg1); replace hg := fresh_trans hg hg1; clear hg1)
    | (go_at_call 12; refine (R1.out _ hI.out).mono ?_; rintro e w' ⟨rfl, hg1⟩; replace hI := Lib.hid (hI.out.fresh hg1); replace hg := fresh_trans hg hg1; clear hg1)
    | (go_at_call 14; refine (R2.out _ hI.out).mono ?_; rintro e w' ⟨rfl, hg1⟩; replace hI := Lib.hid (hI.out.fresh hg1); replace hg := fresh_trans hg hg1; clear hg1)
    | (go_at_call 16; refine (R3.out _ hI.out).mono ?_; rintro e w' ⟨rfl, hg1⟩; replace hI := Lib.hid (hI.out.fresh hg1); replace hg := fresh_trans hg hg1; clear hg1))
  go_ret
  exact yes_of (by simp) hg

theorem sumsLaw (v : Option Addr) (n cap : Nat) (a b : Int) (z : Nat → Int) (w : World) (ha : U64 a) (hb : U64 b) (hn : n ≤ 9223372036854775807) (h : In v n cap z w) :
    Calls Try.prog 4 #[.slice v n cap, .int .u64 a, .int .u64 b] w (Yes w) := by
  have S := Lib.hid (fun w => shown w)
  have hI := Lib.hid h
  have FW := Lib.hid (fun w (h : In v n cap z w) => few' v n cap z w hn h)
  have IL : Hid (∀ w, In v n cap z w → In v (min n 100) cap z w) := Lib.hid fun w h => h.less (by omega)
  have hk : min n 100 ≤ 100 := by omega
  generalize min n 100 = k at *
  have B1 := Lib.hid (fun w (h : In v k cap z w) => sums v k cap z w (by omega) (Lib.hid h.nums) (Lib.hid h.lies))
  have R1 := Lib.hid (fun w (h : In v k cap z w) => refSums v k cap z w (by omega) (Lib.hid h.nums) (Lib.hid h.lies))
  have B2 := Lib.hid (fun w => gaps a b w ha hb)
  have R2 := Lib.hid (fun w => refGaps a b w ha hb)
  generalize tot z k = r1 at *
  generalize gap a b = r2 at *
  have hg := Below.refl w.heap.size w
  clear h
  go_enter Try.func4, Try.ntmps4
  go_wp2_with (first
    | (go_at_call 9; refine (S.out _).mono ?_; rintro e w' ⟨rfl, hg1⟩; replace hI := Lib.hid (hI.out.fresh hg1); replace hg := fresh_trans hg hg1; clear hg1)
    | (go_at_call 10; refine (FW.out _ hI.out).mono ?_; rintro e w' ⟨rfl, rfl⟩; replace hI := Lib.hid (IL.out _ hI.out))
    | (go_at_call 17; refine (B1.out _ hI.out).mono ?_; rintro e w' ⟨rfl, rfl⟩)
    | (go_at_call 18; refine (R1.out _ hI.out).mono ?_; rintro e w' ⟨rfl, rfl⟩)
    | (go_at_call 19; refine (B2.out _).mono ?_; rintro e w' ⟨rfl, rfl⟩)
    | (go_at_call 20; refine (R2.out _).mono ?_; rintro e w' ⟨rfl, rfl⟩))
  go_ret
  exact yes_of (by simp) hg

/-- The first one without any is the least one, where that has none. -/
theorem idl_lea {z : Nat → Int} {n m p : Nat} (hz : ∀ j, j < n → 0 ≤ z j) (h : lea z n m = p) (hp : p < n) (h0 : z p = 0) : idl z n m = p := by
  refine best_only (pick_best _ _ _) ?_
  have hb := pick_best (may m) (fun j => - z j) n
  rw [show pick (may m) (fun j => - z j) n = (p : Int) from h] at hb
  rcases hb with ⟨e, _⟩ | ⟨q, e, hq, hS, hall⟩
  · omega
  · obtain rfl : p = q := by omega
    refine .inr ⟨p, rfl, hp, by simp [hS, h0], fun q hq hSq => .inr ⟨rfl, ?_⟩⟩
    simp at hSq
    have := hall q hq hSq.1
    simp only [] at this
    omega
theorem idl_gone {z : Nat → Int} {n m : Nat} (hz : ∀ j, j < n → 0 ≤ z j) (h : ∀ p : Nat, lea z n m = p → p < n → z p ≠ 0) : idl z n m = -1 := by
  refine best_only (pick_best _ _ _) (.inl ⟨rfl, fun j hj => ?_⟩)
  cases hm : may m j
  · simp [hm]
  · have hb := pick_best (may m) (fun j => - z j) n
    rcases hb with ⟨e, ha⟩ | ⟨q, e, hq, hS, hall⟩
    · rw [ha j hj] at hm; cases hm
    · have h1 := h q e hq
      have h2 := hall j hj hm
      have h3 := hz q hq
      simp only [] at h2
      have : z j ≠ 0 := by omega
      simp [hm, this]

theorem idlesLaw (v : Option Addr) (n cap m : Nat) (z : Nat → Int) (w : World) (hm : m < 18446744073709551616) (hn : n ≤ 9223372036854775807) (h : In v n cap z w) :
    Calls Try.prog 6 #[.slice v n cap, .int .u64 m] w (Yes w) := by
  have S := Lib.hid (fun w => shown w)
  have hI := Lib.hid h
  have FW := Lib.hid (fun w (h : In v n cap z w) => few' v n cap z w hn h)
  have IL : Hid (∀ w, In v n cap z w → In v (min n 100) cap z w) := Lib.hid fun w h => h.less (by omega)
  have hk : min n 100 ≤ 100 := by omega
  have hz := (h.less (k := min n 100) (by omega)).nums
  generalize min n 100 = k at *
  have B2 := Lib.hid (fun w (h : In v k cap z w) => least v k cap m z w hm h)
  have B3 := Lib.hid (fun w (h : In v k cap z w) => idle v k cap m z w hm h)
  have hg := Below.refl w.heap.size w
  have E1 := Lib.hid (fun p => idl_lea (z := z) (n := k) (m := m) (p := p) (fun j hj => (hz j hj).1))
  have E2 := Lib.hid (idl_gone (z := z) (n := k) (m := m) (fun j hj => (hz j hj).1))
  have hb := pick_bd (may m) (fun j => - z j) k
  change lea z k m = -1 ∨ ∃ p : Nat, lea z k m = p ∧ p < k ∧ may m p = true at hb
  generalize lea z k m = r2 at *
  generalize idl z k m = r3 at *
  clear h hz
  rcases hb with rfl | ⟨p, rfl, hp, -⟩
  · obtain rfl := E2.out (fun p h => by omega)
    go_enter Try.func6, Try.ntmps6
    go_wp2_with (first
      | (go_at_call 9; refine (S.out _).mono ?_; rintro e w' ⟨rfl, hg1⟩; replace hI := Lib.hid (hI.out.fresh hg1); replace hg := fresh_trans hg hg1; clear hg1)
      | (go_at_call 10; refine (FW.out _ hI.out).mono ?_; rintro e w' ⟨rfl, rfl⟩; replace hI := Lib.hid (IL.out _ hI.out))
      | (go_at_call 13; refine (B2.out _ hI.out).mono ?_; rintro e w' ⟨rfl, hg1⟩; replace hI := Lib.hid (hI.out.fresh hg1); replace hg := fresh_trans hg hg1; clear hg1)
      | (go_at_call 15; refine (B3.out _ hI.out).mono ?_; rintro e w' ⟨rfl, hg1⟩; replace hI := Lib.hid (hI.out.fresh hg1); replace hg := fresh_trans hg hg1; clear hg1))
    go_ret
    exact yes_of (by simp) hg
  · by_cases h0 : z p = 0
    · obtain rfl := E1.out p rfl hp h0
      clear E1 E2
      have hp' : (p : Int) < k := by omega
      go_enter Try.func6, Try.ntmps6
      go_wp2_with (first
        | (go_at_call 9; refine (S.out _).mono ?_; rintro e w' ⟨rfl, hg1⟩; replace hI := Lib.hid (hI.out.fresh hg1); replace hg := fresh_trans hg hg1; clear hg1)
        | (go_at_call 10; refine (FW.out _ hI.out).mono ?_; rintro e w' ⟨rfl, rfl⟩; replace hI := Lib.hid (IL.out _ hI.out))
        | (go_at_call 13; refine (B2.out _ hI.out).mono ?_; rintro e w' ⟨rfl, hg1⟩; replace hI := Lib.hid (hI.out.fresh hg1); replace hg := fresh_trans hg hg1; clear hg1; obtain ⟨b, o, rfl, hbl, hc⟩ := hI.out.lies p hp; rw [h0] at hc)
        | (go_at_call 15; refine (B3.out _ hI.out).mono ?_; rintro e w' ⟨rfl, hg1⟩; replace hI := Lib.hid (hI.out.fresh hg1); replace hg := fresh_trans hg hg1; clear hg1))
      go_ret
      exact yes_of (by simp) hg
    · obtain rfl := E2.out (fun q h hq => by have : q = p := by omega
                                             subst this; exact h0)
      clear E1 E2
      have hp' : (p : Int) < k := by omega
      have h0' : (z p == 0) = false := by simpa using h0
      go_enter Try.func6, Try.ntmps6
      go_wp2_with (first
        | (go_at_call 9; refine (S.out _).mono ?_; rintro e w' ⟨rfl, hg1⟩; replace hI := Lib.hid (hI.out.fresh hg1); replace hg := fresh_trans hg hg1; clear hg1)
        | (go_at_call 10; refine (FW.out _ hI.out).mono ?_; rintro e w' ⟨rfl, rfl⟩; replace hI := Lib.hid (IL.out _ hI.out))
        | (go_at_call 13; refine (B2.out _ hI.out).mono ?_; rintro e w' ⟨rfl, hg1⟩; replace hI := Lib.hid (hI.out.fresh hg1); replace hg := fresh_trans hg hg1; clear hg1; obtain ⟨b, o, rfl, hbl, hc⟩ := hI.out.lies p hp)
        | (go_at_call 15; refine (B3.out _ hI.out).mono ?_; rintro e w' ⟨rfl, hg1⟩; replace hI := Lib.hid (hI.out.fresh hg1); replace hg := fresh_trans hg hg1; clear hg1))
      go_ret
      exact yes_of (by simp) hg
end Go.Proofs.Ytijocgpbifgifaa.Load
