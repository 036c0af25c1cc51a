/- How long a slice is; a clock's Tick. Conditions: as each fact states them. -/
import Derived.Test.YtfbnnkmjnolnlaaTurnMem
import Derived.Deep.QuietTactic
import Derived.BigQuiet
import Derived.BigRegion
import Derived.Deep.RegionWith
import Derived.Deep.RegionHeld3
namespace Go.Proofs.Ytfbnnkmjnolnlaa.Turn
open Go.ChangeShapes Go.WideShapes Go.ChangeAt Go.RowKit Mem
set_option linter.unusedVariables false
set_option linter.unusedSimpArgs false

theorem slice_all (l x d : Int) (h : d ≤ x) : slice l x d = l := if_pos h
theorem slice_max (l x d : Int) (h : ¬ d ≤ x) : slice l x d = max (Wide.quo l x d) 1 := by unfold slice; rw [if_neg h]; split <;> omega
theorem slices (w : World) (l x d : Int) (hl : U64 l) (hx : U64 x) (hd : U64 d) : Calls Try.prog 21 #[.int .u64 l, .int .u64 x, .int .u64 d] w (Fresh (.int .u64 (slice l x d)) w) := by
  have M := Lib.hid (fun W => Wide.mulDiv l x d W hl hx hd)
  by_cases h : d ≤ x
  · rw [slice_all _ _ _ h]
    go_enter Try.func21, Try.ntmps21
    go_wp2
    go_ret; exact ⟨rfl, Below.refl _ _⟩
  · rw [slice_max _ _ _ h]
    generalize Wide.quo l x d = q at *
    generalize Wide.rst l x d = r at *
    generalize Wide.can l x d = y at *
    have hw := Below.refl w.heap.size w
    go_enter Try.func21, Try.ntmps21
    go_wp2_with (go_at_call 28; refine (M.out _).mono ?_; rintro e w1 ⟨rfl, hg⟩)
    go_ret; exact ⟨rfl, hg⟩

theorem fv_new (w : World) (b j : Nat) : (w.alloc (.cells #[Fv b j] 64)).cell? ⟨w.heap.size, 0, none⟩ = some (Fv b j) := by
  rw [cell_of_row _ _ _ _ _ _ (heap_alloc_new w _)]; rfl
theorem tick_far (w : World) (b : Nat) (n x d : Int) (h : 1000000000 < n) : Calls Try.prog 13 #[.pointer (some ⟨b, 0, none⟩), .int .u64 n, .int .u64 x, .int .u64 d] w (Still (.tuple #[.bool false, .int .i64 8]) w) := by
  go_enter Try.func13, Try.ntmps13
  go_wp2
  go_ret2; exact ⟨rfl, rfl⟩
theorem tick_idle (w : World) (b : Nat) (O : Nat → Prop) (c : Ck) (n x d : Int) (h : Clock w b O c) (hO : ∀ k, O k → k < w.heap.size) (g : Good c) (hn : U64 n) (h1 : ¬ 1000000000 < n) (h2 : c.task < 0) :
    Calls Try.prog 13 #[.pointer (some ⟨b, 0, none⟩), .int .u64 n, .int .u64 x, .int .u64 d] w (Did (.tuple #[.bool false, .int .i64 0]) { c with idle := top (c.idle + n) } b O w) := by
  have e : c.task = -1 := by have := g.task.1; omega
  have K := h.fresh (alloc1 w (.cells #[Fv b 4] 64))
  obtain ⟨k0, k1, k2, k3, k4, kz⟩ := K.cells
  have P := Lib.hid (pass1 _ b 4 w.heap.size c.idle n g.idle hn k4 (kz 4) (fv_new w b 4))
  have R : Hid (∀ W, W = (w.alloc (.cells #[Fv b 4] 64)).setCell ⟨b, 4, none⟩ (.int .u64 (top (c.idle + n))) → Clock W b O { c with idle := top (c.idle + n) } ∧ Same O w W) :=
    Lib.hid (by rintro W rfl; exact ⟨K.setIdle _, K.same ((Same.refl O w).alloc hO _) _ _⟩)
  obtain ⟨c0, c1, c2, c3, c4, fz⟩ := h.cells
  rw [e] at c1
  clear h K k0 k1 k2 k3 k4 kz g hO
  unfold Fv at P R
  go_enter Try.func13, Try.ntmps13
  go_wp2_with (go_at_call 25; refine P.out.mono ?_; rintro e w1 ⟨rfl, rfl⟩)
  go_ret2
  exact ⟨rfl, R.out _ rfl⟩
theorem fv_two (w : World) (b j k : Nat) : (w.alloc (.cells #[Fv b j, Fv b k] 64)).cell? ⟨w.heap.size, 0, none⟩ = some (Fv b j) ∧ (w.alloc (.cells #[Fv b j, Fv b k] 64)).cell? ⟨w.heap.size, 1, none⟩ = some (Fv b k) := by
  constructor <;> (rw [cell_of_row _ _ _ _ _ _ (heap_alloc_new w _)]; rfl)
theorem pass_busy (w : World) (b : Nat) (O : Nat → Prop) (c : Ck) (n : Int) (h : Clock w b O c) (hO : ∀ k, O k → k < w.heap.size) (g : Good c) (hn : U64 n) :
    Calls Try.prog 25 #[.int .u64 n, .slice (some ⟨w.heap.size, 0, none⟩) 2 2] (w.alloc (.cells #[Fv b 2, Fv b 3] 64)) (Did (.tuple #[]) { c with ran := top (c.ran + n), busy := top (c.busy + n) } b O w) := by
  have K := h.fresh (alloc1 w (.cells #[Fv b 2, Fv b 3] 64))
  have hS : Same O w (w.alloc (.cells #[Fv b 2, Fv b 3] 64)) := (Same.refl O w).alloc hO _
  obtain ⟨f0, f1⟩ := fv_two w b 2 3
  have K2 := K.setRan (top (c.ran + n))
  have hS2 := K.same hS 2 (.int .u64 (top (c.ran + n)))
  obtain ⟨k0, k1, k2, k3, k4, kz⟩ := K.cells
  obtain ⟨m0, m1, m2, m3, m4, mz⟩ := K2.cells
  have hne : b ≠ w.heap.size := by have := h.lt; omega
  refine (pass2 _ b 2 3 w.heap.size c.ran c.busy n g.ran g.busy hn k2 (kz 2) m3 (mz 3) f0 ((World.cell?_of_block (Below.heap_setCell _ _ _ _ (fun e => hne e.symm))).trans f1)).mono ?_
  rintro e w1 ⟨rfl, rfl⟩
  exact ⟨rfl, K2.setBusy (top (c.busy + n)), K2.same hS2 3 (.int .u64 (top (c.busy + n)))⟩
theorem tick_busy (w : World) (b : Nat) (O : Nat → Prop) (c : Ck) (n x d : Int) (h : Clock w b O c) (hO : ∀ k, O k → k < w.heap.size) (g : Good c) (hn : U64 n) (hx : U64 x) (hd : U64 d) (h1 : ¬ 1000000000 < n) (h2 : ¬ c.task < 0) :
    Calls Try.prog 13 #[.pointer (some ⟨b, 0, none⟩), .int .u64 n, .int .u64 x, .int .u64 d] w (Did (.tuple #[.bool (decide (slice c.lat x d ≤ top (c.ran + n))), .int .i64 0]) { c with ran := top (c.ran + n), busy := top (c.busy + n) } b O w) := by
  have P := Lib.hid (pass_busy w b O c n h hO g hn)
  have P2 := Lib.hid (pass_busy w.drew b O c n h.drew (by simpa using hO) g hn)
  have SL := Lib.hid (fun W => slices W c.lat x d g.lat hx hd)
  have HO := Lib.hid hO
  obtain ⟨c0, c1, c2, c3, c4, fz⟩ := h.cells
  have e : (c.task == -1) = false := by simp; omega
  clear h h2 g hO
  obtain ⟨r, hr⟩ : ∃ r, top (c.ran + n) = r := ⟨_, rfl⟩
  rw [hr] at P P2 ⊢
  clear hr
  generalize top (c.busy + n) = y at *
  generalize c.task = s at *
  generalize slice c.lat x d = z at *
  unfold Fv at P P2
  go_enter Try.func13, Try.ntmps13
  go_wp2
  go_region_with (go_at_call 25; (first | refine P.out.mono ?_ | refine P2.out.mono ?_); rintro e w1 ⟨rfl, K, S⟩)
  all_goals
    have S1 : Same O w w1 := by first | exact S | exact ⟨S.os, S.tape, S.output, S.size, S.block⟩
    have R := Lib.hid (fun W1 (hg : Below w1.heap.size w1 W1) => (⟨K.fresh hg, S1.trans (Same.of hg (fun k hk => Nat.lt_of_lt_of_le (HO.out k hk) S1.size))⟩ : Clock W1 b O _ ∧ Same O w W1))
    have RN := Lib.hid (fun W1 (hg : Below w1.heap.size w1 W1) => ran W1 b O _ (K.fresh hg))
    have L := Lib.hid (fun W1 (hg : Below w1.heap.size w1 W1) => (K.fresh hg).cells.1)
    have l0 := K.cells.1
    simp only at l0
    have hB1 := Lib.hid (Below.refl w1.heap.size w1)
    clear P P2 K S S1 c0 c1 c2 c3 c4 fz
    go_wp2
    go_region_held3 (fun w' => w'.cell? ⟨b, 0, none⟩ = some (.int .u64 c.lat)) (first | exact l0 | exact l1)
      (first
        | (go_at_call 18; refine (RN.out _ (by first | exact Below.refl _ _ | exact (Below.refl _ _).drew | exact hg2 | exact hg2.drew)).mono ?_; rintro e w3 ⟨rfl, rfl⟩)
        | (go_at_call 21; refine (SL.out _).mono ?_; rintro e w2 ⟨rfl, hg2⟩; replace hg2 : Below w1.heap.size w1 w2 := (by first | exact hg2 | exact ⟨hg2.os, hg2.tape, hg2.output, hg2.size, hg2.block⟩); have l1 := L.out _ hg2))
    all_goals
      go_wp2
      go_ret2
      exact ⟨rfl, R.out _ (by first | exact hg2 | exact hg2.drew)⟩
theorem tick (w : World) (b : Nat) (O : Nat → Prop) (c : Ck) (n x d : Int) (h : Clock w b O c) (hO : ∀ k, O k → k < w.heap.size) (g : Good c) (hn : U64 n) (hx : U64 x) (hd : U64 d) :
    Calls Try.prog 13 #[.pointer (some ⟨b, 0, none⟩), .int .u64 n, .int .u64 x, .int .u64 d] w (Did (.tuple #[.bool (tickB c n x d), .int .i64 (tickE n)]) (tickS c n) b O w) := by
  unfold tickB tickE tickS
  by_cases h1 : 1000000000 < n
  · simp only [if_pos h1]
    refine (tick_far w b n x d h1).mono ?_
    rintro e w1 ⟨rfl, rfl⟩
    exact ⟨rfl, h, Same.refl _ _⟩
  · simp only [if_neg h1]
    by_cases h2 : c.task < 0
    · simp only [if_pos h2]
      exact tick_idle w b O c n x d h hO g hn h1 h2
    · simp only [if_neg h2]
      exact tick_busy w b O c n x d h hO g hn hx hd h1 h2
end Go.Proofs.Ytfbnnkmjnolnlaa.Turn
