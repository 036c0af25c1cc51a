/- What the document's field makes of what was read so far, a number's letter and any text. Conditions: the letter is one of the four; the text is of at most 2^40 bytes. -/
import Derived.Test.YtikdhfedidknpaaDoorEventDocH
namespace Go.Proofs.YtikdhfedidknpaaDoor.Event
open Go.ChangeShapes Go.WideShapes Go.ChangeAt Go.RowKit
open Mem (box_fresh set_block one_grown box_kept box_new)
set_option linter.unusedVariables false
set_option linter.unusedSimpArgs false
set_option maxRecDepth 100000

set_option maxHeartbeats 4000000 in
theorem doc_a (g : Got) (l : List UInt8) (hl : l.length ≤ 1099511627776) (w : World) : Calls Tryd.prog 36 #[gotV g, .int .u8 97, .string (str l)] w (IsGot (field MK g 97 l) w) := by
  have hB := Bx.new w g
  have NU := Lib.hid (fun (w : World) => number_doc l (by omega) w)
  obtain ⟨T, hT⟩ : ∃ T, T = field MK g 97 l := ⟨_, rfl⟩
  have HD := Lib.hid hT
  rw [← hT]
  clear hT
  obtain ⟨⟨k, a, b, n, m, s⟩, bad⟩ := g
  unfold gotV gotC Got.zero Ev.zero at *
  simp only at *
  generalize str l = F at *
  go_enter Tryd.func36, Tryd.ntmps36
  go_upto_region 1 with fail
  generalize World.alloc _ _ = W at *
  go_upto_region 12 with (go_at_call 49; refine (NU.out _).mono ?_; rintro e w2 ⟨N, is, rfl, hnum, hNr, hh⟩; replace hB := hB.fresh hh; clear hh)
  clear NU
  cases is with
  | false =>
    have hTb : Hid (T.bad = 11) := Lib.hid (by
      rw [HD.out]
      unfold field numBad
      rw [if_neg (by decide), show numOf l = none from hnum]
      rfl)
    clear HD hnum
    obtain ⟨x0, x1, x2, x3, x4, x5, x6, xz⟩ := hB.1.seven
    simp only at x0 x1 x2 x3 x4 x5 x6

    go_upto_region 14 with fail
    clear x0 x1 x2 x3 x4 x5 x6 xz
    replace hB := hB.put (g' := ⟨⟨k, a, b, n, m, s⟩, 11⟩) 6 (.int .i64 11) rfl
    generalize World.setCell _ ⟨w.heap.size, 6, none⟩ _ = W5 at *

    obtain ⟨x0, x1, x2, x3, x4, x5, x6, xz⟩ := hB.1.seven
    simp only at x0 x1 x2 x3 x4 x5 x6

    go_upto_region 23 with fail
    clear x0 x1 x2 x3 x4 x5 x6 xz
    replace hB := hB.put (g' := ⟨⟨k, N, b, n, m, s⟩, 11⟩) 1 (.int .i64 N) rfl
    generalize World.setCell _ ⟨w.heap.size, 1, none⟩ _ = W6 at *

    obtain ⟨x0, x1, x2, x3, x4, x5, x6, xz⟩ := hB.1.seven
    obtain ⟨y0, y1, y2, y3, y4, y5, y6, yz⟩ := hB.2.1.seven
    obtain ⟨F1, F2⟩ := hB.done (T := T) ⟨hTb.out.symm, fun h => by have h2 := hTb.out; rw [h] at h2; cases h2⟩
    have G := Lib.hid F2.seven
    replace F1 := Lib.hid F1
    unfold put7 Got.zero Ev.zero at *
    simp only at *
    clear hB F2
    go_wp2_with fail
    obtain ⟨z0, z1, z2, z3, z4, z5, z6, _⟩ := G.out
    have F3 := F1.out
    clear G F1
    generalize World.setCell _ ⟨w.heap.size + 1, 6, none⟩ _ = WF at *
    refine bodyPost_ret (v := .agg #[.int .i64 k, .int .i64 N, .int .i64 b, .int .i64 n, .int .i64 m, .int .u64 (s : Int), .int .i64 11]) (by simp [results, Tryd.results36, go_sem, z0, z1, z2, z3, z4, z5, z6]) rfl ?_
    exact F3
  | true =>
    have hnum' : numOf l = some N := hnum
    clear hnum
    by_cases hlow : N < 0
    · have hTb : Hid (T.bad = 11) := Lib.hid (by
        rw [HD.out]
        unfold field numBad
        rw [if_neg (by decide), hnum']
        simp [hlow])
      clear HD hnum'
      obtain ⟨x0, x1, x2, x3, x4, x5, x6, xz⟩ := hB.1.seven
      simp only at x0 x1 x2 x3 x4 x5 x6

      go_upto_region 14 with fail
      clear x0 x1 x2 x3 x4 x5 x6 xz
      replace hB := hB.put (g' := ⟨⟨k, a, b, n, m, s⟩, 11⟩) 6 (.int .i64 11) rfl
      generalize World.setCell _ ⟨w.heap.size, 6, none⟩ _ = W5 at *

      obtain ⟨x0, x1, x2, x3, x4, x5, x6, xz⟩ := hB.1.seven
      simp only at x0 x1 x2 x3 x4 x5 x6

      go_upto_region 23 with fail
      clear x0 x1 x2 x3 x4 x5 x6 xz
      replace hB := hB.put (g' := ⟨⟨k, N, b, n, m, s⟩, 11⟩) 1 (.int .i64 N) rfl
      generalize World.setCell _ ⟨w.heap.size, 1, none⟩ _ = W6 at *

      obtain ⟨x0, x1, x2, x3, x4, x5, x6, xz⟩ := hB.1.seven
      obtain ⟨y0, y1, y2, y3, y4, y5, y6, yz⟩ := hB.2.1.seven
      obtain ⟨F1, F2⟩ := hB.done (T := T) ⟨hTb.out.symm, fun h => by have h2 := hTb.out; rw [h] at h2; cases h2⟩
      have G := Lib.hid F2.seven
      replace F1 := Lib.hid F1
      unfold put7 Got.zero Ev.zero at *
      simp only at *
      clear hB F2
      go_wp2_with fail
      obtain ⟨z0, z1, z2, z3, z4, z5, z6, _⟩ := G.out
      have F3 := F1.out
      clear G F1
      generalize World.setCell _ ⟨w.heap.size + 1, 6, none⟩ _ = WF at *
      refine bodyPost_ret (v := .agg #[.int .i64 k, .int .i64 N, .int .i64 b, .int .i64 n, .int .i64 m, .int .u64 (s : Int), .int .i64 11]) (by simp [results, Tryd.results36, go_sem, z0, z1, z2, z3, z4, z5, z6]) rfl ?_
      exact F3
    · have hTb : Hid (T = ⟨⟨k, N, b, n, m, s⟩, bad⟩) := Lib.hid (by
        rw [HD.out]
        unfold field numBad
        rw [if_neg (by decide), hnum']
        simp [hlow, putN])
      clear HD hnum'
      obtain ⟨x0, x1, x2, x3, x4, x5, x6, xz⟩ := hB.1.seven
      simp only at x0 x1 x2 x3 x4 x5 x6

      go_upto_region 23 with fail
      clear x0 x1 x2 x3 x4 x5 x6 xz
      replace hB := hB.put (g' := ⟨⟨k, N, b, n, m, s⟩, bad⟩) 1 (.int .i64 N) rfl
      generalize World.setCell _ ⟨w.heap.size, 1, none⟩ _ = W6 at *

      obtain ⟨x0, x1, x2, x3, x4, x5, x6, xz⟩ := hB.1.seven
      obtain ⟨y0, y1, y2, y3, y4, y5, y6, yz⟩ := hB.2.1.seven
      obtain ⟨F1, F2⟩ := hB.done (T := T) (by rw [hTb.out]; exact ⟨rfl, fun _ => rfl⟩)
      have G := Lib.hid F2.seven
      replace F1 := Lib.hid F1
      unfold put7 Got.zero Ev.zero at *
      simp only at *
      clear hB F2
      go_wp2_with fail
      obtain ⟨z0, z1, z2, z3, z4, z5, z6, _⟩ := G.out
      have F3 := F1.out
      clear G F1
      generalize World.setCell _ ⟨w.heap.size + 1, 6, none⟩ _ = WF at *
      refine bodyPost_ret (v := .agg #[.int .i64 k, .int .i64 N, .int .i64 b, .int .i64 n, .int .i64 m, .int .u64 (s : Int), .int .i64 bad]) (by simp [results, Tryd.results36, go_sem, z0, z1, z2, z3, z4, z5, z6]) rfl ?_
      exact F3

set_option maxHeartbeats 4000000 in
theorem doc_b (g : Got) (l : List UInt8) (hl : l.length ≤ 1099511627776) (w : World) : Calls Tryd.prog 36 #[gotV g, .int .u8 98, .string (str l)] w (IsGot (field MK g 98 l) w) := by
  have hB := Bx.new w g
  have NU := Lib.hid (fun (w : World) => number_doc l (by omega) w)
  obtain ⟨T, hT⟩ : ∃ T, T = field MK g 98 l := ⟨_, rfl⟩
  have HD := Lib.hid hT
  rw [← hT]
  clear hT
  obtain ⟨⟨k, a, b, n, m, s⟩, bad⟩ := g
  unfold gotV gotC Got.zero Ev.zero at *
  simp only at *
  generalize str l = F at *
  go_enter Tryd.func36, Tryd.ntmps36
  go_upto_region 1 with fail
  generalize World.alloc _ _ = W at *
  go_upto_region 12 with (go_at_call 49; refine (NU.out _).mono ?_; rintro e w2 ⟨N, is, rfl, hnum, hNr, hh⟩; replace hB := hB.fresh hh; clear hh)
  clear NU
  cases is with
  | false =>
    have hTb : Hid (T.bad = 11) := Lib.hid (by
      rw [HD.out]
      unfold field numBad
      rw [if_neg (by decide), show numOf l = none from hnum]
      rfl)
    clear HD hnum
    obtain ⟨x0, x1, x2, x3, x4, x5, x6, xz⟩ := hB.1.seven
    simp only at x0 x1 x2 x3 x4 x5 x6

    go_upto_region 14 with fail
    clear x0 x1 x2 x3 x4 x5 x6 xz
    replace hB := hB.put (g' := ⟨⟨k, a, b, n, m, s⟩, 11⟩) 6 (.int .i64 11) rfl
    generalize World.setCell _ ⟨w.heap.size, 6, none⟩ _ = W5 at *

    obtain ⟨x0, x1, x2, x3, x4, x5, x6, xz⟩ := hB.1.seven
    simp only at x0 x1 x2 x3 x4 x5 x6

    go_upto_region 23 with fail
    clear x0 x1 x2 x3 x4 x5 x6 xz
    replace hB := hB.put (g' := ⟨⟨k, a, N, n, m, s⟩, 11⟩) 2 (.int .i64 N) rfl
    generalize World.setCell _ ⟨w.heap.size, 2, none⟩ _ = W6 at *

    obtain ⟨x0, x1, x2, x3, x4, x5, x6, xz⟩ := hB.1.seven
    obtain ⟨y0, y1, y2, y3, y4, y5, y6, yz⟩ := hB.2.1.seven
    obtain ⟨F1, F2⟩ := hB.done (T := T) ⟨hTb.out.symm, fun h => by have h2 := hTb.out; rw [h] at h2; cases h2⟩
    have G := Lib.hid F2.seven
    replace F1 := Lib.hid F1
    unfold put7 Got.zero Ev.zero at *
    simp only at *
    clear hB F2
    go_wp2_with fail
    obtain ⟨z0, z1, z2, z3, z4, z5, z6, _⟩ := G.out
    have F3 := F1.out
    clear G F1
    generalize World.setCell _ ⟨w.heap.size + 1, 6, none⟩ _ = WF at *
    refine bodyPost_ret (v := .agg #[.int .i64 k, .int .i64 a, .int .i64 N, .int .i64 n, .int .i64 m, .int .u64 (s : Int), .int .i64 11]) (by simp [results, Tryd.results36, go_sem, z0, z1, z2, z3, z4, z5, z6]) rfl ?_
    exact F3
  | true =>
    have hnum' : numOf l = some N := hnum
    clear hnum
    by_cases hlow : N < 0
    · have hTb : Hid (T.bad = 11) := Lib.hid (by
        rw [HD.out]
        unfold field numBad
        rw [if_neg (by decide), hnum']
        simp [hlow])
      clear HD hnum'
      obtain ⟨x0, x1, x2, x3, x4, x5, x6, xz⟩ := hB.1.seven
      simp only at x0 x1 x2 x3 x4 x5 x6

      go_upto_region 14 with fail
      clear x0 x1 x2 x3 x4 x5 x6 xz
      replace hB := hB.put (g' := ⟨⟨k, a, b, n, m, s⟩, 11⟩) 6 (.int .i64 11) rfl
      generalize World.setCell _ ⟨w.heap.size, 6, none⟩ _ = W5 at *

      obtain ⟨x0, x1, x2, x3, x4, x5, x6, xz⟩ := hB.1.seven
      simp only at x0 x1 x2 x3 x4 x5 x6

      go_upto_region 23 with fail
      clear x0 x1 x2 x3 x4 x5 x6 xz
      replace hB := hB.put (g' := ⟨⟨k, a, N, n, m, s⟩, 11⟩) 2 (.int .i64 N) rfl
      generalize World.setCell _ ⟨w.heap.size, 2, none⟩ _ = W6 at *

      obtain ⟨x0, x1, x2, x3, x4, x5, x6, xz⟩ := hB.1.seven
      obtain ⟨y0, y1, y2, y3, y4, y5, y6, yz⟩ := hB.2.1.seven
      obtain ⟨F1, F2⟩ := hB.done (T := T) ⟨hTb.out.symm, fun h => by have h2 := hTb.out; rw [h] at h2; cases h2⟩
      have G := Lib.hid F2.seven
      replace F1 := Lib.hid F1
      unfold put7 Got.zero Ev.zero at *
      simp only at *
      clear hB F2
      go_wp2_with fail
      obtain ⟨z0, z1, z2, z3, z4, z5, z6, _⟩ := G.out
      have F3 := F1.out
      clear G F1
      generalize World.setCell _ ⟨w.heap.size + 1, 6, none⟩ _ = WF at *
      refine bodyPost_ret (v := .agg #[.int .i64 k, .int .i64 a, .int .i64 N, .int .i64 n, .int .i64 m, .int .u64 (s : Int), .int .i64 11]) (by simp [results, Tryd.results36, go_sem, z0, z1, z2, z3, z4, z5, z6]) rfl ?_
      exact F3
    · have hTb : Hid (T = ⟨⟨k, a, N, n, m, s⟩, bad⟩) := Lib.hid (by
        rw [HD.out]
        unfold field numBad
        rw [if_neg (by decide), hnum']
        simp [hlow, putN])
      clear HD hnum'
      obtain ⟨x0, x1, x2, x3, x4, x5, x6, xz⟩ := hB.1.seven
      simp only at x0 x1 x2 x3 x4 x5 x6

      go_upto_region 23 with fail
      clear x0 x1 x2 x3 x4 x5 x6 xz
      replace hB := hB.put (g' := ⟨⟨k, a, N, n, m, s⟩, bad⟩) 2 (.int .i64 N) rfl
      generalize World.setCell _ ⟨w.heap.size, 2, none⟩ _ = W6 at *

      obtain ⟨x0, x1, x2, x3, x4, x5, x6, xz⟩ := hB.1.seven
      obtain ⟨y0, y1, y2, y3, y4, y5, y6, yz⟩ := hB.2.1.seven
      obtain ⟨F1, F2⟩ := hB.done (T := T) (by rw [hTb.out]; exact ⟨rfl, fun _ => rfl⟩)
      have G := Lib.hid F2.seven
      replace F1 := Lib.hid F1
      unfold put7 Got.zero Ev.zero at *
      simp only at *
      clear hB F2
      go_wp2_with fail
      obtain ⟨z0, z1, z2, z3, z4, z5, z6, _⟩ := G.out
      have F3 := F1.out
      clear G F1
      generalize World.setCell _ ⟨w.heap.size + 1, 6, none⟩ _ = WF at *
      refine bodyPost_ret (v := .agg #[.int .i64 k, .int .i64 a, .int .i64 N, .int .i64 n, .int .i64 m, .int .u64 (s : Int), .int .i64 bad]) (by simp [results, Tryd.results36, go_sem, z0, z1, z2, z3, z4, z5, z6]) rfl ?_
      exact F3

set_option maxHeartbeats 4000000 in
theorem doc_n (g : Got) (l : List UInt8) (hl : l.length ≤ 1099511627776) (w : World) : Calls Tryd.prog 36 #[gotV g, .int .u8 110, .string (str l)] w (IsGot (field MK g 110 l) w) := by
  have hB := Bx.new w g
  have NU := Lib.hid (fun (w : World) => number_doc l (by omega) w)
  obtain ⟨T, hT⟩ : ∃ T, T = field MK g 110 l := ⟨_, rfl⟩
  have HD := Lib.hid hT
  rw [← hT]
  clear hT
  obtain ⟨⟨k, a, b, n, m, s⟩, bad⟩ := g
  unfold gotV gotC Got.zero Ev.zero at *
  simp only at *
  generalize str l = F at *
  go_enter Tryd.func36, Tryd.ntmps36
  go_upto_region 1 with fail
  generalize World.alloc _ _ = W at *
  go_upto_region 12 with (go_at_call 49; refine (NU.out _).mono ?_; rintro e w2 ⟨N, is, rfl, hnum, hNr, hh⟩; replace hB := hB.fresh hh; clear hh)
  clear NU
  cases is with
  | false =>
    have hTb : Hid (T.bad = 11) := Lib.hid (by
      rw [HD.out]
      unfold field numBad
      rw [if_neg (by decide), show numOf l = none from hnum]
      rfl)
    clear HD hnum
    obtain ⟨x0, x1, x2, x3, x4, x5, x6, xz⟩ := hB.1.seven
    simp only at x0 x1 x2 x3 x4 x5 x6

    go_upto_region 14 with fail
    clear x0 x1 x2 x3 x4 x5 x6 xz
    replace hB := hB.put (g' := ⟨⟨k, a, b, n, m, s⟩, 11⟩) 6 (.int .i64 11) rfl
    generalize World.setCell _ ⟨w.heap.size, 6, none⟩ _ = W5 at *

    obtain ⟨x0, x1, x2, x3, x4, x5, x6, xz⟩ := hB.1.seven
    simp only at x0 x1 x2 x3 x4 x5 x6

    go_upto_region 23 with fail
    clear x0 x1 x2 x3 x4 x5 x6 xz
    replace hB := hB.put (g' := ⟨⟨k, a, b, N, m, s⟩, 11⟩) 3 (.int .i64 N) rfl
    generalize World.setCell _ ⟨w.heap.size, 3, none⟩ _ = W6 at *

    obtain ⟨x0, x1, x2, x3, x4, x5, x6, xz⟩ := hB.1.seven
    obtain ⟨y0, y1, y2, y3, y4, y5, y6, yz⟩ := hB.2.1.seven
    obtain ⟨F1, F2⟩ := hB.done (T := T) ⟨hTb.out.symm, fun h => by have h2 := hTb.out; rw [h] at h2; cases h2⟩
    have G := Lib.hid F2.seven
    replace F1 := Lib.hid F1
    unfold put7 Got.zero Ev.zero at *
    simp only at *
    clear hB F2
    go_wp2_with fail
    obtain ⟨z0, z1, z2, z3, z4, z5, z6, _⟩ := G.out
    have F3 := F1.out
    clear G F1
    generalize World.setCell _ ⟨w.heap.size + 1, 6, none⟩ _ = WF at *
    refine bodyPost_ret (v := .agg #[.int .i64 k, .int .i64 a, .int .i64 b, .int .i64 N, .int .i64 m, .int .u64 (s : Int), .int .i64 11]) (by simp [results, Tryd.results36, go_sem, z0, z1, z2, z3, z4, z5, z6]) rfl ?_
    exact F3
  | true =>
    have hnum' : numOf l = some N := hnum
    clear hnum
    by_cases hlow : N < 0
    · have hTb : Hid (T = ⟨⟨k, a, b, N, m, s⟩, bad⟩) := Lib.hid (by
        rw [HD.out]
        unfold field numBad
        rw [if_neg (by decide), hnum']
        simp [hlow, putN])
      clear HD hnum'
      obtain ⟨x0, x1, x2, x3, x4, x5, x6, xz⟩ := hB.1.seven
      simp only at x0 x1 x2 x3 x4 x5 x6

      go_upto_region 23 with fail
      clear x0 x1 x2 x3 x4 x5 x6 xz
      replace hB := hB.put (g' := ⟨⟨k, a, b, N, m, s⟩, bad⟩) 3 (.int .i64 N) rfl
      generalize World.setCell _ ⟨w.heap.size, 3, none⟩ _ = W6 at *

      obtain ⟨x0, x1, x2, x3, x4, x5, x6, xz⟩ := hB.1.seven
      obtain ⟨y0, y1, y2, y3, y4, y5, y6, yz⟩ := hB.2.1.seven
      obtain ⟨F1, F2⟩ := hB.done (T := T) (by rw [hTb.out]; exact ⟨rfl, fun _ => rfl⟩)
      have G := Lib.hid F2.seven
      replace F1 := Lib.hid F1
      unfold put7 Got.zero Ev.zero at *
      simp only at *
      clear hB F2
      go_wp2_with fail
      obtain ⟨z0, z1, z2, z3, z4, z5, z6, _⟩ := G.out
      have F3 := F1.out
      clear G F1
      generalize World.setCell _ ⟨w.heap.size + 1, 6, none⟩ _ = WF at *
      refine bodyPost_ret (v := .agg #[.int .i64 k, .int .i64 a, .int .i64 b, .int .i64 N, .int .i64 m, .int .u64 (s : Int), .int .i64 bad]) (by simp [results, Tryd.results36, go_sem, z0, z1, z2, z3, z4, z5, z6]) rfl ?_
      exact F3
    · have hTb : Hid (T = ⟨⟨k, a, b, N, m, s⟩, bad⟩) := Lib.hid (by
        rw [HD.out]
        unfold field numBad
        rw [if_neg (by decide), hnum']
        simp [hlow, putN])
      clear HD hnum'
      obtain ⟨x0, x1, x2, x3, x4, x5, x6, xz⟩ := hB.1.seven
      simp only at x0 x1 x2 x3 x4 x5 x6

      go_upto_region 23 with fail
      clear x0 x1 x2 x3 x4 x5 x6 xz
      replace hB := hB.put (g' := ⟨⟨k, a, b, N, m, s⟩, bad⟩) 3 (.int .i64 N) rfl
      generalize World.setCell _ ⟨w.heap.size, 3, none⟩ _ = W6 at *

      obtain ⟨x0, x1, x2, x3, x4, x5, x6, xz⟩ := hB.1.seven
      obtain ⟨y0, y1, y2, y3, y4, y5, y6, yz⟩ := hB.2.1.seven
      obtain ⟨F1, F2⟩ := hB.done (T := T) (by rw [hTb.out]; exact ⟨rfl, fun _ => rfl⟩)
      have G := Lib.hid F2.seven
      replace F1 := Lib.hid F1
      unfold put7 Got.zero Ev.zero at *
      simp only at *
      clear hB F2
      go_wp2_with fail
      obtain ⟨z0, z1, z2, z3, z4, z5, z6, _⟩ := G.out
      have F3 := F1.out
      clear G F1
      generalize World.setCell _ ⟨w.heap.size + 1, 6, none⟩ _ = WF at *
      refine bodyPost_ret (v := .agg #[.int .i64 k, .int .i64 a, .int .i64 b, .int .i64 N, .int .i64 m, .int .u64 (s : Int), .int .i64 bad]) (by simp [results, Tryd.results36, go_sem, z0, z1, z2, z3, z4, z5, z6]) rfl ?_
      exact F3

set_option maxHeartbeats 4000000 in
theorem doc_m (g : Got) (l : List UInt8) (hl : l.length ≤ 1099511627776) (w : World) : Calls Tryd.prog 36 #[gotV g, .int .u8 109, .string (str l)] w (IsGot (field MK g 109 l) w) := by
  have hB := Bx.new w g
  have NU := Lib.hid (fun (w : World) => number_doc l (by omega) w)
  obtain ⟨T, hT⟩ : ∃ T, T = field MK g 109 l := ⟨_, rfl⟩
  have HD := Lib.hid hT
  rw [← hT]
  clear hT
  obtain ⟨⟨k, a, b, n, m, s⟩, bad⟩ := g
  unfold gotV gotC Got.zero Ev.zero at *
  simp only at *
  generalize str l = F at *
  go_enter Tryd.func36, Tryd.ntmps36
  go_upto_region 1 with fail
  generalize World.alloc _ _ = W at *
  go_upto_region 12 with (go_at_call 49; refine (NU.out _).mono ?_; rintro e w2 ⟨N, is, rfl, hnum, hNr, hh⟩; replace hB := hB.fresh hh; clear hh)
  clear NU
  cases is with
  | false =>
    have hTb : Hid (T.bad = 11) := Lib.hid (by
      rw [HD.out]
      unfold field numBad
      rw [if_neg (by decide), show numOf l = none from hnum]
      rfl)
    clear HD hnum
    obtain ⟨x0, x1, x2, x3, x4, x5, x6, xz⟩ := hB.1.seven
    simp only at x0 x1 x2 x3 x4 x5 x6

    go_upto_region 14 with fail
    clear x0 x1 x2 x3 x4 x5 x6 xz
    replace hB := hB.put (g' := ⟨⟨k, a, b, n, m, s⟩, 11⟩) 6 (.int .i64 11) rfl
    generalize World.setCell _ ⟨w.heap.size, 6, none⟩ _ = W5 at *

    obtain ⟨x0, x1, x2, x3, x4, x5, x6, xz⟩ := hB.1.seven
    simp only at x0 x1 x2 x3 x4 x5 x6

    go_upto_region 23 with fail
    clear x0 x1 x2 x3 x4 x5 x6 xz
    replace hB := hB.put (g' := ⟨⟨k, a, b, n, N, s⟩, 11⟩) 4 (.int .i64 N) rfl
    generalize World.setCell _ ⟨w.heap.size, 4, none⟩ _ = W6 at *

    obtain ⟨x0, x1, x2, x3, x4, x5, x6, xz⟩ := hB.1.seven
    obtain ⟨y0, y1, y2, y3, y4, y5, y6, yz⟩ := hB.2.1.seven
    obtain ⟨F1, F2⟩ := hB.done (T := T) ⟨hTb.out.symm, fun h => by have h2 := hTb.out; rw [h] at h2; cases h2⟩
    have G := Lib.hid F2.seven
    replace F1 := Lib.hid F1
    unfold put7 Got.zero Ev.zero at *
    simp only at *
    clear hB F2
    go_wp2_with fail
    obtain ⟨z0, z1, z2, z3, z4, z5, z6, _⟩ := G.out
    have F3 := F1.out
    clear G F1
    generalize World.setCell _ ⟨w.heap.size + 1, 6, none⟩ _ = WF at *
    refine bodyPost_ret (v := .agg #[.int .i64 k, .int .i64 a, .int .i64 b, .int .i64 n, .int .i64 N, .int .u64 (s : Int), .int .i64 11]) (by simp [results, Tryd.results36, go_sem, z0, z1, z2, z3, z4, z5, z6]) rfl ?_
    exact F3
  | true =>
    have hnum' : numOf l = some N := hnum
    clear hnum
    by_cases hlow : N < 0
    · have hTb : Hid (T = ⟨⟨k, a, b, n, N, s⟩, bad⟩) := Lib.hid (by
        rw [HD.out]
        unfold field numBad
        rw [if_neg (by decide), hnum']
        simp [hlow, putN])
      clear HD hnum'
      obtain ⟨x0, x1, x2, x3, x4, x5, x6, xz⟩ := hB.1.seven
      simp only at x0 x1 x2 x3 x4 x5 x6

      go_upto_region 23 with fail
      clear x0 x1 x2 x3 x4 x5 x6 xz
      replace hB := hB.put (g' := ⟨⟨k, a, b, n, N, s⟩, bad⟩) 4 (.int .i64 N) rfl
      generalize World.setCell _ ⟨w.heap.size, 4, none⟩ _ = W6 at *

      obtain ⟨x0, x1, x2, x3, x4, x5, x6, xz⟩ := hB.1.seven
      obtain ⟨y0, y1, y2, y3, y4, y5, y6, yz⟩ := hB.2.1.seven
      obtain ⟨F1, F2⟩ := hB.done (T := T) (by rw [hTb.out]; exact ⟨rfl, fun _ => rfl⟩)
      have G := Lib.hid F2.seven
      replace F1 := Lib.hid F1
      unfold put7 Got.zero Ev.zero at *
      simp only at *
      clear hB F2
      go_wp2_with fail
      obtain ⟨z0, z1, z2, z3, z4, z5, z6, _⟩ := G.out
      have F3 := F1.out
      clear G F1
      generalize World.setCell _ ⟨w.heap.size + 1, 6, none⟩ _ = WF at *
      refine bodyPost_ret (v := .agg #[.int .i64 k, .int .i64 a, .int .i64 b, .int .i64 n, .int .i64 N, .int .u64 (s : Int), .int .i64 bad]) (by simp [results, Tryd.results36, go_sem, z0, z1, z2, z3, z4, z5, z6]) rfl ?_
      exact F3
    · have hTb : Hid (T = ⟨⟨k, a, b, n, N, s⟩, bad⟩) := Lib.hid (by
        rw [HD.out]
        unfold field numBad
        rw [if_neg (by decide), hnum']
        simp [hlow, putN])
      clear HD hnum'
      obtain ⟨x0, x1, x2, x3, x4, x5, x6, xz⟩ := hB.1.seven
      simp only at x0 x1 x2 x3 x4 x5 x6

      go_upto_region 23 with fail
      clear x0 x1 x2 x3 x4 x5 x6 xz
      replace hB := hB.put (g' := ⟨⟨k, a, b, n, N, s⟩, bad⟩) 4 (.int .i64 N) rfl
      generalize World.setCell _ ⟨w.heap.size, 4, none⟩ _ = W6 at *

      obtain ⟨x0, x1, x2, x3, x4, x5, x6, xz⟩ := hB.1.seven
      obtain ⟨y0, y1, y2, y3, y4, y5, y6, yz⟩ := hB.2.1.seven
      obtain ⟨F1, F2⟩ := hB.done (T := T) (by rw [hTb.out]; exact ⟨rfl, fun _ => rfl⟩)
      have G := Lib.hid F2.seven
      replace F1 := Lib.hid F1
      unfold put7 Got.zero Ev.zero at *
      simp only at *
      clear hB F2
      go_wp2_with fail
      obtain ⟨z0, z1, z2, z3, z4, z5, z6, _⟩ := G.out
      have F3 := F1.out
      clear G F1
      generalize World.setCell _ ⟨w.heap.size + 1, 6, none⟩ _ = WF at *
      refine bodyPost_ret (v := .agg #[.int .i64 k, .int .i64 a, .int .i64 b, .int .i64 n, .int .i64 N, .int .u64 (s : Int), .int .i64 bad]) (by simp [results, Tryd.results36, go_sem, z0, z1, z2, z3, z4, z5, z6]) rfl ?_
      exact F3

/-- Any letter, any text. -/
theorem docField (g : Got) (f : UInt8) (hf : Fl f) (l : List UInt8) (hl : l.length ≤ 1099511627776) (w : World) : Calls Tryd.prog 36 #[gotV g, .int .u8 (f.toNat : Int), .string (str l)] w (IsGot (field MK g f l) w) := by
  rcases hf with rfl | rfl | rfl | rfl | rfl
  · exact doc_a g l hl w
  · exact doc_b g l hl w
  · exact doc_n g l hl w
  · exact doc_m g l hl w
  · by_cases hn : l = noneT
    · subst hn
      have e : field MK g 115 noneT = g := by unfold field; rw [if_pos rfl, if_pos rfl]
      rw [e]
      exact field_none g w
    · exact field_mask g l hl hn w
end Go.Proofs.YtikdhfedidknpaaDoor.Event
