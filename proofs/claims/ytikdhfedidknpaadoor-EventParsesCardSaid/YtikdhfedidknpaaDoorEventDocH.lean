/- What the document's field makes of what was read so far, any letter and any text. Conditions: the letter is one of the five; the text is of at most 2^40 bytes. -/
import Derived.Test.YtikdhfedidknpaaDoorEventDocG
namespace Go.Proofs.YtikdhfedidknpaaDoor.Event
open Go.ChangeShapes Go.WideShapes Go.ChangeAt Go.RowKit
open Mem (box_fresh set_block one_grown box_kept box_new)
set_option linter.unusedVariables false
set_option linter.unusedSimpArgs false
set_option maxRecDepth 100000

/-- What was read lies in field's box, its result beside it. -/
def Bx (w W : World) (g : Got) : Prop := GotB W w.heap.size g ∧ GotB W (w.heap.size + 1) Got.zero ∧ Below w.heap.size w W
theorem Bx.fresh {w W W' : World} {g : Got} (h : Bx w W g) (hb : Below W.heap.size W W') : Bx w W' g := ⟨h.1.fresh hb, h.2.1.fresh hb, h.2.2.trans (hb.mono h.2.2.size)⟩
theorem Bx.put {w W : World} {g g' : Got} (h : Bx w W g) (j : Nat) (v : Value) (hc : (gotC g).setIfInBounds j v = gotC g') : Bx w (W.setCell ⟨w.heap.size, j, none⟩ v) g' := by
  refine ⟨?_, box_kept h.2.1 (one_grown W _ j v) (fun h => by have := Option.some.inj h; omega), h.2.2.setCell (p := ⟨w.heap.size, j, none⟩) (Nat.le_refl _) v⟩
  unfold GotB
  rw [set_block h.1 j v, hc]
theorem Bx.done {w W : World} {g T : Got} (h : Bx w W g) (ha : Alike g T) : IsGot T w (.returned (gotV g)) (put7 W (w.heap.size + 1) g) ∧ GotB (put7 W (w.heap.size + 1) g) (w.heap.size + 1) g := got_end h.2.2 (by omega) h.2.1 ha
theorem Bx.new (w : World) (g : Got) : Bx w ((w.alloc (.cells (gotC g) 52)).alloc (.cells (gotC Got.zero) 52)) g := field_boxes g w

set_option maxHeartbeats 4000000 in
theorem field_mask (g : Got) (l : List UInt8) (hl : l.length ≤ 1099511627776) (hn : l ≠ noneT) (w : World) : Calls Tryd.prog 36 #[gotV g, .int .u8 115, .string (str l)] w (IsGot (field MK g 115 l) w) := by
  have hB := Bx.new w g
  have hq : ((str l).toList == noneT) = false := by rw [str_toList]; simpa using hn
  have hq' : ¬ (str l).toList = noneT := by rw [str_toList]; exact hn
  have hsz := str_size l
  have MP := Lib.hid (fun (w : World) => Mask.docParse (str l) l (str_list l).symm (by omega) w)
  obtain ⟨T, hT⟩ : ∃ T, T = field MK g 115 l := ⟨_, rfl⟩
  have hTd : T = ⟨{ g.e with s := (Mask.parse l).1 }, if l = [] ∨ (Mask.parse l).2 = 11 then 11 else if (Mask.parse l).2 ≠ 0 ∧ g.bad = 0 then 1 else g.bad⟩ := by
    rw [hT]
    unfold field
    rw [if_pos rfl, if_neg hn]
    rfl
  rw [← hT]
  clear hT
  unfold Mask.IsDoc at MP
  have hem : (str l).toList.isEmpty = decide (l = []) := by rw [str_toList]; cases l <;> simp
  generalize Mask.parse l = P at *
  obtain ⟨pm, pb⟩ := P
  obtain ⟨⟨k, a, b, n, m, s⟩, bad⟩ := g
  have HD := Lib.hid hTd
  unfold gotV gotC Got.zero Ev.zero at *
  simp only at *
  clear hn hTd hsz
  generalize str l = F at *
  obtain ⟨em, hem2⟩ : ∃ em, em = decide (l = []) := ⟨_, rfl⟩
  rw [← hem2] at hem
  have HM := Lib.hid hem2
  clear hem2
  go_enter Tryd.func36, Tryd.ntmps36
  go_upto_region 1 with fail
  generalize World.alloc _ _ = W at *
  go_upto_region 5 with (go_at_call 48; refine (MP.out _).mono ?_; rintro e w2 ⟨rfl, hh⟩; replace hB := hB.fresh hh; clear hh)
  clear MP
  obtain ⟨x0, x1, x2, x3, x4, x5, x6, xz⟩ := hB.1.seven
  simp only at x0 x1 x2 x3 x4 x5 x6

  go_upto_region 6 with fail
  clear x0 x1 x2 x3 x4 x5 x6 xz
  replace hB := hB.put (g' := ⟨⟨k, a, b, n, m, pm⟩, bad⟩) 5 (.int .u64 (pm : Int)) rfl
  generalize World.setCell _ ⟨w.heap.size, 5, none⟩ _ = W5 at *
  by_cases c1 : em = true ∨ pb = 11
  · have hTb : Hid (T = ⟨⟨k, a, b, n, m, pm⟩, 11⟩) := Lib.hid (by
      rw [HD.out, if_pos]
      rcases c1 with h | h
      · exact .inl (of_decide_eq_true (HM.out ▸ h))
      · exact .inr h)
    clear HD HM
    rcases c1 with rfl | c1
    · skip
      obtain ⟨x0, x1, x2, x3, x4, x5, x6, xz⟩ := hB.1.seven
      simp only at x0 x1 x2 x3 x4 x5 x6

      go_upto_region 10 with fail
      clear x0 x1 x2 x3 x4 x5 x6 xz
      replace hB := hB.put (g' := ⟨⟨k, a, b, n, m, pm⟩, 11⟩) 6 (.int .i64 11) rfl
      generalize World.setCell _ ⟨w.heap.size, 6, none⟩ _ = W6 at *

      obtain ⟨x0, x1, x2, x3, x4, x5, x6, xz⟩ := hB.1.seven
      obtain ⟨y0, y1, y2, y3, y4, y5, y6, yz⟩ := hB.2.1.seven
      obtain ⟨F1, F2⟩ := hB.done (T := T) (by rw [hTb.out]; exact ⟨rfl, fun _ => rfl⟩)
      have G := Lib.hid F2.seven
      replace F1 := Lib.hid F1
      unfold put7 Got.zero Ev.zero at *
      simp only at *
      clear hB F2
      go_wp2_with fail
      obtain ⟨z0, z1, z2, z3, z4, z5, z6, _⟩ := G.out
      have F3 := F1.out
      clear G F1
      generalize World.setCell _ ⟨w.heap.size + 1, 6, none⟩ _ = WF at *
      refine bodyPost_ret (v := .agg #[.int .i64 k, .int .i64 a, .int .i64 b, .int .i64 n, .int .i64 m, .int .u64 (pm : Int), .int .i64 11]) (by simp [results, Tryd.results36, go_sem, z0, z1, z2, z3, z4, z5, z6]) rfl ?_
      exact F3
    · subst c1
      cases em
      all_goals
        obtain ⟨x0, x1, x2, x3, x4, x5, x6, xz⟩ := hB.1.seven
        simp only at x0 x1 x2 x3 x4 x5 x6

        go_upto_region 10 with fail
        clear x0 x1 x2 x3 x4 x5 x6 xz
        replace hB := hB.put (g' := ⟨⟨k, a, b, n, m, pm⟩, 11⟩) 6 (.int .i64 11) rfl
        generalize World.setCell _ ⟨w.heap.size, 6, none⟩ _ = W6 at *

        obtain ⟨x0, x1, x2, x3, x4, x5, x6, xz⟩ := hB.1.seven
        obtain ⟨y0, y1, y2, y3, y4, y5, y6, yz⟩ := hB.2.1.seven
        obtain ⟨F1, F2⟩ := hB.done (T := T) (by rw [hTb.out]; exact ⟨rfl, fun _ => rfl⟩)
        have G := Lib.hid F2.seven
        replace F1 := Lib.hid F1
        unfold put7 Got.zero Ev.zero at *
        simp only at *
        clear hB F2
        go_wp2_with fail
        obtain ⟨z0, z1, z2, z3, z4, z5, z6, _⟩ := G.out
        have F3 := F1.out
        clear G F1
        generalize World.setCell _ ⟨w.heap.size + 1, 6, none⟩ _ = WF at *
        refine bodyPost_ret (v := .agg #[.int .i64 k, .int .i64 a, .int .i64 b, .int .i64 n, .int .i64 m, .int .u64 (pm : Int), .int .i64 11]) (by simp [results, Tryd.results36, go_sem, z0, z1, z2, z3, z4, z5, z6]) rfl ?_
        exact F3
  · have c2 : em = false := by cases em <;> simp_all
    subst c2
    have c3 : (pb == 11) = false := by simpa using fun h => c1 (.inr h)
    have hne : ¬ (l = [] ∨ pb = 11) := by
      rintro (h | h)
      · have := HM.out; rw [h] at this; simp at this
      · exact c1 (.inr h)
    by_cases c4 : pb = 0
    · have hTb : Hid (T = ⟨⟨k, a, b, n, m, pm⟩, bad⟩) := Lib.hid (by rw [HD.out, if_neg hne, if_neg (fun h => h.1 c4)])
      have c5 : (pb != 0) = false := by simpa using c4
      clear HD HM hne c1 c4
      skip
      obtain ⟨x0, x1, x2, x3, x4, x5, x6, xz⟩ := hB.1.seven
      simp only at x0 x1 x2 x3 x4 x5 x6
      go_upto_region 10 with fail
      clear x0 x1 x2 x3 x4 x5 x6 xz

      obtain ⟨x0, x1, x2, x3, x4, x5, x6, xz⟩ := hB.1.seven
      obtain ⟨y0, y1, y2, y3, y4, y5, y6, yz⟩ := hB.2.1.seven
      obtain ⟨F1, F2⟩ := hB.done (T := T) (by rw [hTb.out]; exact ⟨rfl, fun _ => rfl⟩)
      have G := Lib.hid F2.seven
      replace F1 := Lib.hid F1
      unfold put7 Got.zero Ev.zero at *
      simp only at *
      clear hB F2
      go_wp2_with fail
      obtain ⟨z0, z1, z2, z3, z4, z5, z6, _⟩ := G.out
      have F3 := F1.out
      clear G F1
      generalize World.setCell _ ⟨w.heap.size + 1, 6, none⟩ _ = WF at *
      refine bodyPost_ret (v := .agg #[.int .i64 k, .int .i64 a, .int .i64 b, .int .i64 n, .int .i64 m, .int .u64 (pm : Int), .int .i64 bad]) (by simp [results, Tryd.results36, go_sem, z0, z1, z2, z3, z4, z5, z6]) rfl ?_
      exact F3
    · have c5 : (pb != 0) = true := by simpa using c4
      by_cases c6 : bad = 0
      · have hTb : Hid (T = ⟨⟨k, a, b, n, m, pm⟩, 1⟩) := Lib.hid (by rw [HD.out, if_neg hne, if_pos ⟨c4, c6⟩])
        have c7 : (bad == 0) = true := by simpa using c6
        clear HD HM hne c1 c4 c6
        obtain ⟨x0, x1, x2, x3, x4, x5, x6, xz⟩ := hB.1.seven
        simp only at x0 x1 x2 x3 x4 x5 x6

        go_upto_region 10 with fail
        clear x0 x1 x2 x3 x4 x5 x6 xz
        replace hB := hB.put (g' := ⟨⟨k, a, b, n, m, pm⟩, 1⟩) 6 (.int .i64 1) rfl
        generalize World.setCell _ ⟨w.heap.size, 6, none⟩ _ = W6 at *

        obtain ⟨x0, x1, x2, x3, x4, x5, x6, xz⟩ := hB.1.seven
        obtain ⟨y0, y1, y2, y3, y4, y5, y6, yz⟩ := hB.2.1.seven
        obtain ⟨F1, F2⟩ := hB.done (T := T) (by rw [hTb.out]; exact ⟨rfl, fun _ => rfl⟩)
        have G := Lib.hid F2.seven
        replace F1 := Lib.hid F1
        unfold put7 Got.zero Ev.zero at *
        simp only at *
        clear hB F2
        go_wp2_with fail
        obtain ⟨z0, z1, z2, z3, z4, z5, z6, _⟩ := G.out
        have F3 := F1.out
        clear G F1
        generalize World.setCell _ ⟨w.heap.size + 1, 6, none⟩ _ = WF at *
        refine bodyPost_ret (v := .agg #[.int .i64 k, .int .i64 a, .int .i64 b, .int .i64 n, .int .i64 m, .int .u64 (pm : Int), .int .i64 1]) (by simp [results, Tryd.results36, go_sem, z0, z1, z2, z3, z4, z5, z6]) rfl ?_
        exact F3
      · have hTb : Hid (T = ⟨⟨k, a, b, n, m, pm⟩, bad⟩) := Lib.hid (by rw [HD.out, if_neg hne, if_neg (fun h => c6 h.2)])
        have c7 : (bad == 0) = false := by simpa using c6
        clear HD HM hne c1 c4 c6
        obtain ⟨x0, x1, x2, x3, x4, x5, x6, xz⟩ := hB.1.seven
        simp only at x0 x1 x2 x3 x4 x5 x6
        go_upto_region 10 with fail
        clear x0 x1 x2 x3 x4 x5 x6 xz

        obtain ⟨x0, x1, x2, x3, x4, x5, x6, xz⟩ := hB.1.seven
        obtain ⟨y0, y1, y2, y3, y4, y5, y6, yz⟩ := hB.2.1.seven
        obtain ⟨F1, F2⟩ := hB.done (T := T) (by rw [hTb.out]; exact ⟨rfl, fun _ => rfl⟩)
        have G := Lib.hid F2.seven
        replace F1 := Lib.hid F1
        unfold put7 Got.zero Ev.zero at *
        simp only at *
        clear hB F2
        go_wp2_with fail
        obtain ⟨z0, z1, z2, z3, z4, z5, z6, _⟩ := G.out
        have F3 := F1.out
        clear G F1
        generalize World.setCell _ ⟨w.heap.size + 1, 6, none⟩ _ = WF at *
        refine bodyPost_ret (v := .agg #[.int .i64 k, .int .i64 a, .int .i64 b, .int .i64 n, .int .i64 m, .int .u64 (pm : Int), .int .i64 bad]) (by simp [results, Tryd.results36, go_sem, z0, z1, z2, z3, z4, z5, z6]) rfl ?_
        exact F3
end Go.Proofs.YtikdhfedidknpaaDoor.Event
