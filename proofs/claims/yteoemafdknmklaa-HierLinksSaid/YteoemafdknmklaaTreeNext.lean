/- What Next of package rbtree answers. Conditions: the tree's keys are in order. -/
import Derived.Test.YteoemafdknmklaaTreeFinds
namespace Go.Proofs.Yteoemafdknmklaa.Tree
open Go.ChangeShapes Go.WideShapes Go.ChangeAt Go.RowKit
set_option linter.unusedVariables false
set_option linter.unusedSimpArgs false
set_option maxRecDepth 100000

def NextI (W : World) (k : Ky) (T : Tr) (g : Nat) (bst n : Value) (wr : World) : Prop := ∃ B S, bst = .pointer (Tr.at B) ∧ n = .pointer (Tr.at S) ∧ In wr B ∧ In wr S ∧ nxt k B S = nxt k .nil T ∧ S.size = g ∧ Below W.heap.size W wr
set_option maxHeartbeats 2000000 in
theorem nexts (w : World) (t : Nat) (T : Tr) (k : Ky) (h : Top w t T) (hs : Sorted T.keys) :
    Calls Try.prog 85 #[.pointer (some ⟨t, 0, none⟩), .agg #[.int .i64 k.1, .int .i64 k.2]] w (Is (keyV (T.keys.find? (fun x => decide (lt k x)))) w) := by
  have hk : (nxt k .nil T).key = keyV (T.keys.find? (fun x => decide (lt k x))) := by rw [key_top, nxt_top k T .nil hs]; simp [Tr.top]
  rw [← hk]
  obtain ⟨c0, c1, fz⟩ := h.cells
  have ht := h.lt
  have H := Lib.hid h.2
  clear h hk hs
  obtain ⟨k1, k2⟩ := k
  simp only
  go_enter Try.func85, Try.ntmps85
  go_wp2_with fail
  have D0 : Hid (∀ wr, Below ((w.alloc (.cells #[.int .i64 k1, .int .i64 k2] 89)).alloc (.cells #[.int .i64 0, .int .i64 0] 89)).heap.size ((w.alloc (.cells #[.int .i64 k1, .int .i64 k2] 89)).alloc (.cells #[.int .i64 0, .int .i64 0] 89)) wr →
      (wr.cell? ⟨w.heap.size, 0, none⟩ = some (.int .i64 k1) ∧ wr.cell? ⟨w.heap.size, 1, none⟩ = some (.int .i64 k2) ∧ wr.cell? ⟨w.heap.size + 1, 0, none⟩ = some (.int .i64 0) ∧ wr.cell? ⟨w.heap.size + 1, 1, none⟩ = some (.int .i64 0) ∧
      (∀ j, wr.frozen? ⟨w.heap.size + 1, j, none⟩ = false)) ∧ Below w.heap.size w wr ∧ w.heap.size + 1 < wr.heap.size) := by
    intro wr hwr
    have q1 := (Below.refl _ (w.alloc (.cells #[.int .i64 k1, .int .i64 k2] 89))).alloc (Nat.le_refl _) (.cells #[.int .i64 0, .int .i64 0] 89)
    obtain ⟨d0, d1, _, _⟩ := new_two (fresh_trans q1 hwr)
    obtain ⟨d2, d3, dz, _⟩ := new_two hwr
    have e : (w.alloc (.cells #[.int .i64 k1, .int .i64 k2] 89)).heap.size = w.heap.size + 1 := by simp
    rw [e] at d2 d3 dz
    refine ⟨⟨d0, d1, d2, d3, dz⟩, fresh_trans ((Below.refl _ w).alloc (Nat.le_refl _) _) (fresh_trans q1 hwr), ?_⟩
    have := hwr.size
    simp at this
    omega
  have H1 := Lib.hid ((H.out.alloc (.cells #[.int .i64 k1, .int .i64 k2] 89)).alloc (.cells #[.int .i64 0, .int .i64 0] 89))
  clear H c0 c1 fz
  generalize (w.alloc (.cells #[.int .i64 k1, .int .i64 k2] 89)).alloc (.cells #[.int .i64 0, .int .i64 0] 89) = W at *
  generalize hsz : w.heap.size = s at *
  go_loopg [6, 7] T.size (fun g b n wr => NextI W (k1, k2) T g b n wr)
  case atStart => exact ⟨.nil, T, rfl, rfl, trivial, H1.out, rfl, rfl, Below.refl _ _⟩
  case round =>
    clear H1
    obtain ⟨B, S, rfl, rfl, hB, hin, hE, rfl, hg⟩ := hrel
    obtain ⟨⟨d0, d1, d2, d3, dz⟩, hgw, hsl⟩ := D0.out wr hg
    have HE := Lib.hid hE
    have HB := Lib.hid hB
    clear hE hB
    cases S with
    | nil =>
      rw [at_nil]
      have F := Lib.hid (fun w h => tells w (T := B) h)
      have HK : Hid (keyV B.top = (nxt (k1, k2) .nil T).key) := by
        show keyV B.top = (nxt (k1, k2) .nil T).key
        rw [← key_top]
        exact congrArg Tr.key HE.out
      clear hin HE
      rw [key_top] at F
      generalize B.top = o at *
      obtain ⟨x, y, z, e⟩ := keyV_parts o
      rw [e] at F HK
      clear e
      go_wp2_with (go_at_call 88; refine (F.out _ HB.out).mono ?_; rintro e w1 ⟨rfl, hg1⟩; obtain ⟨⟨f0, f1, f2, f3, fz⟩, fg, fs⟩ := D0.out w1 (fresh_trans hg hg1))
      refine bodyPost_ret (v := .tuple #[.agg #[.int .i64 x, .int .i64 y], .bool z]) (by simp [results, Try.results85, go_sem, f2, f3]) rfl ?_
      refine is_of HK.out ?_
      rw [hsz]
      exact (fg.setCell (by simp) _).setCell (by simp) _
    | node b c l v i r =>
      obtain ⟨n0, n1, n2, n3, n4, fz⟩ := hin.1.cells
      have hb := hin.1.lt
      have H2 := Lib.hid hin
      have D := Lib.hid (fun w => compare (k1, k2) (v, i) w)
      have hcl := cmp2_neg (k1, k2) (v, i)
      clear hin
      rw [at_node]
      simp only at D
      by_cases hlt : lt (k1, k2) (v, i)
      · have hc := hcl.2 hlt
        have HE2 : Hid (nxt (k1, k2) (.node b c l v i r) l = nxt (k1, k2) .nil T) := by
          have := HE.out
          rw [nxt, if_pos hlt] at this
          exact this
        clear HE hcl hlt
        generalize cmp2 (k1, k2) (v, i) = x at *
        go_wp2_with fail
        go_region_with (go_at_call 94; refine (D.out _).mono ?_; rintro e w1 ⟨rfl, hg1⟩; have hg2 : Below wr.heap.size wr w1 := ⟨hg1.os, hg1.tape, hg1.output, hg1.size, hg1.block⟩; clear hg1)
        all_goals
          go_wp2_with (go_at_call 79; refine (onLeft _ (H2.out.fresh hg2).1).mono ?_; rintro e w2 ⟨rfl, rfl⟩)
          go_roundg l.size
          case measure => simp [Tr.size, Tr.bl]; omega
          case rel => exact ⟨.node b c l v i r, l, rfl, rfl, H2.out.fresh hg2, H2.out.2.1.fresh hg2, HE2.out, rfl, fresh_trans hg hg2⟩
      · have hc : ¬ cmp2 (k1, k2) (v, i) < 0 := fun h => hlt (hcl.1 h)
        have HE2 : Hid (nxt (k1, k2) B r = nxt (k1, k2) .nil T) := by
          have := HE.out
          rw [nxt, if_neg hlt] at this
          exact this
        clear HE hcl hlt
        generalize cmp2 (k1, k2) (v, i) = x at *
        go_wp2_with fail
        go_region_with (go_at_call 94; refine (D.out _).mono ?_; rintro e w1 ⟨rfl, hg1⟩; have hg2 : Below wr.heap.size wr w1 := ⟨hg1.os, hg1.tape, hg1.output, hg1.size, hg1.block⟩; clear hg1)
        all_goals
          go_wp2_with (go_at_call 92; refine (onRight _ (H2.out.fresh hg2).1).mono ?_; rintro e w2 ⟨rfl, rfl⟩)
          go_roundg r.size
          case measure => simp [Tr.size, Tr.bl]; omega
          case rel => exact ⟨B, r, rfl, rfl, HB.out.fresh hg2, H2.out.2.2.fresh hg2, HE2.out, rfl, fresh_trans hg hg2⟩
end Go.Proofs.Yteoemafdknmklaa.Tree
