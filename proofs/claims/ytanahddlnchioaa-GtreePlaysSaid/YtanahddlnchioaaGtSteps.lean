/- How many steps the way up has: what steps and Depth of package gtree answer. Conditions: none. -/
import Derived.Test.YtanahddlnchioaaGtWay
namespace Go.Proofs.Ytanahddlnchioaa.Gt
open Go.ChangeShapes Go.WideShapes Go.ChangeAt Go.RowKit Hp
set_option linter.unusedVariables false
set_option linter.unusedSimpArgs false

/-- A caller's box of two cells. -/
def Box (w : World) (v : Value) (a : Nat) : Prop := ∃ B x y, v = .pointer (some ⟨B, 0, none⟩) ∧ w.heap[B]? = some (.cells #[.int .i64 x, .int .i64 y] 34 (0, 0)) ∧ B ≠ a
theorem Box.new (w : World) (x y : Int) {a : Nat} (ha : a < w.heap.size) : Box (w.alloc (.cells #[.int .i64 x, .int .i64 y] 34)) (.pointer (some ⟨w.heap.size, 0, none⟩)) a :=
  ⟨_, x, y, rfl, heap_alloc_new w _, by omega⟩
def StepsI (w : World) (x a tb b : Nat) (O : Nat → Prop) (st : St) (m : Nat) (n t7 u : Value) (wr : World) : Prop :=
  ∃ (j : Nat) (l : List (Int × Int)) (i g : Int), j + l.length = m ∧ n = .int .i64 j ∧ u = .bool (up l) ∧ Boxes wr x a tb b O st i g ∧ Ups st i g l.tail ∧ Box wr t7 a ∧ Below w.heap.size w wr

theorem steps (w : World) (tb b : Nat) (O : Nat → Prop) (st : St) (i g : Int) (l : List (Int × Int)) (h : Tre w tb b O st) (h1 : st.pl.length ≤ 4096) (hu : Ups st i g l) (hl : l.length ≤ 4096) :
    Calls Try.prog 33 #[.pointer (some ⟨tb, 0, none⟩), .agg #[.int .i64 i, .int .i64 g]] w (IsInt l.length w) := by
  have hz : (w.alloc (.cells #[.int .i64 i, .int .i64 g] 34)).heap.size = w.heap.size + 1 := by simp
  go_enter Try.func33, Try.ntmps33
  go_wp2_with (first
    | (go_at_call 45; refine (wayUp _ _ _ _).mono ?_; rintro e w1 hW; have hB := hW.boxes (h.fresh (alloc1 _ _)); obtain ⟨rfl, -, -, hg1, hz1⟩ := hW; have hg := fresh_trans (alloc1 _ _) hg1; clear hg1; rw [hz] at hB hz1 ⊢)
    | (go_at_call 56; refine (next _ _ _ tb b _ st i g l hB h1 hu).mono ?_; rintro e w2 ⟨rfl, hb2, i2, g2, hB2, hu2, -⟩; have hg2 := hb2.below hg (by omega)))
  have ha2 := lt_of hB2.pos
  go_loopw [5, 7, 8] (fun n t7 u wr => StepsI w (w.heap.size + 1) (w.heap.size + 1 + 2) tb b (With O (w.heap.size + 1 + 2)) st l.length n t7 u wr) (fun n _ _ _ => l.length - (intOf n).toNat)
  case atStart => exact ⟨0, l, i2, g2, by simp, rfl, rfl, hB2.fresh (alloc1 _ _), hu2, Box.new _ _ _ ha2, hg2.alloc hg2.size _⟩
  case round =>
    clear hB hz1 hg hb2 hB2 hu2 hg2 ha2
    obtain ⟨j, l', i3, g3, hj, rfl, rfl, hB, hu3, ⟨B, bx, by', rfl, hbox, hne⟩, hg⟩ := hrel
    cases l' with
    | nil =>
      rw [show up [] = false from rfl]
      go_wp2
      go_ret
      exact ⟨by simp at hj; rw [hj]; rfl, hg⟩
    | cons p l' =>
      rw [show up (p :: l') = true from rfl]
      obtain ⟨b0, b1, bz⟩ := box2 hbox
      have ha := lt_of hB.pos
      have hlen : j + l'.length + 1 = l.length := by simpa [Nat.add_assoc] using hj
      have hu4 : Ups st i3 g3 l' := hu3
      go_wp2_with (go_at_call 56; refine (next _ _ _ tb b _ st i3 g3 l' (hB.fresh (alloc1 _ _)) h1 hu4).mono ?_; rintro e w2 ⟨rfl, hb2, i2, g2, hB2, hu2, -⟩; have hg2 := hb2.below (hg.alloc hg.size _) (by omega))
      go_roundw
      case rel => exact ⟨j + 1, l', i2, g2, by omega, by go_num, rfl, hB2, hu2, ⟨_, bx, by', rfl, hb2.heap (heap_alloc_new _ _) (by omega), by omega⟩, hg2⟩
      case measure => simp [intOf]; omega

theorem depth_none (w : World) (tb b : Nat) (O : Nat → Prop) (st : St) (i g : Int) (h : Tre w tb b O st) (h1 : st.pl.length ≤ 4096) (hn : st.names i g = false) :
    Calls Try.prog 24 #[.pointer (some ⟨tb, 0, none⟩), .agg #[.int .i64 i, .int .i64 g]] w (fun e w' => e = .returned (.tuple #[.int .i64 0, .int .i64 2]) ∧ Below w.heap.size w w') := by
  have N : Hid _ := fun w h => names w tb b O st i g h h1
  rw [hn] at N
  clear hn
  go_enter Try.func24, Try.ntmps24
  go_wp2_with (go_at_call 27; refine (N.out _ (h.fresh (alloc1 _ _))).mono ?_; rintro e w1 ⟨rfl, hg1⟩; have hg := fresh_trans (alloc1 _ _) hg1; clear hg1)
  go_ret2
  exact ⟨rfl, hg⟩
theorem depth_nil (w : World) (i g : Int) :
    Calls Try.prog 24 #[.pointer none, .agg #[.int .i64 i, .int .i64 g]] w (fun e w' => e = .returned (.tuple #[.int .i64 0, .int .i64 2]) ∧ Below w.heap.size w w') := by
  go_enter Try.func24, Try.ntmps24
  go_wp2_with (go_at_call 27; refine (names_nil _ _ _).mono ?_; rintro e w1 ⟨rfl, hg1⟩; have hg := fresh_trans (alloc1 _ _) hg1; clear hg1)
  go_ret2
  exact ⟨rfl, hg⟩
theorem depth (w : World) (tb b : Nat) (O : Nat → Prop) (st : St) (i g : Int) (l : List (Int × Int)) (h : Tre w tb b O st) (h1 : st.pl.length ≤ 4096) (hu : Ups st i g l) (hl : l.length ≤ 4096) :
    Calls Try.prog 24 #[.pointer (some ⟨tb, 0, none⟩), .agg #[.int .i64 i, .int .i64 g]] w (fun e w' => e = .returned (.tuple #[.int .i64 l.length, .int .i64 0]) ∧ Below w.heap.size w w') := by
  have N : Hid _ := fun w h => names w tb b O st i g h h1
  rw [hu.named] at N
  have S : Hid _ := fun w h => steps w tb b O st i g l h h1 hu hl
  clear hu hl
  go_enter Try.func24, Try.ntmps24
  go_wp2_with (first
    | (go_at_call 27; refine (N.out _ (h.fresh (alloc1 _ _))).mono ?_; rintro e w1 ⟨rfl, hg1⟩; obtain ⟨a0, a1⟩ := two hg1 rfl; have hg := fresh_trans (alloc1 _ _) hg1; clear hg1)
    | (go_at_call 33; refine (S.out _ (h.fresh hg)).mono ?_; rintro e w2 ⟨rfl, hg2⟩; have hg3 := fresh_trans hg hg2; clear hg2))
  go_ret2
  exact ⟨rfl, hg3⟩
end Go.Proofs.Ytanahddlnchioaa.Gt
