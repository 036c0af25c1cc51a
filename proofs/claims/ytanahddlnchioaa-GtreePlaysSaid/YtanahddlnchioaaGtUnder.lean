/- Whether a group is below another one: what Under of package gtree answers. Conditions: none. -/
import Derived.Test.YtanahddlnchioaaGtSteps
import Derived.Deep.LoopGhost
namespace Go.Proofs.Ytanahddlnchioaa.Gt
open Go.ChangeShapes Go.WideShapes Go.ChangeAt Go.RowKit Hp
set_option linter.unusedVariables false
set_option linter.unusedSimpArgs false

def isIn (i g j k : Int) (l : List (Int × Int)) : Bool := decide ((j, k) ∈ (i, g) :: l)
theorem under_nil (w : World) (i g j k : Int) : Calls Try.prog 19 #[.pointer none, .agg #[.int .i64 i, .int .i64 g], .agg #[.int .i64 j, .int .i64 k]] w (IsBool false w) := by
  go_enter Try.func19, Try.ntmps19
  go_wp2_with (go_at_call 27; refine (names_nil _ _ _).mono ?_; rintro e w1 ⟨rfl, hg1⟩; have hg := fresh_trans (alloc2 _ _ _) hg1; clear hg1)
  go_ret
  exact ⟨rfl, hg⟩
theorem under_none (w : World) (tb b : Nat) (O : Nat → Prop) (st : St) (i g j k : Int) (h : Tre w tb b O st) (h1 : st.pl.length ≤ 4096) (hn : st.names i g = false) :
    Calls Try.prog 19 #[.pointer (some ⟨tb, 0, none⟩), .agg #[.int .i64 i, .int .i64 g], .agg #[.int .i64 j, .int .i64 k]] w (IsBool false w) := by
  have N : Hid _ := fun w h => names w tb b O st i g h h1
  rw [hn] at N
  clear hn
  go_enter Try.func19, Try.ntmps19
  go_wp2_with (go_at_call 27; refine (N.out _ (h.fresh (alloc2 _ _ _))).mono ?_; rintro e w1 ⟨rfl, hg1⟩; have hg := fresh_trans (alloc2 _ _ _) hg1; clear hg1)
  go_ret
  exact ⟨rfl, hg⟩
theorem under_none2 (w : World) (tb b : Nat) (O : Nat → Prop) (st : St) (i g j k : Int) (h : Tre w tb b O st) (h1 : st.pl.length ≤ 4096) (hn : st.names i g = true) (hm : st.names j k = false) :
    Calls Try.prog 19 #[.pointer (some ⟨tb, 0, none⟩), .agg #[.int .i64 i, .int .i64 g], .agg #[.int .i64 j, .int .i64 k]] w (IsBool false w) := by
  have N : Hid _ := fun w h => names w tb b O st i g h h1
  have M : Hid _ := fun w h => names w tb b O st j k h h1
  rw [hn] at N
  rw [hm] at M
  clear hn hm
  go_enter Try.func19, Try.ntmps19
  go_wp2_with fail
  go_at_call 27; refine (N.out _ (h.fresh (alloc2 _ _ _))).mono ?_; rintro e w1 ⟨rfl, hg1⟩; obtain ⟨a0, a1, a2⟩ := four hg1 rfl; obtain ⟨b0, b1, bz⟩ := box2 a2; have hg := fresh_trans (alloc2 _ _ _) hg1; clear hg1
  go_wp2_with fail
  go_at_call 27; refine (M.out _ (h.fresh hg)).mono ?_; rintro e w2 ⟨rfl, hg2⟩; have hg3 := fresh_trans hg hg2; clear hg2
  go_wp2_with fail
  go_ret
  exact ⟨rfl, hg3⟩

def UnderI (w : World) (x a tb b s : Nat) (O : Nat → Prop) (st : St) (j k : Int) (r : Bool) (left : Nat) (t8 u : Value) (wr : World) : Prop :=
  ∃ (B : Nat) (cx cy i g : Int) (f : Bool) (l : List (Int × Int)), t8 = .pointer (some ⟨B, 0, none⟩) ∧ wr.heap[B]? = some (.cells #[.int .i64 cx, .int .i64 cy] 34 (0, 0)) ∧ B ≠ a ∧ u = .bool f ∧
    Boxes wr x a tb b O st i g ∧ Ups st i g l ∧ wr.heap[s + 1]? = some (.cells #[.int .i64 j, .int .i64 k] 34 (0, 0)) ∧ Below w.heap.size w wr ∧
    Hid ((f = true → r = isIn cx cy j k l ∧ left = l.length + 1) ∧ (f = false → r = false))

set_option maxHeartbeats 4000000 in
theorem under_some (w : World) (tb b : Nat) (O : Nat → Prop) (st : St) (i g j k : Int) (l : List (Int × Int)) (h : Tre w tb b O st) (h1 : st.pl.length ≤ 4096) (hu : Ups st i g l) (hm : st.names j k = true) :
    Calls Try.prog 19 #[.pointer (some ⟨tb, 0, none⟩), .agg #[.int .i64 i, .int .i64 g], .agg #[.int .i64 j, .int .i64 k]] w (IsBool (isIn i g j k l) w) := by
  have N : Hid _ := fun w h => names w tb b O st i g h h1
  have M : Hid _ := fun w h => names w tb b O st j k h h1
  rw [hu.named] at N
  rw [hm] at M
  clear hm
  obtain ⟨r, hr⟩ : ∃ r, isIn i g j k l = r := ⟨_, rfl⟩
  rw [hr]
  replace hr := Lib.hid hr
  go_enter Try.func19, Try.ntmps19
  go_wp2_with fail
  go_at_call 27; refine (N.out _ (h.fresh (alloc2 _ _ _))).mono ?_; rintro e w1 ⟨rfl, hg1⟩; obtain ⟨a0, a1, a2⟩ := four hg1 rfl; obtain ⟨b0, b1, bz⟩ := box2 a2; have hg := fresh_trans (alloc2 _ _ _) hg1; have hz1 := hg1.size; simp only [World.size_alloc] at hz1; clear hg1
  go_wp2_with fail
  go_at_call 27; refine (M.out _ (h.fresh hg)).mono ?_; rintro e w2 ⟨rfl, hg2⟩; replace a0 := cell_fresh a0 hg2; replace a1 := cell_fresh a1 hg2; replace a2 := heap_fresh a2 hg2; have hz2 := hg2.size; replace hg := fresh_trans hg hg2; clear hg2 b0 b1 bz
  go_wp2_with (go_at_call 45; refine (wayUp w2 _ _ _).mono ?_; rintro e w3 hW; have hB := hW.boxes (h.fresh hg); obtain ⟨rfl, -, -, hg3, hz3⟩ := hW; replace hz3 := Lib.hid hz3; replace a0 := cell_fresh a0 hg3; replace a1 := cell_fresh a1 hg3; replace a2 := heap_fresh a2 hg3; replace hg := fresh_trans hg hg3; clear hg3)
  clear N M
  go_loopg [8, 9] (l.length + 1) (fun left t8 u wr => UnderI w w2.heap.size (w2.heap.size + 2) tb b w.heap.size (With O (w2.heap.size + 2)) st j k r left t8 u wr)
  case atStart => exact ⟨_, i, g, i, g, true, l, rfl, heap_alloc_new _ _, by have := hz3.out; omega, rfl, hB.fresh (alloc1 _ _), hu, heap_fresh a2 (alloc1 _ _), hg.alloc hg.size _, ⟨fun _ => ⟨hr.out.symm, rfl⟩, fun h => by cases h⟩⟩
  case round =>
    clear hB hz3 hu a0 a1 a2 hr
    have hz5 := hg.size
    clear hg
    obtain ⟨B, cx, cy, i3, g3, f, l', rfl, hbox, hne, rfl, hB, hu, hT, hg, hrest⟩ := hrel
    cases f
    · obtain rfl := hrest.out.2 rfl
      clear hrest
      go_wp2
      go_ret
      exact ⟨rfl, hg⟩
    obtain ⟨hr, hleft⟩ := hrest.out.1 rfl
    clear hrest
    replace hr := Lib.hid hr
    replace hleft := Lib.hid hleft
    obtain ⟨b0, b1, bz⟩ := box2 hbox
    obtain ⟨c0, c1, cz⟩ := box2 hT
    have ha := lt_of hB.pos
    by_cases hx : cx = j ∧ cy = k
    · obtain ⟨rfl, rfl⟩ := hx
      go_wp2
      go_ret
      exact ⟨by rw [hr.out]; simp [isIn], hg⟩
    have hcmp : ((cx == j) && (cy == k)) = false := by simpa using hx
    have key : r = decide ((j, k) ∈ l') := by
      rw [hr.out]; unfold isIn
      have : ¬ (j, k) = (cx, cy) := fun e => hx (by cases e; exact ⟨rfl, rfl⟩)
      simp [this]
    clear hx hr
    replace key := Lib.hid key
    have Hn : Hid _ := fun w h => next w w2.heap.size (w2.heap.size + 2) tb b (With O (w2.heap.size + 2)) st i3 g3 l' h h1 hu
    have fin : Hid (∀ w4 e, Nxt l' w2.heap.size (w2.heap.size + 2) tb b (With O (w2.heap.size + 2)) st (wr.alloc (.cells #[.int .i64 cx, .int .i64 cy] 34)) e w4 → UnderI w w2.heap.size (w2.heap.size + 2) tb b w.heap.size (With O (w2.heap.size + 2)) st j k r l'.length (.pointer (some ⟨wr.heap.size, 0, none⟩)) (.bool (up l'))
        ((w4.setCell ⟨wr.heap.size, 0, none⟩ (.int .i64 (hd l').1)).setCell ⟨wr.heap.size, 1, none⟩ (.int .i64 (hd l').2))) := by
      rintro w4 e ⟨-, hb4, i4, g4, hB4, hu4, -⟩
      have hbx := hb4.heap (heap_alloc_new wr (.cells #[.int .i64 cx, .int .i64 cy] 34)) (by omega)
      have hT4 := hb4.heap (heap_fresh hT (alloc1 _ _)) (by omega)
      have hg4 := hb4.below (hg.alloc hg.size _) (by omega)
      have e2 := set_block (set_block hbx 0 (.int .i64 (hd l').1)) 1 (.int .i64 (hd l').2)
      have hsz := hg.size
      have ht : ∀ W : World, ∀ u1 u2, But wr.heap.size W ((W.setCell ⟨wr.heap.size, 0, none⟩ u1).setCell ⟨wr.heap.size, 1, none⟩ u2) := fun W u1 u2 => ((But.of (Below.refl _ W)).setCell (p := ⟨wr.heap.size, 0, none⟩) (.inl rfl) u1).setCell (p := ⟨wr.heap.size, 1, none⟩) (.inl rfl) u2
      have hbt := ht w4 (.int .i64 (hd l').1) (.int .i64 (hd l').2)
      have hBtree : Tre w4 tb b (With (With O (w2.heap.size + 2)) wr.heap.size) st := by
        have h4 : Tre (wr.alloc (.cells #[.int .i64 cx, .int .i64 cy] 34)) tb b (With (With O (w2.heap.size + 2)) wr.heap.size) st := hB.tree.with (Nat.le_refl _) (alloc1 _ _)
        exact h4.but (.inl hB.out) hb4
      refine ⟨_, (hd l').1, (hd l').2, i4, g4, up l', l'.tail, rfl, e2, by omega, rfl, ⟨(hBtree.but (.inr rfl) hbt).other (fun k hk => .inl (.inl hk)), hbt.heap hB4.tp ?_, hbt.heap hB4.pos (by omega), hB4.out⟩, hu4, hbt.heap hT4 (by have := lt_of hT; omega), hbt.below hg4 hsz, ?_⟩
      · have := lt_of hB.tp; omega
      · constructor
        · intro hup
          cases l' with
          | nil => cases hup
          | cons p l' => exact ⟨by rw [key.out]; rfl, by simp⟩
        · intro hup
          cases l' with
          | nil => rw [key.out]; simp
          | cons p l' => cases hup
    cases hcx : (cx == j) <;> cases hcy : (cy == k)
    case true.true => rw [hcx, hcy] at hcmp; cases hcmp
    case' false.true => obtain rfl : cy = k := by simpa using hcy
    case' true.false => obtain rfl : cx = j := by simpa using hcx
    case' false.false => have hcx' : ¬ cx = j := by simpa using hcx
    case' false.false => have hcy' : ¬ cy = k := by simpa using hcy
    case' false.true => have hcx' : ¬ cx = j := by simpa using hcx
    case' true.false => have hcy' : ¬ cy = k := by simpa using hcy
    all_goals
      clear hcmp
      go_wp2_with (go_at_call 56; refine (Hn.out _ (hB.fresh (alloc1 _ _))).mono ?_; intro e w4 hN; have hF := Lib.hid (fin.out _ _ hN); obtain ⟨rfl, hb4, -⟩ := hN; obtain ⟨e0, e1, ez⟩ := box2 (hb4.heap (heap_alloc_new wr _) (by omega)); clear hb4)
      go_roundg l'.length
      case measure => have := hleft.out; omega
      case rel => exact hF.out
theorem under (w : World) (tb b : Nat) (O : Nat → Prop) (st : St) (i g j k : Int) (l : List (Int × Int)) (h : Tre w tb b O st) (h1 : st.pl.length ≤ 4096) (hu : Ups st i g l) :
    Calls Try.prog 19 #[.pointer (some ⟨tb, 0, none⟩), .agg #[.int .i64 i, .int .i64 g], .agg #[.int .i64 j, .int .i64 k]] w (IsBool (st.names j k && isIn i g j k l) w) := by
  cases hm : st.names j k
  · exact under_none2 w tb b O st i g j k h h1 hu.named hm
  · exact under_some w tb b O st i g j k l h h1 hu hm
end Go.Proofs.Ytanahddlnchioaa.Gt
