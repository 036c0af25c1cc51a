/- What Min, Next and Has of package rbtree answer. Conditions: the tree's keys are in order. -/
import Derived.Test.YteoemafdknmklaaTreeReads
import Derived.Maps.OwnSet
namespace Go.Proofs.Yteoemafdknmklaa.Tree
open Go.ChangeShapes Go.WideShapes Go.ChangeAt Go.RowKit
set_option linter.unusedVariables false
set_option linter.unusedSimpArgs false
set_option maxRecDepth 100000

/-- A tree behind its pointer. -/
def Top (w : World) (t : Nat) (T : Tr) : Prop := w.heap[t]? = some (.cells #[.pointer T.at, .int .i64 T.keys.length] 83 (0, 0)) ∧ In w T
theorem Top.cells {w : World} {t : Nat} {T : Tr} (h : Top w t T) : w.cell? ⟨t, 0, none⟩ = some (.pointer T.at) ∧ w.cell? ⟨t, 1, none⟩ = some (.int .i64 T.keys.length) ∧ (∀ j, w.frozen? ⟨t, j, none⟩ = false) := by
  refine ⟨?_, ?_, fun j => frozen_of_row w t j _ _ h.1⟩
  all_goals rw [cell_of_row w t _ _ _ _ h.1]; rfl
theorem Top.lt {w : World} {t : Nat} {T : Tr} (h : Top w t T) : t < w.heap.size := lt_of h.1
theorem Top.fresh {w w' : World} {t : Nat} {T : Tr} (h : Top w t T) (hg : Below w.heap.size w w') : Top w' t T := ⟨by rw [hg.block t h.lt, h.1], h.2.fresh hg⟩

/-- The key of a tree's top, and whether there is one. -/
def Tr.key : Tr → Value
  | .nil => .tuple #[.agg #[.int .i64 0, .int .i64 0], .bool false]
  | .node _ _ _ v i _ => .tuple #[.agg #[.int .i64 v, .int .i64 i], .bool true]
theorem tells (w : World) {T : Tr} (h : In w T) : Calls Try.prog 88 #[.pointer T.at] w (Is T.key w) := by
  cases T with
  | nil => exact tell_nil w
  | node b c l v i r => exact tell_node w h.1
def has (k : Ky) : Tr → Bool
  | .nil => false
  | .node _ _ l v i r => if (v, i) = k then true else if side k (v, i) then has k r else has k l

theorem boxed (w : World) (a b : Int) : (w.alloc (.cells #[.int .i64 a, .int .i64 b] 89)).cell? ⟨w.heap.size, 0, none⟩ = some (.int .i64 a) ∧ (w.alloc (.cells #[.int .i64 a, .int .i64 b] 89)).cell? ⟨w.heap.size, 1, none⟩ = some (.int .i64 b) ∧
    w.heap.size < (w.alloc (.cells #[.int .i64 a, .int .i64 b] 89)).heap.size := by
  have h : (w.alloc (.cells #[.int .i64 a, .int .i64 b] 89)).heap[w.heap.size]? = some (.cells #[.int .i64 a, .int .i64 b] 89 (0, 0)) := (MapKept.heap_alloc w _).1
  refine ⟨?_, ?_, lt_of h⟩
  all_goals rw [cell_of_row _ _ _ _ _ _ h]; rfl
def HasI (W : World) (k : Ky) (T : Tr) (g : Nat) (n : Value) (wr : World) : Prop := ∃ S, n = .pointer S.at ∧ In wr S ∧ has k S = has k T ∧ S.size = g ∧ Below W.heap.size W wr
set_option maxHeartbeats 2000000 in
theorem hass (w : World) (t : Nat) (T : Tr) (k : Ky) (h : Top w t T) : Calls Try.prog 81 #[.pointer (some ⟨t, 0, none⟩), .agg #[.int .i64 k.1, .int .i64 k.2]] w (Is (.bool (has k T)) w) := by
  obtain ⟨c0, c1, fz⟩ := h.cells
  have ht := h.lt
  have H := Lib.hid h.2
  clear h
  obtain ⟨k1, k2⟩ := k
  simp only
  go_enter Try.func81, Try.ntmps81
  go_wp2_with fail
  obtain ⟨d0, d1, hd⟩ := boxed w k1 k2
  have hg0 := (Below.refl w.heap.size w).alloc (Nat.le_refl _) (.cells #[.int .i64 k1, .int .i64 k2] 89)
  have H1 := Lib.hid (H.out.alloc (.cells #[.int .i64 k1, .int .i64 k2] 89))
  clear H c0 c1 fz
  generalize w.alloc (.cells #[.int .i64 k1, .int .i64 k2] 89) = W at *
  generalize hs : w.heap.size = s at *
  go_loopg [5] T.size (fun g n wr => HasI W (k1, k2) T g n wr)
  case atStart => exact ⟨T, rfl, H1.out, rfl, rfl, Below.refl _ _⟩
  case round =>
    clear H1
    obtain ⟨S, rfl, hin, hE, rfl, hg⟩ := hrel
    have e0 := (hg.cell (p := ⟨s, 0, none⟩) hd).trans d0
    have e1 := (hg.cell (p := ⟨s, 1, none⟩) hd).trans d1
    have HE := Lib.hid hE
    clear hE
    have HG := Lib.hid (show ∀ n, Below w.heap.size w (wr.drewN n) from fun n => by rw [hs]; exact hg0.trans ((fresh_trans hg (drawn _ _)).mono (by omega)))
    cases S with
    | nil =>
      rw [at_nil]
      clear hin d0 d1
      go_wp2_with fail
      go_quiet (fail)
      go_wp2_with fail
      go_ret
      exact is_of (by rw [← HE.out]; simp [has]) (HG.out _)
    | node b c l v i r =>
      obtain ⟨n0, n1, n2, n3, n4, fz⟩ := hin.1.cells
      have hb := hin.1.lt
      have H2 := Lib.hid hin
      have D := Lib.hid (fun w => sideOf (k1, k2) (v, i) w)
      clear hin d0 d1
      rw [at_node]
      by_cases hv : v = k1 ∧ i = k2
      · obtain ⟨rfl, rfl⟩ := hv
        go_wp2_with fail
        go_quiet (fail)
        go_wp2_with fail
        go_ret
        exact is_of (by rw [← HE.out]; simp [has]) (HG.out _)
      · have hh : has (k1, k2) (.node b c l v i r) = if side (k1, k2) (v, i) then has (k1, k2) r else has (k1, k2) l := by
          rw [has, if_neg (fun e => hv (by simpa using e))]
        rw [hh] at HE
        have hq : (v == k1) = false ∨ (v = k1 ∧ (i == k2) = false) := by
          by_cases h1 : v = k1
          · exact .inr ⟨h1, by simpa using fun e => hv ⟨h1, e⟩⟩
          · exact .inl (by simpa using h1)
        clear hv hh
        cases hsd : side (k1, k2) (v, i)
        all_goals
          rw [hsd] at HE D
          simp only [num, if_true, if_false, Bool.false_eq_true] at HE D
          clear hsd
          rcases hq with hq | ⟨rfl, hq⟩
        all_goals
          go_wp2_with fail
          go_quiet (fail)
          go_wp2_with fail
          go_region_with (go_at_call 89; refine (D.out _).mono ?_; rintro e w1 ⟨rfl, hg1⟩; have e3 := (hg1.cell (p := ⟨b, 3, none⟩) hb).trans n3; have e4 := (hg1.cell (p := ⟨b, 4, none⟩) hb).trans n4; have hg2 : Below wr.heap.size wr w1 := ⟨hg1.os, hg1.tape, hg1.output, hg1.size, hg1.block⟩; clear hg1)
        all_goals
          go_wp2_with fail
          first
            | (go_roundg l.size; (case measure => simp [Tr.size, Tr.bl]; omega); (case rel => exact ⟨l, rfl, H2.out.2.1.fresh hg2, HE.out, rfl, fresh_trans hg hg2⟩))
            | (go_roundg r.size; (case measure => simp [Tr.size, Tr.bl]; omega); (case rel => exact ⟨r, rfl, H2.out.2.2.fresh hg2, HE.out, rfl, fresh_trans hg hg2⟩))
theorem has_mem (k : Ky) (T : Tr) (hs : Sorted T.keys) : has k T = decide (k ∈ T.keys) := by
  induction T with
  | nil => simp [has, Tr.keys]
  | node b c l v i r ihl ihr =>
    obtain ⟨s1, s2, s3, s4⟩ := sorted_node hs
    unfold has
    by_cases e : (v, i) = k
    · rw [if_pos e]; simp [Tr.keys, e]
    · rw [if_neg e]
      by_cases h : lt (v, i) k
      · rw [if_pos (by simp [side, h]), ihr s2]
        have hl : k ∉ l.keys := fun h2 => lt_asymm h (s3 k h2)
        have e3 : k ≠ (v, i) := fun e2 => e e2.symm
        simp [Tr.keys, hl, e3]
      · rw [if_neg (by simp [side, h]), ihl s1]
        have hr : k ∉ r.keys := fun h2 => h (s4 k h2)
        have e3 : k ≠ (v, i) := fun e2 => e e2.symm
        simp [Tr.keys, hr, e3]

/-! ### the first one, and the first one behind a key -/
theorem in_headT {w : World} : ∀ {T : Tr}, In w T → In w T.headT
  | .nil, _ => trivial
  | .node b c .nil v i r, h => h
  | .node b c (.node b' c' l' v' i' r') v i r, h => by
    rw [show (Tr.node b c (.node b' c' l' v' i' r') v i r).headT = (Tr.node b' c' l' v' i' r').headT from rfl]
    exact in_headT h.2.1
theorem in_endT {w : World} : ∀ {T : Tr}, In w T → In w T.endT
  | .nil, _ => trivial
  | .node b c l v i .nil, h => h
  | .node b c l v i (.node b' c' l' v' i' r'), h => by
    rw [show (Tr.node b c l v i (.node b' c' l' v' i' r')).endT = (Tr.node b' c' l' v' i' r').endT from rfl]
    exact in_endT h.2.2
/-- A key that may not be there. -/
def keyV : Option Ky → Value
  | none => .tuple #[.agg #[.int .i64 0, .int .i64 0], .bool false]
  | some k => .tuple #[.agg #[.int .i64 k.1, .int .i64 k.2], .bool true]
def Tr.top : Tr → Option Ky
  | .nil => none
  | .node _ _ _ v i _ => some (v, i)
theorem key_top (T : Tr) : T.key = keyV T.top := by cases T <;> rfl
theorem top_head : ∀ (T : Tr), T.headT.top = T.keys.head?
  | .nil => rfl
  | .node b c .nil v i r => rfl
  | .node b c (.node b' c' l' v' i' r') v i r => by
    rw [show (Tr.node b c (.node b' c' l' v' i' r') v i r).headT = (Tr.node b' c' l' v' i' r').headT from rfl, top_head (.node b' c' l' v' i' r')]
    simp [Tr.keys]
theorem keyV_parts (o : Option Ky) : ∃ a b s, keyV o = .tuple #[.agg #[.int .i64 a, .int .i64 b], .bool s] := by
  cases o with
  | none => exact ⟨_, _, _, rfl⟩
  | some k => exact ⟨_, _, _, rfl⟩
theorem ends (w : World) (t : Nat) (T : Tr) (h : Top w t T) : Calls Try.prog 78 #[.pointer (some ⟨t, 0, none⟩), .func (.func 79) #[] #[]] w (Is (keyV T.keys.head?) w) := by
  obtain ⟨c0, c1, fz⟩ := h.cells
  have ht := h.lt
  have A := Lib.hid (fun w h => last_left w T h)
  have B := Lib.hid (fun w (h : In w T) => tells w (in_headT h))
  have H := Lib.hid h.2
  clear h
  rw [key_top, top_head] at B
  generalize T.keys.head? = o at *
  obtain ⟨x, y, s, e⟩ := keyV_parts o
  rw [e] at B ⊢
  clear e
  generalize T.headT.at = ha at *
  have hg := Below.refl w.heap.size w
  go_enter Try.func78, Try.ntmps78
  go_wp2_with (first
    | (go_at_call 87; refine (A.out _ (H.out.alloc _)).mono ?_; rintro e w1 ⟨rfl, rfl⟩)
    | (go_at_call 88; refine (B.out _ (H.out.alloc _)).mono ?_; rintro e w1 ⟨rfl, hg1⟩; replace hg := fresh_trans (hg.alloc (Nat.le_refl _) _) hg1; obtain ⟨d0, d1, dz, dd⟩ := new_two hg1; clear hg1))
  refine bodyPost_ret (v := .tuple #[.agg #[.int .i64 x, .int .i64 y], .bool s]) (by simp [results, Try.results78, go_sem, d0, d1]) rfl ?_
  exact ⟨rfl, (hg.setCell (Nat.le_refl _) _).setCell (Nat.le_refl _) _⟩
theorem mins (w : World) (t : Nat) (T : Tr) (h : Top w t T) : Calls Try.prog 65 #[.pointer (some ⟨t, 0, none⟩)] w (Is (keyV T.keys.head?) w) := by
  have A := Lib.hid (fun w h => ends w t T h)
  have H := Lib.hid h
  clear h
  generalize T.keys.head? = o at *
  obtain ⟨x, y, s, e⟩ := keyV_parts o
  rw [e] at A ⊢
  clear e
  have hg := Below.refl w.heap.size w
  go_enter Try.func65, Try.ntmps65
  go_wp2_with ((go_at_call 78; refine (A.out _ (H.out.fresh ((Below.refl _ w).alloc (Nat.le_refl _) _))).mono ?_; rintro e w1 ⟨rfl, hg1⟩; replace hg := fresh_trans (hg.alloc (Nat.le_refl _) _) hg1; obtain ⟨d0, d1, dz, dd⟩ := new_two hg1; clear hg1))
  refine bodyPost_ret (v := .tuple #[.agg #[.int .i64 x, .int .i64 y], .bool s]) (by simp [results, Try.results65, go_sem, d0, d1]) rfl ?_
  exact ⟨rfl, (hg.setCell (Nat.le_refl _) _).setCell (Nat.le_refl _) _⟩

/-- The first one behind a key. -/
def nxt (k : Ky) : Tr → Tr → Tr
  | best, .nil => best
  | best, .node b c l v i r => if lt k (v, i) then nxt k (.node b c l v i r) l else nxt k best r
theorem find_append {p : Ky → Bool} {l r : List Ky} : (l ++ r).find? p = (l.find? p).or (r.find? p) := by simp
theorem nxt_top (k : Ky) (T : Tr) : ∀ best, Sorted T.keys → (nxt k best T).top = (T.keys.find? (fun x => decide (lt k x))).or best.top := by
  induction T with
  | nil => intro best _; simp [nxt, Tr.keys]
  | node b c l v i r ihl ihr =>
    intro best hs
    obtain ⟨s1, s2, s3, s4⟩ := sorted_node hs
    unfold nxt
    simp only [Tr.keys]
    rw [find_append]
    by_cases h : lt k (v, i)
    · rw [if_pos h, ihl _ s1]
      simp [List.find?_cons, h, Tr.top]
    · rw [if_neg h, ihr _ s2]
      have e : l.keys.find? (fun x => decide (lt k x)) = none := by
        rw [List.find?_eq_none]
        intro x hx
        simp
        exact fun h2 => h (lt_trans h2 (s3 x hx))
      simp [e, List.find?_cons, h]
end Go.Proofs.Yteoemafdknmklaa.Tree
