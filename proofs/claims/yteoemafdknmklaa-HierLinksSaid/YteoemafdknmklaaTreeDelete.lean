/- What Delete and New of package rbtree do. Conditions: the nodes lie apart; the keys are in order; the tree is low. -/
import Derived.Test.YteoemafdknmklaaTreeTakeE
import Derived.Test.YteoemafdknmklaaTreeInsert
namespace Go.Proofs.Yteoemafdknmklaa.Tree
open Go.ChangeShapes Go.WideShapes Go.ChangeAt Go.RowKit
set_option linter.unusedVariables false
set_option linter.unusedSimpArgs false
set_option maxRecDepth 100000

/-- What is behind a call of Delete. -/
def Del (k : Ky) (t : Nat) (O : Nat → Prop) (T : Tr) (w : World) (e : Ending) (w' : World) : Prop :=
  ∃ T', e = .returned (.bool true) ∧ Kept w' t O T' ∧ T'.keys = but k T.keys ∧ Chg (fun b => b = t ∨ b ∈ T.bl) w w'
theorem sorted_but {k : Ky} {l : List Ky} (h : Sorted l) : Sorted (but k l) := h.filter _
theorem len_but {k : Ky} {l : List Ky} (h : Sorted l) (hk : k ∈ l) : ((but k l).length : Int) = l.length - 1 := by
  induction l with
  | nil => simp at hk
  | cons x l ih =>
    rw [but_cons]
    unfold Sorted at h
    rw [List.pairwise_cons] at h
    by_cases e : x = k
    · subst e
      rw [if_pos rfl, but_none (not_mem_of_lt h.1)]
      simp
    · rw [if_neg e]
      have : k ∈ l := by
        rcases List.mem_cons.1 hk with h' | h'
        · exact absurd h'.symm e
        · exact h'
      have := ih h.2 this
      simp
      omega
theorem del_end {w w1 w2 : World} {t : Nat} {O : Nat → Prop} {T : Tr} {k : Ky} (h : Kept w t O T) (hk : k ∈ T.keys) (g1 : Below w.heap.size w w1) (hi : In w2 (take T k).1) (hc : Chg (fun b => b ∈ T.bl) w1 w2) :
    w2.heap[t]? = some (.cells #[.pointer T.at, .int .i64 T.keys.length] 83 (0, 0)) ∧
    ∀ W, Below w2.heap.size ((w2.setCell ⟨t, 0, none⟩ (.pointer (take T k).1.at)).setCell ⟨t, 1, none⟩ (.int .i64 ((T.keys.length : Int) - 1))) W → Del k t O T w (.returned (.bool true)) W := by
  obtain ⟨hn1, hn2⟩ := List.nodup_cons.1 h.nodup
  have ht := h.top.lt
  have hs1 := g1.size
  obtain ⟨d, hd⟩ := bl_take T k h.sorted hk
  obtain ⟨x1, x2⟩ := sub_of hd hn2
  have htn : t ∉ (take T k).1.bl := fun e => hn1 (x1 t e)
  obtain ⟨k1, k2, k3, k4, k5⟩ := take_bal T k h.ok h.rr hk h.sorted
  have kk := keys_take T k h.sorted hk
  have h2 : w2.heap[t]? = some (.cells #[.pointer T.at, .int .i64 T.keys.length] 83 (0, 0)) := by
    rw [hc.block t (by omega) hn1, g1.block t ht]; exact h.top.1
  refine ⟨h2, fun W hW => ⟨(take T k).1, rfl, ?_, kk, ?_⟩⟩
  · refine ⟨⟨?_, ?_⟩, ?_, ?_, k1, k2, k4 h.black, ?_⟩
    · rw [hW.block t (by have := lt_of h2; omega), set_top (c := #[.pointer (take T k).1.at, .int .i64 T.keys.length]) (ty := 83)]
      · rw [kk, len_but h.sorted hk]
        simp
      · rw [set_top h2]
        simp
    · have q := (hi.setCell (p := ⟨t, 0, none⟩) htn (.pointer (take T k).1.at)).setCell (p := ⟨t, 1, none⟩) htn (.int .i64 ((T.keys.length : Int) - 1))
      exact q.on fun b hb => hW.block b (by have := q.lt b hb; simpa using this)
    · rw [List.nodup_cons]; exact ⟨htn, x2⟩
    · rw [kk]; exact sorted_but h.sorted
    · intro b hb
      rcases List.mem_cons.1 hb with rfl | hb
      · exact h.apart _ (by simp)
      · exact h.apart b (by simp [x1 b hb])
  · have g2 : Chg (fun b => b = t ∨ b ∈ T.bl) w w2 := (Chg.of g1).trans hc (fun b _ hb => .inr hb)
    have g3 := (g2.setCell (p := ⟨t, 0, none⟩) (fun _ => .inl rfl) (.pointer (take T k).1.at)).setCell (p := ⟨t, 1, none⟩) (fun _ => .inl rfl) (.int .i64 ((T.keys.length : Int) - 1))
    exact g3.then (by simpa using hW)
set_option maxHeartbeats 4000000 in
theorem deletes (w : World) (t : Nat) (O : Nat → Prop) (T : Tr) (k : Ky) (h : Kept w t O T) (hk : k ∈ T.keys) (hlen : T.keys.length ≤ 1000) :
    Calls Try.prog 70 #[.pointer (some ⟨t, 0, none⟩), .agg #[.int .i64 k.1, .int .i64 k.2]] w (Del k t O T w) := by
  have A := Lib.hid (fun w h => hass w t T k h)
  rw [has_mem k T h.sorted] at A
  rw [show decide (k ∈ T.keys) = true by simpa using hk] at A
  have N : T.bl.Nodup := (List.nodup_cons.1 h.nodup).2
  have B := Lib.hid (fun w hw => takes T w k hw N h.ok h.rr h.sorted hk)
  have H := Lib.hid h
  have hpos : 1 ≤ T.keys.length := List.length_pos_of_mem hk
  obtain ⟨c0, c1, fz⟩ := h.top.cells
  have ht := h.top.lt
  have E := Lib.hid (fun w1 w2 g1 hi hc => del_end (w1 := w1) (w2 := w2) h hk g1 hi hc)
  obtain ⟨k1, k2⟩ := k
  obtain ⟨aT, eaT⟩ : ∃ a, T.at = a := ⟨_, rfl⟩
  obtain ⟨aX, eaX⟩ : ∃ a, (take T (k1, k2)).1.at = a := ⟨_, rfl⟩
  rw [eaT] at c0 B E
  rw [eaX] at E
  unfold Tk at B
  rw [eaX] at B
  have hg := Below.refl w.heap.size w
  clear h hk N eaT eaX
  simp only at *
  generalize (take T (k1, k2)).2 = less at *
  generalize (take T (k1, k2)).1 = X at *
  generalize hlen' : T.keys.length = len at *
  go_enter Try.func70, Try.ntmps70
  go_wp2_with (go_at_call 81; refine (A.out _ (H.out.top.fresh ((Below.refl _ w).alloc (Nat.le_refl _) _))).mono ?_; rintro e w1 ⟨rfl, hg1⟩; obtain ⟨d0, d1, dz, dd⟩ := new_two hg1; replace hg : Below w.heap.size w w1 := fresh_trans ((Below.refl _ w).alloc (Nat.le_refl _) _) hg1; clear hg1)
  have x0 := (hg.cell (p := ⟨t, 0, none⟩) ht).trans c0
  have x1 := (hg.cell (p := ⟨t, 1, none⟩) ht).trans c1
  go_region_with (go_at_call 84; refine (B.out _ (H.out.top.2.fresh hg).drew).mono ?_; rintro e w2 ⟨rfl, hi2, hc2⟩; obtain ⟨ht2, hW⟩ := E.out w1 w2 hg hi2 hc2.on; have y0 := cell_of_row w2 t 0 _ _ _ ht2; have y1 := cell_of_row w2 t 1 _ _ _ ht2; have yf := fun j => frozen_of_row w2 t j _ _ ht2; have Q := Lib.hid hW; clear hi2 hc2 ht2 hW)
  all_goals
    go_wp2_with fail
    go_ret
    exact Q.out _ (Below.refl _ _)

/-- A tree of New's. -/
def Made (w : World) (e : Ending) (w' : World) : Prop := ∃ t, w.heap.size ≤ t ∧ e = .returned (.pointer (some ⟨t, 0, none⟩)) ∧ Below w.heap.size w w' ∧ ∀ O : Nat → Prop, (∀ b, O b → b < w.heap.size) → Kept w' t O .nil
theorem news (w : World) : Calls Try.prog 39 #[] w (Made w) := by
  go_enter Try.func39, Try.ntmps39
  go_wp2
  go_ret
  refine ⟨w.heap.size, Nat.le_refl _, rfl, by go_grown, fun O hO => ⟨⟨heap_alloc_new _ _, trivial⟩, by simp [Tr.bl], by simp [Sorted, Tr.keys], trivial, trivial, rfl, ?_⟩⟩
  intro b hb e
  simp [Tr.bl] at hb
  have := hO b e
  omega
end Go.Proofs.Yteoemafdknmklaa.Tree
