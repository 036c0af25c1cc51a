/- What Insert of package rbtree does. Conditions: the nodes lie apart, the keys are in order. -/
import Derived.Test.YteoemafdknmklaaTreeIns
namespace Go.Proofs.Yteoemafdknmklaa.Tree
open Go.ChangeShapes Go.WideShapes Go.ChangeAt Go.RowKit
set_option linter.unusedVariables false
set_option linter.unusedSimpArgs false
set_option maxRecDepth 100000

/-! ### Insert -/
/-- A tree that is kept: in order, low, its nodes apart from each other, from the tree's own block, and from what is in O. -/
structure Kept (w : World) (t : Nat) (O : Nat → Prop) (T : Tr) : Prop where
  top : Top w t T
  nodup : (t :: T.bl).Nodup
  sorted : Sorted T.keys
  ok : T.ok
  rr : T.rr
  black : T.red = false
  apart : ∀ b ∈ t :: T.bl, ¬ O b
theorem ink_at (T : Tr) (c : Bool) : (T.ink c).at = T.at := by cases T <;> rfl
theorem inked_top {w : World} {T : Tr} {b : Nat} (h : In w T) (hb : T.at = some ⟨b, 0, none⟩) (hn : T.bl.Nodup) : In (w.setCell ⟨b, 2, none⟩ (.bool false)) (T.ink false) ∧ b ∈ T.bl := by
  cases T with
  | nil => simp [Tr.at] at hb
  | node b' c l v i r =>
    simp [Tr.at] at hb
    subst hb
    obtain ⟨m1, m2, m3, m4, m5⟩ := nodup_node hn
    exact ⟨⟨h.1.setC false, h.2.1.setCell m1 _, h.2.2.setCell m2 _⟩, by simp [Tr.bl]⟩
theorem at_put (k : Ky) (nb : Nat) (T : Tr) (h : T.bl.Nodup) : ∃ b, (put k nb T).at = some ⟨b, 0, none⟩ := by
  cases hp : put k nb T with
  | nil =>
    have := (bl_put k nb T).length_eq
    rw [hp] at this
    simp [Tr.bl] at this
  | node b c l v i r => exact ⟨b, rfl⟩
/-- What is behind a call of Insert. -/
def Ins (k : Ky) (t : Nat) (O : Nat → Prop) (T : Tr) (w : World) (e : Ending) (w' : World) : Prop :=
  ∃ T', e = .returned (.bool true) ∧ Kept w' t O T' ∧ T'.keys = ins k T.keys ∧ Chg (fun b => b = t ∨ b ∈ T.bl) w w'
theorem in_at {w : World} {T : Tr} {b : Nat} (h : In w T) (hb : T.at = some ⟨b, 0, none⟩) : ∃ c l v i r, Nd w b c l v i r := by
  cases T with
  | nil => simp [Tr.at] at hb
  | node b' c l v i r =>
    simp [Tr.at] at hb
    subst hb
    exact ⟨_, _, _, _, _, h.1⟩
theorem set_top {w : World} {t : Nat} {c : Array Value} {ty : TypeId} (hb : w.heap[t]? = some (.cells c ty (0, 0))) (j : Nat) (u : Value) : (w.setCell ⟨t, j, none⟩ u).heap[t]? = some (.cells (c.setIfInBounds j u) ty (0, 0)) :=
  heap_setCell_same w t j c ty u hb
theorem len_ins (k : Ky) (l : List Ky) : (ins k l).length = l.length + 1 := by
  induction l with
  | nil => rfl
  | cons x l ih => unfold ins; split <;> simp [ih]
theorem ins_end {w w1 w2 : World} {t : Nat} {O : Nat → Prop} {T : Tr} {k : Ky} {nb pb : Nat} (h : Kept w t O T) (hk : k ∉ T.keys) (hO : ∀ b, O b → b < w.heap.size) (g1 : Below w.heap.size w w1) (hnb : w1.heap.size ≤ nb) (hi : In w2 (put k nb T)) (hc : Chg (fun b => b ∈ T.bl) w1 w2)
    (hpb : (put k nb T).at = some ⟨pb, 0, none⟩) :
    (∃ c l v i r, Nd w2 pb c l v i r) ∧ ¬ t = pb ∧ w2.heap[t]? = some (.cells #[.pointer T.at, .int .i64 T.keys.length] 83 (0, 0)) ∧
    ∀ W, Below w2.heap.size (((w2.setCell ⟨t, 0, none⟩ (.pointer (some ⟨pb, 0, none⟩))).setCell ⟨pb, 2, none⟩ (.bool false)).setCell ⟨t, 1, none⟩ (.int .i64 ((T.keys.length : Int) + 1))) W → Ins k t O T w (.returned (.bool true)) W := by
  obtain ⟨hn1, hn2⟩ := List.nodup_cons.1 h.nodup
  have ht := h.top.lt
  have hmem : ∀ b ∈ (put k nb T).bl, b = nb ∨ b ∈ T.bl := fun b hb => List.mem_cons.1 ((bl_put k nb T).mem_iff.1 hb)
  have hs1 := g1.size
  have htn : t ∉ (put k nb T).bl := fun e => (hmem t e).elim (fun e => by omega) hn1
  have hT : In w1 T := h.top.2.fresh g1
  have hnd := nodup_put (k := k) hT hn2 hnb
  obtain ⟨j1, j2⟩ := inked_top (hi.setCell (p := ⟨t, 0, none⟩) htn (.pointer (some ⟨pb, 0, none⟩))) hpb hnd
  have htp : ¬ t = pb := fun e => htn (e ▸ j2)
  have h2 : w2.heap[t]? = some (.cells #[.pointer T.at, .int .i64 T.keys.length] 83 (0, 0)) := by
    rw [hc.block t (by omega) hn1, g1.block t ht]; exact h.top.1
  refine ⟨in_at hi hpb, htp, h2, fun W hW => ⟨(put k nb T).ink false, rfl, ?_, ?_, ?_⟩⟩
  · obtain ⟨p1, p2, p3, p4⟩ := put_bal k nb T h.ok h.rr
    obtain ⟨o1, o2, o3⟩ := top_bal p1 p3
    refine ⟨⟨?_, ?_⟩, ?_, ?_, o1, o2, o3, ?_⟩
    · rw [hW.block t (by have := lt_of h2; omega), set_top (c := #[.pointer (some ⟨pb, 0, none⟩), .int .i64 T.keys.length]) (ty := 83)]
      · rw [keys_ink, keys_put k nb T h.sorted hk, len_ins, ink_at, hpb]
        simp
      · rw [Below.heap_setCell _ _ _ _ (fun e => htp (by simpa using e)), set_top h2]
        simp
    · have q := j1.setCell (p := ⟨t, 1, none⟩) (by rw [bl_ink]; exact htn) (.int .i64 ((T.keys.length : Int) + 1))
      exact q.on fun b hb => hW.block b (by have := q.lt b hb; simpa using this)
    · rw [List.nodup_cons, bl_ink]; exact ⟨htn, hnd⟩
    · rw [keys_ink, keys_put k nb T h.sorted hk]; exact sorted_ins h.sorted hk
    · intro b hb
      rw [bl_ink] at hb
      rcases List.mem_cons.1 hb with rfl | hb
      · exact h.apart _ (by simp)
      · rcases hmem b hb with rfl | hb
        · intro e; have := hO _ e; omega
        · exact h.apart b (by simp [hb])
  · rw [keys_ink, keys_put k nb T h.sorted hk]
  · have g2 : Chg (fun b => b = t ∨ b ∈ T.bl) w w2 := (Chg.of g1).trans hc (fun b _ hb => .inr hb)
    have g3 := ((g2.setCell (p := ⟨t, 0, none⟩) (fun _ => .inl rfl) (.pointer (some ⟨pb, 0, none⟩))).setCell (p := ⟨pb, 2, none⟩) (fun hl => (hmem pb j2).elim (fun e => by simp at hl; omega) .inr) (.bool false)).setCell (p := ⟨t, 1, none⟩) (fun _ => .inl rfl) (.int .i64 ((T.keys.length : Int) + 1))
    exact g3.then (by simpa using hW)
set_option maxHeartbeats 4000000 in
theorem inserts (w : World) (t : Nat) (O : Nat → Prop) (T : Tr) (k : Ky) (h : Kept w t O T) (hk : k ∉ T.keys) (hO : ∀ b, O b → b < w.heap.size) (hlen : T.keys.length ≤ 1000) :
    Calls Try.prog 67 #[.pointer (some ⟨t, 0, none⟩), .agg #[.int .i64 k.1, .int .i64 k.2]] w (Ins k t O T w) := by
  have A := Lib.hid (fun w h => hass w t T k h)
  rw [has_mem k T h.sorted] at A
  rw [show decide (k ∈ T.keys) = false by simpa using hk] at A
  have B := Lib.hid (fun w h hn => puts k T w h hn)
  have H := Lib.hid h
  obtain ⟨c0, c1, fz⟩ := h.top.cells
  have ht := h.top.lt
  obtain ⟨k1, k2⟩ := k
  obtain ⟨aT, eaT⟩ : ∃ a, T.at = a := ⟨_, rfl⟩
  rw [eaT] at c0 B
  have hg := Below.refl w.heap.size w
  have E := Lib.hid (fun w1 w2 nb pb g1 hnb hi hc hpb => ins_end (w1 := w1) (w2 := w2) (nb := nb) (pb := pb) h hk hO g1 hnb hi hc hpb)
  have N : Hid T.bl.Nodup := (List.nodup_cons.1 h.nodup).2
  clear h hk
  generalize hlen' : T.keys.length = len at *
  go_enter Try.func67, Try.ntmps67
  go_wp2_with (go_at_call 81; refine (A.out _ (H.out.top.fresh ((Below.refl _ w).alloc (Nat.le_refl _) _))).mono ?_; rintro e w1 ⟨rfl, hg1⟩; obtain ⟨d0, d1, dz, dd⟩ := new_two hg1; replace hg : Below w.heap.size w w1 := fresh_trans ((Below.refl _ w).alloc (Nat.le_refl _) _) hg1; clear hg1)
  have x0 := (hg.cell (p := ⟨t, 0, none⟩) ht).trans c0
  have x1 := (hg.cell (p := ⟨t, 1, none⟩) ht).trans c1
  rw [eaT] at E
  go_region_with (go_at_call 82; refine (B.out _ (H.out.top.2.fresh hg).drew N.out).mono ?_; rintro e w2 ⟨nb, hnb, rfl, hi2, hc2⟩; obtain ⟨pb, hpb⟩ := at_put (k1, k2) nb T N.out; obtain ⟨⟨pc, pl, pv, pi, pr, hnd⟩, htp, ht2, hW⟩ := E.out w1 w2 nb pb hg hnb hi2 hc2.on hpb; rw [hpb]; obtain ⟨z0, z1, z2, z3, z4, zf⟩ := hnd.cells; have y0 := cell_of_row w2 t 0 _ _ _ ht2; have y1 := cell_of_row w2 t 1 _ _ _ ht2; have yf := fun j => frozen_of_row w2 t j _ _ ht2; have Q := Lib.hid hW; clear hi2 hc2 hnd ht2 hW hnb hpb)
  all_goals
    have htp' : ¬ pb = t := fun e => htp e.symm
    go_wp2_with fail
    go_ret
    trace_state
    exact Q.out _ (Below.refl _ _)
end Go.Proofs.Yteoemafdknmklaa.Tree
