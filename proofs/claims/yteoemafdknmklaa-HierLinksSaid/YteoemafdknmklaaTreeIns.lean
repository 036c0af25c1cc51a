/- What put and Insert of package rbtree do. Conditions: the nodes lie apart. -/
import Derived.Test.YteoemafdknmklaaTreePut
import Derived.Test.YteoemafdknmklaaTreeFinds
namespace Go.Proofs.Yteoemafdknmklaa.Tree
open Go.ChangeShapes Go.WideShapes Go.ChangeAt Go.RowKit
set_option linter.unusedVariables false
set_option linter.unusedSimpArgs false
set_option maxRecDepth 100000

def Puts (k : Ky) (T : Tr) (w : World) (e : Ending) (w' : World) : Prop := ∃ nb, w.heap.size ≤ nb ∧ e = .returned (.pointer (put k nb T).at) ∧ In w' (put k nb T) ∧ Chg (fun b => b ∈ T.bl) w w'
theorem nodup_put {w : World} {k : Ky} {nb : Nat} {T : Tr} (h : In w T) (hn : T.bl.Nodup) (hb : w.heap.size ≤ nb) : (put k nb T).bl.Nodup := by
  rw [(bl_put k nb T).nodup_iff, List.nodup_cons]
  exact ⟨fun e => by have := h.lt nb e; omega, hn⟩
theorem put_nil (w : World) (k : Ky) : Calls Try.prog 82 #[.pointer none, .agg #[.int .i64 k.1, .int .i64 k.2]] w (Puts k .nil w) := by
  obtain ⟨k1, k2⟩ := k
  simp only
  go_enter Try.func82, Try.ntmps82
  go_wp2_with fail
  go_ret
  refine ⟨w.heap.size + 1, by omega, rfl, ⟨?_, trivial, trivial⟩, ((Chg.refl _ w).alloc _).alloc _⟩
  have e : (w.alloc (.cells #[.int .i64 k1, .int .i64 k2] 89)).heap.size = w.heap.size + 1 := by simp
  unfold Nd
  rw [← e]
  exact heap_alloc_new _ _
set_option maxHeartbeats 4000000 in
theorem put_step (w : World) (k : Ky) (s : Bool) (n : Nat) (c : Bool) (x : Tr) (v i : Int) (y : Tr) (h : In w (mk s n c x v i y)) (hn : (mk s n c x v i y).bl.Nodup) (hs : side k (v, i) = s) (ih : ∀ w, In w x → Calls Try.prog 82 #[.pointer x.at, .agg #[.int .i64 k.1, .int .i64 k.2]] w (Puts k x w)) :
    Calls Try.prog 82 #[.pointer (some ⟨n, 0, none⟩), .agg #[.int .i64 k.1, .int .i64 k.2]] w (fun e w' => ∃ nb, w.heap.size ≤ nb ∧ e = .returned (.pointer (part s (mk s n c (put k nb x) v i y)).at) ∧ In w' (part s (mk s n c (put k nb x) v i y)) ∧ Chg (fun b => b ∈ (mk s n c x v i y).bl) w w') := by
  have D := Lib.hid (fun w => sideOf k (v, i) w)
  rw [hs] at D
  obtain ⟨n1, n2, n3, n4, n5⟩ := nodup_mk.1 hn
  have IH := Lib.hid ih
  have S2 : Hid (∀ w0 w1 nb, Below w.heap.size w w0 → w0.heap.size ≤ nb → In w1 (put k nb x) → Chg (fun b => b ∈ x.bl) w0 w1 → Nd w1 n c (if s then y.at else x.at) v i (if s then x.at else y.at) ∧
      In (w1.setCell ⟨n, if s then 4 else 3, none⟩ (.pointer (put k nb x).at)) (mk s n c (put k nb x) v i y) ∧
      (∀ w', Chg (fun b => b ∈ (mk s n c (put k nb x) v i y).bl) (w1.setCell ⟨n, if s then 4 else 3, none⟩ (.pointer (put k nb x).at)) w' → Chg (fun b => b ∈ (mk s n c x v i y).bl) w w') ∧ (mk s n c (put k nb x) v i y).bl.Nodup ∧ w.heap.size ≤ nb) := by
    intro w0 w1 nb g0 hnb hx g
    have h0 : In w0 (mk s n c x v i y) := h.fresh g0
    have hx0 : In w0 x := (in_mk.1 h0).2.1
    have hy0 : In w0 y := (in_mk.1 h0).2.2
    have hmem : ∀ b ∈ (put k nb x).bl, b = nb ∨ b ∈ x.bl := fun b hb => List.mem_cons.1 ((bl_put k nb x).mem_iff.1 hb)
    obtain ⟨q1, q2, q3⟩ := hung h0 hn (x' := put k nb x) (B := fun b => b ∈ x.bl) (fun b _ hb => hb) hx (fun b hb => (hmem b hb).elim (fun e => .inr (by omega)) .inl) g
    refine ⟨q1, q2, fun w' g' => ?_, ?_, Nat.le_trans g0.size hnb⟩
    · refine ((Chg.of g0).trans q3 (fun b _ hb => hb)).trans g' ?_
      intro b hb hm
      rcases bl_mk.1 hm with e | e | e
      · exact bl_mk.2 (.inl e)
      · rcases hmem b e with e | e
        · have := g0.size; omega
        · exact bl_mk.2 (.inr (.inl e))
      · exact bl_mk.2 (.inr (.inr e))
    · have hlt := (in_mk.1 h0).1.lt
      refine nodup_mk.2 ⟨fun e => ?_, n2, nodup_put hx0 n3 hnb, n4, fun b hb hy => ?_⟩
      · rcases hmem n e with e | e
        · omega
        · exact n1 e
      · rcases hmem b hb with e | e
        · have := hy0.lt b hy; omega
        · exact n5 b e hy
  obtain ⟨h1, h2, h3⟩ := in_mk.1 h
  obtain ⟨a0, a1, a2, a3, a4, af⟩ := h1.cells
  have hb := h1.lt
  have HX := Lib.hid h2
  have PA := Lib.hid (fun w nb h hn => parts w s n c (put k nb x) v i y h hn)
  obtain ⟨ax, eax⟩ : ∃ a, x.at = a := ⟨_, rfl⟩
  obtain ⟨ay, eay⟩ : ∃ a, y.at = a := ⟨_, rfl⟩
  rw [eax, eay] at a3 a4 S2
  rw [eax] at IH
  clear h h1 h2 h3 hn n1 n2 n3 n4 n5 eax eay hs
  obtain ⟨k1, k2⟩ := k
  simp only at IH D ⊢
  cases s
  all_goals
    simp only [num, if_true, if_false, Bool.false_eq_true] at a3 a4 S2 D PA ⊢
    have hg := Below.refl w.heap.size w
    go_enter Try.func82, Try.ntmps82
    go_wp2_with fail
    go_region_with (go_at_call 89; refine (D.out _).mono ?_; rintro e w1 ⟨rfl, hg1⟩; obtain ⟨d0, d1, dz, dd⟩ := new_two (undrew hg1); replace hg : Below w.heap.size w w1 := fresh_trans ((Below.refl _ w).alloc (Nat.le_refl _) _) (undrew hg1); clear hg1)
    all_goals
      have x0 := (hg.cell (p := ⟨n, 0, none⟩) hb).trans a0
      have x3 := (hg.cell (p := ⟨n, 3, none⟩) hb).trans a3
      have x4 := (hg.cell (p := ⟨n, 4, none⟩) hb).trans a4
      go_wp2_with fail
      go_region_with (go_at_call 82; refine (IH.out _ (HX.out.fresh hg).drew).mono ?_; rintro e w2 ⟨nb, hnb, rfl, hi2, hc2⟩; obtain ⟨q1, q2⟩ := S2.out _ w2 nb hg hnb hi2 hc2.on; obtain ⟨z0, z1, z2, z3, z4, zf⟩ := q1.cells; have Q := Lib.hid q2; clear hi2 hc2 q1 q2 hnb)
      all_goals
        go_wp2_with (go_at_call 90; refine (PA.out _ nb Q.out.1 Q.out.2.2.1).mono ?_; rintro e w3 ⟨rfl, hx⟩; have W := Lib.hid hx; clear hx)
        go_ret
        exact ⟨nb, Q.out.2.2.2, rfl, W.out.1, Q.out.2.1 _ W.out.2⟩
theorem puts (k : Ky) (T : Tr) : ∀ w, In w T → T.bl.Nodup → Calls Try.prog 82 #[.pointer T.at, .agg #[.int .i64 k.1, .int .i64 k.2]] w (Puts k T w) := by
  induction T with
  | nil => intro w _ _; exact put_nil w k
  | node b c l v i r ihl ihr =>
    intro w h hn
    obtain ⟨m1, m2, m3, m4, m5⟩ := nodup_node hn
    by_cases hs : side k (v, i) = true
    · refine (put_step w k true b c r v i l h hn hs (fun w hw => ihr w hw m4)).mono ?_
      rintro e w' ⟨nb, h1, h2, h3, h4⟩
      have e1 : put k nb (.node b c l v i r) = part true (mk true b c (put k nb r) v i l) := by rw [put, if_pos hs]; rfl
      exact ⟨nb, h1, by rw [e1]; exact h2, by rw [e1]; exact h3, h4⟩
    · have hs' : side k (v, i) = false := by cases h : side k (v, i) <;> simp_all
      refine (put_step w k false b c l v i r h hn hs' (fun w hw => ihl w hw m3)).mono ?_
      rintro e w' ⟨nb, h1, h2, h3, h4⟩
      have e1 : put k nb (.node b c l v i r) = part false (mk false b c (put k nb l) v i r) := by rw [put, if_neg hs]; rfl
      exact ⟨nb, h1, by rw [e1]; exact h2, by rw [e1]; exact h3, h4⟩
end Go.Proofs.Yteoemafdknmklaa.Tree
