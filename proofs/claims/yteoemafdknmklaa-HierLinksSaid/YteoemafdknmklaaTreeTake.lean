/- What take of package rbtree does. Conditions: the nodes lie apart; the keys are in order; the tree is low. -/
import Derived.Test.YteoemafdknmklaaTreeFills
import Derived.Deep.RegionHeld3
namespace Go.Proofs.Yteoemafdknmklaa.Tree
open Go.ChangeShapes Go.WideShapes Go.ChangeAt Go.RowKit
set_option linter.unusedVariables false
set_option linter.unusedSimpArgs false
set_option maxRecDepth 100000

theorem undrewN {w w' : World} {n : Nat} (h : Below (w.drewN n).heap.size (w.drewN n) w') : Below w.heap.size w w' := ⟨h.os, h.tape, h.output, h.size, h.block⟩
/-- What stands behind the taking from a side: the tree hung again, mended or not. -/
theorem took {w w1 w2 : World} {s : Bool} {n : Nat} {c : Bool} {x : Tr} {v i : Int} {y : Tr} {X : Tr} {bl : List Nat} (h : In w1 (mk s n c x v i y)) (hn : (mk s n c x v i y).bl.Nodup) (hX : ∀ k ∈ X.bl, k ∈ x.bl) (hXn : X.bl.Nodup) (hw : In w2 X) (g : Chg (fun b => b ∈ x.bl) w1 w2)
    (g0 : Chg (fun b => b ∈ bl) w w1) (hbl : ∀ b, b ∈ (mk s n c x v i y).bl → b ∈ bl) :
    Nd w2 n c (if s then y.at else x.at) v i (if s then x.at else y.at) ∧ In (w2.setCell ⟨n, if s then 4 else 3, none⟩ (.pointer X.at)) (mk s n c X v i y) ∧ (mk s n c X v i y).bl.Nodup ∧
    ∀ w', Chg (fun b => b ∈ (mk s n c X v i y).bl) (w2.setCell ⟨n, if s then 4 else 3, none⟩ (.pointer X.at)) w' → Chg (fun b => b ∈ bl) w w' := by
  obtain ⟨n1, n2, n3, n4, n5⟩ := nodup_mk.1 hn
  obtain ⟨q1, q2, q3⟩ := hung h hn (x' := X) (B := fun b => b ∈ x.bl) (fun b _ hb => hb) hw (fun b hb => .inl (hX b hb)) g
  refine ⟨q1, q2, nodup_mk.2 ⟨fun e => n1 (hX _ e), n2, hXn, n4, fun b hb => n5 b (hX b hb)⟩, fun w' g' => ?_⟩
  refine (g0.trans q3 (fun b _ hb => hbl b hb)).trans g' ?_
  intro b _ hb
  rcases bl_mk.1 hb with e | e | e
  · exact hbl b (bl_mk.2 (.inl e))
  · exact hbl b (bl_mk.2 (.inr (.inl (hX b e))))
  · exact hbl b (bl_mk.2 (.inr (.inr e)))

set_option maxHeartbeats 4000000 in
theorem take_step (w : World) (k : Ky) (s : Bool) (n : Nat) (c : Bool) (x : Tr) (v i : Int) (y X : Tr) (less : Bool) (h : In w (mk s n c x v i y)) (hn : (mk s n c x v i y).bl.Nodup) (hk : (v, i) ≠ k) (hs : side k (v, i) = s) (hX : ∀ b ∈ X.bl, b ∈ x.bl) (hXn : X.bl.Nodup)
    (ih : ∀ w, In w x → Calls Try.prog 84 #[.pointer x.at, .agg #[.int .i64 k.1, .int .i64 k.2]] w (Tk (X, less) (fun b => b ∈ x.bl) w)) (hy : less = true → May s y) :
    Calls Try.prog 84 #[.pointer (some ⟨n, 0, none⟩), .agg #[.int .i64 k.1, .int .i64 k.2]] w (Tk (if less then fill s (mk s n c X v i y) else (mk s n c X v i y, false)) (fun b => b ∈ (mk s n c x v i y).bl) w) := by
  have D := Lib.hid (fun w => sideOf k (v, i) w)
  rw [hs] at D
  have IH := Lib.hid ih
  have S2 : Hid (∀ w1 w2, Below w.heap.size w w1 → w.heap.size < w1.heap.size → In w2 X → Chg (fun b => b ∈ x.bl) w1 w2 → (w2.cell? ⟨w.heap.size, 0, none⟩ = w1.cell? ⟨w.heap.size, 0, none⟩ ∧ w2.cell? ⟨w.heap.size, 1, none⟩ = w1.cell? ⟨w.heap.size, 1, none⟩) ∧ Nd w2 n c (if s then y.at else x.at) v i (if s then x.at else y.at) ∧ In (w2.setCell ⟨n, if s then 4 else 3, none⟩ (.pointer X.at)) (mk s n c X v i y) ∧ (mk s n c X v i y).bl.Nodup ∧
      ∀ w', Chg (fun b => b ∈ (mk s n c X v i y).bl) (w2.setCell ⟨n, if s then 4 else 3, none⟩ (.pointer X.at)) w' → Chg (fun b => b ∈ (mk s n c x v i y).bl) w w') := by
    intro w1 w2 g0 hl hw g
    have hx0 := (in_mk.1 h).2.1
    have hbx : w.heap.size ∉ x.bl := fun e => by have := hx0.lt _ e; omega
    exact ⟨⟨g.cell hl hbx, g.cell hl hbx⟩, took (h.fresh g0) hn hX hXn hw g (.of g0) (fun b hb => hb)⟩
  have FI := Lib.hid (fun (e : less = true) w h hn => fills w s n c X v i y h hn (hy e))
  have M : (mk s n c X v i y).at = some ⟨n, 0, none⟩ := at_mk _ _ _ _ _ _ _
  obtain ⟨h1, h2, h3⟩ := in_mk.1 h
  obtain ⟨a0, a1, a2, a3, a4, af⟩ := h1.cells
  have hb := h1.lt
  have HX := Lib.hid h2
  obtain ⟨ax, eax⟩ : ∃ a, x.at = a := ⟨_, rfl⟩
  obtain ⟨ay, eay⟩ : ∃ a, y.at = a := ⟨_, rfl⟩
  obtain ⟨aX, eaX⟩ : ∃ a, X.at = a := ⟨_, rfl⟩
  rw [eax, eay] at a3 a4
  rw [eax] at IH
  unfold Tk at IH
  simp only [eaX] at IH S2
  rw [eax, eay] at S2
  clear h h1 h2 h3 hn eax eay hs hX hXn hy eaX
  obtain ⟨k1, k2⟩ := k
  have hq : (v == k1) = false ∨ ((v == k1) = true ∧ (i == k2) = false) := by
    cases h1 : v == k1
    · exact .inl rfl
    · cases h2 : i == k2
      · exact .inr ⟨rfl, rfl⟩
      · exact absurd (by rw [eq_of_beq h1, eq_of_beq h2]) hk
  simp only at IH D ⊢
  clear hk
  generalize (mk s n c x v i y).bl = bl at *
  generalize fill s (mk s n c X v i y) = F at *
  obtain ⟨F1, F2⟩ := F
  generalize mk s n c X v i y = T' at *
  unfold Tk at FI ⊢
  have M' := Lib.hid M
  clear M
  cases less
  all_goals
    cases s
    all_goals
      simp only [num, if_true, if_false, Bool.false_eq_true, forall_const] at a3 a4 S2 D FI ⊢
      rcases hq with hq | ⟨hq0, hq⟩
      all_goals
        have hg := Below.refl w.heap.size w
        go_enter Try.func84, Try.ntmps84
        go_wp2_with fail
        go_quiet (fail)
        go_wp2_with fail
        obtain ⟨u0, u1, uz, uu⟩ := new_two (Below.refl _ (w.alloc (.cells #[.int .i64 k1, .int .i64 k2] 89)))
        have hlt : w.heap.size < (w.alloc (.cells #[.int .i64 k1, .int .i64 k2] 89)).heap.size := lt_of uu
        have hbW := Nat.lt_trans hb hlt
        replace hg := (Below.refl w.heap.size w).alloc (Nat.le_refl _) (.cells #[.int .i64 k1, .int .i64 k2] 89)
        have x0 := (hg.cell (p := ⟨n, 0, none⟩) hb).trans a0
        have x1 := (hg.cell (p := ⟨n, 1, none⟩) hb).trans a1
        have x3 := (hg.cell (p := ⟨n, 3, none⟩) hb).trans a3
        have x4 := (hg.cell (p := ⟨n, 4, none⟩) hb).trans a4
        clear a0 a1 a3 a4 a2 af uz uu
        generalize w.alloc (.cells #[.int .i64 k1, .int .i64 k2] 89) = W at *
        go_region_held3 (fun w' => w'.cell? ⟨w.heap.size, 0, none⟩ = some (.int .i64 k1) ∧ w'.cell? ⟨w.heap.size, 1, none⟩ = some (.int .i64 k2) ∧ w'.cell? ⟨n, 0, none⟩ = some (.int .i64 v) ∧ w'.cell? ⟨n, 1, none⟩ = some (.int .i64 i)) (first | exact ⟨u0, u1, x0, x1⟩ | exact ⟨d0, d1, y0, y1⟩)
          (first
            | (go_at_call 89; refine (D.out _).mono ?_; rintro e w1 ⟨rfl, hg1⟩; replace hg1 := undrewN (undrew hg1); have d0 := (hg1.cell (p := ⟨w.heap.size, 0, none⟩) hlt).trans u0; have d1 := (hg1.cell (p := ⟨w.heap.size, 1, none⟩) hlt).trans u1; have y0 := (hg1.cell (p := ⟨n, 0, none⟩) hbW).trans x0; have y1 := (hg1.cell (p := ⟨n, 1, none⟩) hbW).trans x1; have y3 := (hg1.cell (p := ⟨n, 3, none⟩) hbW).trans x3; have y4 := (hg1.cell (p := ⟨n, 4, none⟩) hbW).trans x4; replace hg := hg.trans (hg1.mono (by omega)); replace hlt := Nat.lt_of_lt_of_le hlt hg1.size; clear hg1))
        clear u0 u1 x0 x1 x3 x4
        go_wp2_with fail
        first
          | (go_region_held3 (fun w' => w'.cell? ⟨w.heap.size, 0, none⟩ = some (.int .i64 k1) ∧ w'.cell? ⟨w.heap.size, 1, none⟩ = some (.int .i64 k2) ∧ w'.cell? ⟨n, 3, none⟩ = some (.pointer ax)) (first | exact ⟨d0, d1, y3⟩ | exact ⟨f0, f1, z3⟩) (first | (go_at_call 84; refine (IH.out _ (HX.out.fresh hg).drew).mono ?_; rintro e w2 ⟨rfl, hi2, hc2⟩; obtain ⟨⟨f0, f1⟩, q1, q2⟩ := S2.out _ w2 hg hlt hi2 hc2.on; replace f0 := f0.trans d0; replace f1 := f1.trans d1; obtain ⟨z0, z1, z2, z3, z4, zf⟩ := q1.cells; have Q := Lib.hid q2; clear hi2 hc2 q1 q2)))
          | (go_region_held3 (fun w' => w'.cell? ⟨w.heap.size, 0, none⟩ = some (.int .i64 k1) ∧ w'.cell? ⟨w.heap.size, 1, none⟩ = some (.int .i64 k2) ∧ w'.cell? ⟨n, 4, none⟩ = some (.pointer ax)) (first | exact ⟨d0, d1, y4⟩ | exact ⟨f0, f1, z4⟩) (first | (go_at_call 84; refine (IH.out _ (HX.out.fresh hg).drew).mono ?_; rintro e w2 ⟨rfl, hi2, hc2⟩; obtain ⟨⟨f0, f1⟩, q1, q2⟩ := S2.out _ w2 hg hlt hi2 hc2.on; replace f0 := f0.trans d0; replace f1 := f1.trans d1; obtain ⟨z0, z1, z2, z3, z4, zf⟩ := q1.cells; have Q := Lib.hid q2; clear hi2 hc2 q1 q2)))
        go_wp2_with (go_at_call 93; refine (FI.out _ Q.out.1 Q.out.2.1).mono ?_; rintro e w3 ⟨rfl, hx⟩; have W := Lib.hid hx; clear hx)
        go_ret2
        first
          | exact ⟨by rw [M'.out]; rfl, Q.out.1, Q.out.2.2 _ (Chg.refl _ _)⟩
          | exact ⟨rfl, W.out.1, Q.out.2.2 _ W.out.2⟩
end Go.Proofs.Yteoemafdknmklaa.Tree
