/- What part of package rbtree does. Conditions: the nodes lie apart. -/
import Derived.Test.YteoemafdknmklaaTreeTurn
namespace Go.Proofs.Yteoemafdknmklaa.Tree
open Go.ChangeShapes Go.WideShapes Go.ChangeAt Go.RowKit
set_option linter.unusedVariables false
set_option linter.unusedSimpArgs false
set_option maxRecDepth 100000

/-- Low is not red: nothing is to be mended. -/
theorem parted_black (w : World) (s : Bool) (n : Nat) (c : Bool) (x : Tr) (v i : Int) (y : Tr) (h : In w (mk s n c x v i y)) (hr : x.red = false) :
    Calls Try.prog 90 #[.pointer (some ⟨n, 0, none⟩), .int .i64 (num s)] w (Wr (part s (mk s n c x v i y)) (fun k => k ∈ (mk s n c x v i y).bl) w) := by
  have e : part s (mk s n c x v i y) = mk s n c x v i y := by simp [part, inner, outer, kid_mk, hr]
  rw [e]
  have H := Lib.hid h
  obtain ⟨h1, h2, h3⟩ := in_mk.1 h
  obtain ⟨a0, a1, a2, a3, a4, af⟩ := h1.cells
  have R := Lib.hid (isRed w h2)
  rw [hr] at R
  clear h h1 h2 h3 e
  cases s
  all_goals
    simp only [num, if_true, if_false, Bool.false_eq_true] at a3 a4 ⊢
    go_enter Try.func90, Try.ntmps90
    go_wp2_with (go_at_call 95; refine (R.out).mono ?_; rintro e w1 ⟨rfl, rfl⟩)
    go_ret
    exact ⟨by rw [at_mk]; rfl, H.out, Chg.refl _ _⟩

theorem part_red (s : Bool) (n : Nat) (c : Bool) (L : Nat) (o : Tr) (v1 i1 : Int) (ii : Tr) (v i : Int) (y : Tr) :
    part s (mk s n c (mk s L true o v1 i1 ii) v i y) = if ii.red = false ∧ o.red = false then mk s n c (mk s L true o v1 i1 ii) v i y else if y.red then mk s n true (mk s L false o v1 i1 ii) v i (y.ink false) else
      turn (!s) (if ii.red then mk s n c (turn s (mk s L true o v1 i1 ii)) v i y else mk s n c (mk s L true o v1 i1 ii) v i y) := by
  have ei : inner s (mk s n c (mk s L true o v1 i1 ii) v i y) = ii.red := by simp [inner, kid_mk, kid_mk', red_mk]
  have eo : outer s (mk s n c (mk s L true o v1 i1 ii) v i y) = o.red := by simp [outer, kid_mk, kid_mk', red_mk]
  unfold part
  rw [ei, eo, kid_mk, kid_mk', hang_mk, hang_mk, hang_mk']
  cases s <;> rfl
theorem parted_same (w : World) (s : Bool) (n : Nat) (c : Bool) (L : Nat) (o : Tr) (v1 i1 : Int) (ii : Tr) (v i : Int) (y : Tr) (h : In w (mk s n c (mk s L true o v1 i1 ii) v i y)) (hi : ii.red = false) (ho : o.red = false) :
    Calls Try.prog 90 #[.pointer (some ⟨n, 0, none⟩), .int .i64 (num s)] w (Wr (mk s n c (mk s L true o v1 i1 ii) v i y) (fun k => k ∈ (mk s n c (mk s L true o v1 i1 ii) v i y).bl) w) := by
  have H := Lib.hid h
  obtain ⟨h1, h2, h3⟩ := in_mk.1 h
  obtain ⟨g1, g2, g3⟩ := in_mk.1 h2
  obtain ⟨a0, a1, a2, a3, a4, af⟩ := h1.cells
  obtain ⟨b0, b1, b2, b3, b4, bf⟩ := g1.cells
  have RL := Lib.hid (isRed_node w g1)
  have RI := Lib.hid (isRed w g3)
  have RO := Lib.hid (isRed w g2)
  have RY := Lib.hid (isRed w h3)
  rw [at_mk] at a3 a4
  obtain ⟨ai, eai⟩ : ∃ a, ii.at = a := ⟨_, rfl⟩
  obtain ⟨ao, eao⟩ : ∃ a, o.at = a := ⟨_, rfl⟩
  obtain ⟨ay, eay⟩ : ∃ a, y.at = a := ⟨_, rfl⟩
  rw [eai] at RI b3 b4
  rw [eao] at RO b3 b4
  rw [eay] at RY a3 a4
  rw [hi] at RI
  rw [ho] at RO
  clear h h1 h2 h3 g1 g2 g3 hi ho eai eao eay
  cases s
  all_goals
    simp only [num, if_true, if_false, Bool.false_eq_true] at a3 a4 b3 b4 ⊢
    go_enter Try.func90, Try.ntmps90
    go_wp2_with (first
      | (go_at_call_of 95 L; refine (RL.out).mono ?_; rintro e w1 ⟨rfl, rfl⟩)
      | (go_at_call_of 95 ai; refine (RI.out).mono ?_; rintro e w1 ⟨rfl, rfl⟩)
      | (go_at_call_of 95 ao; refine (RO.out).mono ?_; rintro e w1 ⟨rfl, rfl⟩)
      | (go_at_call_of 95 ay; refine (RY.out).mono ?_; rintro e w1 ⟨rfl, rfl⟩))
    go_ret
    exact ⟨by rw [at_mk]; rfl, H.out, Chg.refl _ _⟩
/-- Three nodes get other colours. -/
theorem inked {w : World} {s : Bool} {n : Nat} {c : Bool} {L : Nat} {o : Tr} {v1 i1 : Int} {ii : Tr} {v i : Int} {yb : Nat} {yl : Tr} {yv yi : Int} {yr : Tr} (h : In w (mk s n c (mk s L true o v1 i1 ii) v i (.node yb true yl yv yi yr)))
    (hn : (mk s n c (mk s L true o v1 i1 ii) v i (.node yb true yl yv yi yr)).bl.Nodup) :
    In (((w.setCell ⟨n, 2, none⟩ (.bool true)).setCell ⟨L, 2, none⟩ (.bool false)).setCell ⟨yb, 2, none⟩ (.bool false)) (mk s n true (mk s L false o v1 i1 ii) v i (.node yb false yl yv yi yr)) ∧
    Chg (fun k => k ∈ (mk s n c (mk s L true o v1 i1 ii) v i (.node yb true yl yv yi yr)).bl) w (((w.setCell ⟨n, 2, none⟩ (.bool true)).setCell ⟨L, 2, none⟩ (.bool false)).setCell ⟨yb, 2, none⟩ (.bool false)) := by
  obtain ⟨h1, h2, h3⟩ := in_mk.1 h
  obtain ⟨g1, g2, g3⟩ := in_mk.1 h2
  obtain ⟨n1, n2, n3, n4, n5⟩ := nodup_mk.1 hn
  obtain ⟨m1, m2, m3, m4, m5⟩ := nodup_mk.1 n3
  have q := nodup_node n4
  have hnL : n ≠ L := fun e => n1 (bl_mk.2 (.inl e))
  have hny : n ≠ yb := fun e => n2 (by simp [Tr.bl, e])
  have hLy : L ≠ yb := fun e => n5 L (bl_mk.2 (.inl rfl)) (by simp [Tr.bl, e])
  have chg : Chg (fun k => k = n ∨ k = L ∨ k = yb) w (((w.setCell ⟨n, 2, none⟩ (.bool true)).setCell ⟨L, 2, none⟩ (.bool false)).setCell ⟨yb, 2, none⟩ (.bool false)) :=
    (((Chg.refl _ w).setCell (fun _ => .inl rfl) _).setCell (fun _ => .inr (.inl rfl)) _).setCell (fun _ => .inr (.inr rfl)) _
  rw [at_mk] at h1
  refine ⟨in_mk.2 ⟨?_, in_mk.2 ⟨?_, g2.chg chg ?_, g3.chg chg ?_⟩, ⟨?_, h3.2.1.chg chg ?_, h3.2.2.chg chg ?_⟩⟩, chg.mono ?_⟩
  · rw [at_mk]; exact ((h1.setC true).other hnL _).other hny _
  · exact ((g1.other hnL.symm _).setC false).other hLy _
  · rintro k hk (rfl | rfl | rfl)
    · exact n1 (bl_mk.2 (.inr (.inl hk)))
    · exact m1 hk
    · exact n5 _ (bl_mk.2 (.inr (.inl hk))) (by simp [Tr.bl])
  · rintro k hk (rfl | rfl | rfl)
    · exact n1 (bl_mk.2 (.inr (.inr hk)))
    · exact m2 hk
    · exact n5 _ (bl_mk.2 (.inr (.inr hk))) (by simp [Tr.bl])
  · exact ((h3.1.other hny.symm _).other hLy.symm _).setC false
  · rintro k hk (rfl | rfl | rfl)
    · exact n2 (by simp [Tr.bl, hk])
    · exact n5 _ (bl_mk.2 (.inl rfl)) (by simp [Tr.bl, hk])
    · exact q.1 hk
  · rintro k hk (rfl | rfl | rfl)
    · exact n2 (by simp [Tr.bl, hk])
    · exact n5 _ (bl_mk.2 (.inl rfl)) (by simp [Tr.bl, hk])
    · exact q.2.1 hk
  · rintro k _ (rfl | rfl | rfl)
    · exact bl_mk.2 (.inl rfl)
    · exact bl_mk.2 (.inr (.inl (bl_mk.2 (.inl rfl))))
    · exact bl_mk.2 (.inr (.inr (by simp [Tr.bl])))
theorem parted_ink (w : World) (s : Bool) (n : Nat) (c : Bool) (L : Nat) (o : Tr) (v1 i1 : Int) (ii : Tr) (v i : Int) (y : Tr) (h : In w (mk s n c (mk s L true o v1 i1 ii) v i y)) (hn : (mk s n c (mk s L true o v1 i1 ii) v i y).bl.Nodup) (hio : ¬ (ii.red = false ∧ o.red = false)) (hy : y.red = true) :
    Calls Try.prog 90 #[.pointer (some ⟨n, 0, none⟩), .int .i64 (num s)] w (Wr (mk s n true (mk s L false o v1 i1 ii) v i (y.ink false)) (fun k => k ∈ (mk s n c (mk s L true o v1 i1 ii) v i y).bl) w) := by
  cases y with
  | nil => simp [Tr.red] at hy
  | node yb yc yl yv yi yr =>
  simp only [Tr.red] at hy
  subst hy
  obtain ⟨k1, k2⟩ := inked h hn
  have K : Hid (_ ∧ _) := ⟨k1, k2⟩
  clear k1 k2
  have n2 := (nodup_mk.1 hn).2.1
  have n5 := (nodup_mk.1 hn).2.2.2.2
  have n1 := (nodup_mk.1 hn).1
  have hnL : ¬ n = L := fun e => n1 (bl_mk.2 (.inl e))
  have hLn : ¬ L = n := fun e => hnL e.symm
  have hny : ¬ n = yb := fun e => n2 (by simp [Tr.bl, e])
  have hyn : ¬ yb = n := fun e => hny e.symm
  have hLy : ¬ L = yb := fun e => n5 L (bl_mk.2 (.inl rfl)) (by simp [Tr.bl, e])
  have hyL : ¬ yb = L := fun e => hLy e.symm
  have H := Lib.hid h
  obtain ⟨h1, h2, h3⟩ := in_mk.1 h
  obtain ⟨g1, g2, g3⟩ := in_mk.1 h2
  obtain ⟨a0, a1, a2, a3, a4, af⟩ := h1.cells
  obtain ⟨b0, b1, b2, b3, b4, bf⟩ := g1.cells
  have RL := Lib.hid (isRed_node w g1)
  have RI := Lib.hid (isRed w g3)
  have RO := Lib.hid (isRed w g2)
  have RY := Lib.hid (isRed w h3)
  rw [at_mk] at a3 a4
  obtain ⟨ai, eai⟩ : ∃ a, ii.at = a := ⟨_, rfl⟩
  obtain ⟨ao, eao⟩ : ∃ a, o.at = a := ⟨_, rfl⟩
  obtain ⟨ay, eay⟩ : ∃ a, (Tr.node yb true yl yv yi yr).at = a := ⟨_, rfl⟩
  rw [eai] at RI b3 b4
  rw [eao] at RO b3 b4
  rw [eay] at RY a3 a4
  subst eay
  rw [at_node] at RY a3 a4
  simp only [Tr.red] at RY
  obtain ⟨y0, y1, y2, y3, y4, yf⟩ := h3.1.cells
  have hio2 : ii.red = true ∨ ii.red = false ∧ o.red = true := by
    cases hii : ii.red
    · exact .inr ⟨rfl, by cases ho : o.red; exact absurd ⟨hii, ho⟩ hio; rfl⟩
    · exact .inl rfl
  clear h h1 h2 h3 g1 g2 g3 eai eao n1 n2 n5 hn hio
  generalize ii.red = ir at *
  generalize o.red = ore at *
  rcases hio2 with rfl | ⟨rfl, rfl⟩
  all_goals
    cases s
    all_goals
      simp only [num, if_true, if_false, Bool.false_eq_true] at a3 a4 b3 b4 ⊢
      go_enter Try.func90, Try.ntmps90
      go_wp2_with (first
        | (go_at_call_of 95 L; refine (RL.out).mono ?_; rintro e w1 ⟨rfl, rfl⟩)
        | (go_at_call_of 95 ai; refine (RI.out).mono ?_; rintro e w1 ⟨rfl, rfl⟩)
        | (go_at_call_of 95 ao; refine (RO.out).mono ?_; rintro e w1 ⟨rfl, rfl⟩)
        | (go_at_call_of 95 yb; refine (RY.out).mono ?_; rintro e w1 ⟨rfl, rfl⟩))
      go_ret
      exact ⟨by rw [at_mk]; rfl, K.out.1, K.out.2⟩
theorem parted_outer (w : World) (s : Bool) (n : Nat) (c : Bool) (L : Nat) (o : Tr) (v1 i1 : Int) (ii : Tr) (v i : Int) (y : Tr) (h : In w (mk s n c (mk s L true o v1 i1 ii) v i y)) (hn : (mk s n c (mk s L true o v1 i1 ii) v i y).bl.Nodup) (hi : ii.red = false) (ho : o.red = true) (hy : y.red = false) :
    Calls Try.prog 90 #[.pointer (some ⟨n, 0, none⟩), .int .i64 (num s)] w (Wr (turn (!s) (mk s n c (mk s L true o v1 i1 ii) v i y)) (fun k => k ∈ (mk s n c (mk s L true o v1 i1 ii) v i y).bl) w) := by
  have e : mk s n c (mk s L true o v1 i1 ii) v i y = mk (!s) n c y v i (mk (!s) L true ii v1 i1 o) := by rw [← mk_not s n, ← mk_not s L]
  have TU := Lib.hid (fun w h hn => turned w (!s) n L c true y ii o v i v1 i1 h hn)
  rw [← turn_mk, ← e] at TU
  have N := Lib.hid hn
  have H := Lib.hid h
  obtain ⟨h1, h2, h3⟩ := in_mk.1 h
  obtain ⟨g1, g2, g3⟩ := in_mk.1 h2
  obtain ⟨a0, a1, a2, a3, a4, af⟩ := h1.cells
  obtain ⟨b0, b1, b2, b3, b4, bf⟩ := g1.cells
  have RL := Lib.hid (isRed_node w g1)
  have RI := Lib.hid (isRed w g3)
  have RO := Lib.hid (isRed w g2)
  have RY := Lib.hid (isRed w h3)
  rw [at_mk] at a3 a4
  obtain ⟨ai, eai⟩ : ∃ a, ii.at = a := ⟨_, rfl⟩
  obtain ⟨ao, eao⟩ : ∃ a, o.at = a := ⟨_, rfl⟩
  obtain ⟨ay, eay⟩ : ∃ a, y.at = a := ⟨_, rfl⟩
  rw [eai] at RI b3 b4
  rw [eao] at RO b3 b4
  rw [eay] at RY a3 a4
  rw [hi] at RI
  rw [ho] at RO
  rw [hy] at RY
  have Z : Hid (∀ w e w', Wr (turn (!s) (mk s n c (mk s L true o v1 i1 ii) v i y)) (fun k => k = n ∨ k = L) w e w' → Wr (turn (!s) (mk s n c (mk s L true o v1 i1 ii) v i y)) (fun k => k ∈ (mk s n c (mk s L true o v1 i1 ii) v i y).bl) w e w') := by
    rintro w e w' ⟨z1, z2, z3⟩
    exact ⟨z1, z2, z3.mono (by rintro k _ (rfl | rfl); exact bl_mk.2 (.inl rfl); exact bl_mk.2 (.inr (.inl (bl_mk.2 (.inl rfl)))))⟩
  clear h h1 h2 h3 g1 g2 g3 hi ho hy eai eao eay hn e
  generalize turn (!s) (mk s n c (mk s L true o v1 i1 ii) v i y) = R at *
  cases s
  all_goals
    simp only [num, if_true, if_false, Bool.false_eq_true, Bool.not_true, Bool.not_false] at a3 a4 b3 b4 TU ⊢
    go_enter Try.func90, Try.ntmps90
    go_wp2_with (first
      | (go_at_call_of 95 L; refine (RL.out).mono ?_; rintro e w1 ⟨rfl, rfl⟩)
      | (go_at_call_of 95 ai; refine (RI.out).mono ?_; rintro e w1 ⟨rfl, rfl⟩)
      | (go_at_call_of 95 ao; refine (RO.out).mono ?_; rintro e w1 ⟨rfl, rfl⟩)
      | (go_at_call_of 95 ay; refine (RY.out).mono ?_; rintro e w1 ⟨rfl, rfl⟩)
      | (go_at_call 96; refine (TU.out _ H.out N.out).mono ?_; rintro e w1 ⟨rfl, hw⟩; have W := Lib.hid hw; clear hw))
    go_ret
    exact Z.out _ _ _ ⟨rfl, W.out⟩
end Go.Proofs.Yteoemafdknmklaa.Tree
