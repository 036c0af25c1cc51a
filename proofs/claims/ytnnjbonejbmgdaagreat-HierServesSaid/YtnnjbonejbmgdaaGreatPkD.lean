/- What part and put of package rbtree do. Conditions: the nodes lie apart. -/
import Derived.Test.YtnnjbonejbmgdaaGreatPkC
import Derived.Deep.RegionHeld3
namespace Go.Proofs.YtnnjbonejbmgdaaGreat.Tree
open Go.ChangeShapes Go.WideShapes Go.ChangeAt Go.RowKit
set_option linter.unusedVariables false
set_option linter.unusedSimpArgs false
set_option maxRecDepth 100000

theorem Chg.on {B : Nat → Prop} {w w' : World} (h : Chg B w.drew w') : Chg B w w' := ⟨h.os, h.tape, h.output, h.size, h.block⟩
theorem Nd.kid {w : World} {s : Bool} {b : Nat} {c : Bool} {x y : Option Addr} {v i : Int} (h : Nd w b c (if s then y else x) v i (if s then x else y)) (u : Option Addr) :
    Nd (w.setCell ⟨b, if s then 4 else 3, none⟩ (.pointer u)) b c (if s then y else u) v i (if s then u else y) := by
  cases s
  · exact h.setL u
  · exact h.setR u
/-- Another tree hangs on a side. -/
theorem hung {w w1 : World} {s : Bool} {n : Nat} {c : Bool} {x x' : Tr} {v i : Int} {y : Tr} (h : In w (mk s n c x v i y)) (hn : (mk s n c x v i y).bl.Nodup) {B : Nat → Prop} (hB : ∀ k, k < w.heap.size → B k → k ∈ x.bl) (hx : In w1 x') (hn' : ∀ k ∈ x'.bl, k ∈ x.bl ∨ w.heap.size ≤ k) (g : Chg B w w1) :
    Nd w1 n c (if s then y.at else x.at) v i (if s then x.at else y.at) ∧ In (w1.setCell ⟨n, if s then 4 else 3, none⟩ (.pointer x'.at)) (mk s n c x' v i y) ∧
    Chg (fun k => k ∈ (mk s n c x v i y).bl) w (w1.setCell ⟨n, if s then 4 else 3, none⟩ (.pointer x'.at)) := by
  obtain ⟨h1, h2, h3⟩ := in_mk.1 h
  obtain ⟨n1, n2, n3, n4, n5⟩ := nodup_mk.1 hn
  have hl := h1.lt
  have k1 : Nd w1 n c (if s then y.at else x.at) v i (if s then x.at else y.at) := h1.on (g.block n hl (fun e => n1 (hB n hl e)))
  refine ⟨k1, in_mk.2 ⟨k1.kid x'.at, hx.setCell ?_ _, (h3.chg g ?_).setCell n2 _⟩, ?_⟩
  · intro hk
    rcases hn' n hk with e | e
    · exact n1 e
    · omega
  · intro k hk e
    exact n5 k (hB k (h3.lt k hk) e) hk
  · refine (g.mono fun k hk e => ?_).setCell (fun _ => ?_) _
    · exact bl_mk.2 (.inr (.inl (hB k hk e)))
    · exact bl_mk.2 (.inl rfl)
theorem bl_mk' {s : Bool} {b : Nat} {c : Bool} {x : Tr} {v i : Int} {y : Tr} : (mk s b c x v i y).bl.Perm (b :: (x.bl ++ y.bl)) := by
  cases s
  · exact .rfl
  · exact List.perm_append_comm.cons _

theorem parted_inner (w : World) (s : Bool) (n : Nat) (c : Bool) (L : Nat) (o : Tr) (v1 i1 : Int) (I : Nat) (B1 : Tr) (vI iI : Int) (C1 : Tr) (v i : Int) (y : Tr) (h : In w (mk s n c (mk s L true o v1 i1 (mk s I true B1 vI iI C1)) v i y))
    (hn : (mk s n c (mk s L true o v1 i1 (mk s I true B1 vI iI C1)) v i y).bl.Nodup) (hy : y.red = false) :
    Calls Tryz.prog 186 #[.pointer (some ⟨n, 0, none⟩), .int .i64 (num s)] w (Wr (mk (!s) I c (mk (!s) n true y v i C1) vI iI (mk s L true o v1 i1 B1)) (fun k => k ∈ (mk s n c (mk s L true o v1 i1 (mk s I true B1 vI iI C1)) v i y).bl) w) := by
  have TU1 := Lib.hid (fun w h hn => turned w s L I true true o B1 C1 v1 i1 vI iI h hn)
  have TU2 := Lib.hid (fun w h hn => turned w (!s) n I c true y C1 (mk s L true o v1 i1 B1) v i vI iI h hn)
  rw [← mk_not s I, ← mk_not s n] at TU2
  have N := Lib.hid hn
  have N1 := Lib.hid (nodup_mk.1 hn).2.2.1
  have P1 : (mk s I true (mk s L true o v1 i1 B1) vI iI C1).bl.Perm (mk s L true o v1 i1 (mk s I true B1 vI iI C1)).bl := by
    rw [← turn_mk (c := true) (d := true)]; exact bl_turn _ _
  have N2 : Hid (mk s n c (mk s I true (mk s L true o v1 i1 B1) vI iI C1) v i y).bl.Nodup := by
    have := hn
    rw [bl_mk'.nodup_iff] at this
    show (mk s n c (mk s I true (mk s L true o v1 i1 B1) vI iI C1) v i y).bl.Nodup
    rw [bl_mk'.nodup_iff]
    exact (((P1.append_right _).cons _).nodup_iff).2 this
  have S2 : Hid (∀ w1, In w1 (mk s I true (mk s L true o v1 i1 B1) vI iI C1) → Chg (fun k => k = L ∨ k = I) w w1 → Nd w1 n c (if s then y.at else some ⟨L, 0, none⟩) v i (if s then some ⟨L, 0, none⟩ else y.at) ∧
      In (w1.setCell ⟨n, if s then 4 else 3, none⟩ (.pointer (mk s I true (mk s L true o v1 i1 B1) vI iI C1).at)) (mk s n c (mk s I true (mk s L true o v1 i1 B1) vI iI C1) v i y) ∧
      Chg (fun k => k ∈ (mk s n c (mk s L true o v1 i1 (mk s I true B1 vI iI C1)) v i y).bl) w (w1.setCell ⟨n, if s then 4 else 3, none⟩ (.pointer (mk s I true (mk s L true o v1 i1 B1) vI iI C1).at))) := by
    intro w1 hx g
    have := hung h hn (x' := mk s I true (mk s L true o v1 i1 B1) vI iI C1) (B := fun k => k = L ∨ k = I) ?_ hx ?_ g
    · rw [at_mk s L] at this
      exact this
    · rintro k _ (rfl | rfl)
      · exact bl_mk.2 (.inl rfl)
      · exact bl_mk.2 (.inr (.inr (bl_mk.2 (.inl rfl))))
    · intro k hk
      exact .inl (P1.mem_iff.1 hk)
  have Z : Hid (∀ w2 w', Chg (fun k => k ∈ (mk s n c (mk s L true o v1 i1 (mk s I true B1 vI iI C1)) v i y).bl) w w2 → Chg (fun k => k = n ∨ k = I) w2 w' → Chg (fun k => k ∈ (mk s n c (mk s L true o v1 i1 (mk s I true B1 vI iI C1)) v i y).bl) w w') := by
    intro w2 w' z1 z2
    refine z1.trans z2 ?_
    rintro k _ (rfl | rfl)
    · exact bl_mk.2 (.inl rfl)
    · exact bl_mk.2 (.inr (.inl (bl_mk.2 (.inr (.inr (bl_mk.2 (.inl rfl)))))))
  have nn := (nodup_mk.1 hn).1
  have hnL : ¬ n = L := fun e => nn (bl_mk.2 (.inl e))
  have hLn : ¬ L = n := fun e => hnL e.symm
  clear nn
  obtain ⟨h1, h2, h3⟩ := in_mk.1 h
  obtain ⟨g1, g2, g3⟩ := in_mk.1 h2
  have H1 := Lib.hid h2
  obtain ⟨a0, a1, a2, a3, a4, af⟩ := h1.cells
  obtain ⟨b0, b1, b2, b3, b4, bf⟩ := g1.cells
  have RL := Lib.hid (isRed_node w g1)
  have RI := Lib.hid (isRed w g3)
  have RO := Lib.hid (isRed w g2)
  have RY := Lib.hid (isRed w h3)
  rw [at_mk] at a3 a4 b3 b4 RI
  rw [red_mk] at RI
  rw [hy] at RY
  obtain ⟨ao, eao⟩ : ∃ a, o.at = a := ⟨_, rfl⟩
  obtain ⟨ay, eay⟩ : ∃ a, y.at = a := ⟨_, rfl⟩
  rw [eao] at RO b3 b4
  rw [eay] at RY a3 a4 S2
  clear h h1 h2 h3 g1 g2 g3 hy eao eay hn P1
  generalize mk (!s) I c (mk (!s) n true y v i C1) vI iI (mk s L true o v1 i1 B1) = R at *
  generalize mk s n c (mk s I true (mk s L true o v1 i1 B1) vI iI C1) v i y = T2 at *
  generalize mk s I true (mk s L true o v1 i1 B1) vI iI C1 = T1 at *
  generalize (mk s n c (mk s L true o v1 i1 (mk s I true B1 vI iI C1)) v i y).bl = bl at *
  generalize mk s L true o v1 i1 (mk s I true B1 vI iI C1) = T0 at *
  generalize o.red = ore at *
  cases s
  all_goals
    simp only [num, if_true, if_false, Bool.false_eq_true, Bool.not_true, Bool.not_false] at a3 a4 b3 b4 TU1 TU2 S2 ⊢
    go_enter Tryz.func186, Tryz.ntmps186
    go_wp2_with (first
      | (go_at_call_of 189 L; refine (RL.out).mono ?_; rintro e w1 ⟨rfl, rfl⟩)
      | (go_at_call_of 189 I; refine (RI.out).mono ?_; rintro e w1 ⟨rfl, rfl⟩)
      | (go_at_call_of 189 ao; refine (RO.out).mono ?_; rintro e w1 ⟨rfl, rfl⟩)
      | (go_at_call_of 189 ay; refine (RY.out).mono ?_; rintro e w1 ⟨rfl, rfl⟩))
    go_region_with (go_at_call 190; refine (TU1.out _ H1.out.drew N1.out).mono ?_; rintro e w1 ⟨rfl, hw1, hw2⟩; obtain ⟨hA, hB⟩ := S2.out w1 hw1 hw2.on; obtain ⟨e0', e1', e2', e3', e4', ef'⟩ := hA.cells; have W1 := Lib.hid hB; clear hw1 hw2 hA hB)
    all_goals
      go_wp2_with (go_at_call 190; refine (TU2.out _ W1.out.1 N2.out).mono ?_; rintro e w2 ⟨rfl, hx⟩; have W2 := Lib.hid hx; clear hx)
      go_ret
      exact ⟨rfl, W2.out.1, Z.out _ _ W1.out.2 W2.out.2⟩
theorem parts (w : World) (s : Bool) (n : Nat) (c : Bool) (x : Tr) (v i : Int) (y : Tr) (h : In w (mk s n c x v i y)) (hn : (mk s n c x v i y).bl.Nodup) :
    Calls Tryz.prog 186 #[.pointer (some ⟨n, 0, none⟩), .int .i64 (num s)] w (Wr (part s (mk s n c x v i y)) (fun k => k ∈ (mk s n c x v i y).bl) w) := by
  cases hx : x.red
  · exact parted_black w s n c x v i y h hx
  cases x with
  | nil => simp [Tr.red] at hx
  | node L d l v1 i1 r =>
    simp only [Tr.red] at hx
    subst hx
    rw [node_mk s L] at h hn ⊢
    generalize (Tr.node L true l v1 i1 r).kid s = o at *
    generalize (Tr.node L true l v1 i1 r).kid (!s) = ii at *
    rw [part_red]
    by_cases hio : ii.red = false ∧ o.red = false
    · rw [if_pos hio]
      exact parted_same w s n c L o v1 i1 ii v i y h hio.1 hio.2
    rw [if_neg hio]
    cases hy : y.red
    · simp only [Bool.false_eq_true, if_false]
      cases hii : ii.red
      · simp only [Bool.false_eq_true, if_false]
        exact parted_outer w s n c L o v1 i1 ii v i y h hn hii (by cases ho : o.red; exact absurd ⟨hii, ho⟩ hio; rfl) hy
      · simp only [if_true]
        cases ii with
        | nil => simp [Tr.red] at hii
        | node I d' l' vI iI r' =>
          simp only [Tr.red] at hii
          subst hii
          rw [node_mk s I] at h hn ⊢
          generalize (Tr.node I true l' vI iI r').kid s = B1 at *
          generalize (Tr.node I true l' vI iI r').kid (!s) = C1 at *
          have e : turn (!s) (mk s n c (mk s I true (mk s L true o v1 i1 B1) vI iI C1) v i y) = mk (!s) I c (mk (!s) n true y v i C1) vI iI (mk s L true o v1 i1 B1) := by rw [mk_not s n, mk_not s I, turn_mk]
          rw [turn_mk, e]
          exact parted_inner w s n c L o v1 i1 I B1 vI iI C1 v i y h hn hy
    · simp only [if_true]
      exact parted_ink w s n c L o v1 i1 ii v i y h hn hio hy
end Go.Proofs.YtnnjbonejbmgdaaGreat.Tree

/- What put and Insert of package rbtree do. Conditions: the nodes lie apart. -/
namespace Go.Proofs.YtnnjbonejbmgdaaGreat.Tree
open Go.ChangeShapes Go.WideShapes Go.ChangeAt Go.RowKit
set_option linter.unusedVariables false
set_option linter.unusedSimpArgs false
set_option maxRecDepth 100000

def Puts (k : Ky) (T : Tr) (w : World) (e : Ending) (w' : World) : Prop := ∃ nb, w.heap.size ≤ nb ∧ e = .returned (.pointer (put k nb T).at) ∧ In w' (put k nb T) ∧ Chg (fun b => b ∈ T.bl) w w'
theorem nodup_put {w : World} {k : Ky} {nb : Nat} {T : Tr} (h : In w T) (hn : T.bl.Nodup) (hb : w.heap.size ≤ nb) : (put k nb T).bl.Nodup := by
  rw [(bl_put k nb T).nodup_iff, List.nodup_cons]
  exact ⟨fun e => by have := h.lt nb e; omega, hn⟩
theorem put_nil (w : World) (k : Ky) : Calls Tryz.prog 175 #[.pointer none, .agg #[.int .i64 k.1, .int .i64 k.2]] w (Puts k .nil w) := by
  obtain ⟨k1, k2⟩ := k
  simp only
  go_enter Tryz.func175, Tryz.ntmps175
  go_wp2_with fail
  go_ret
  refine ⟨w.heap.size + 1, by omega, rfl, ⟨?_, trivial, trivial⟩, ((Chg.refl _ w).alloc _).alloc _⟩
  have e : (w.alloc (.cells #[.int .i64 k1, .int .i64 k2] 155)).heap.size = w.heap.size + 1 := by simp
  unfold Nd
  rw [← e]
  exact heap_alloc_new _ _
set_option maxHeartbeats 4000000 in
theorem put_step (w : World) (k : Ky) (s : Bool) (n : Nat) (c : Bool) (x : Tr) (v i : Int) (y : Tr) (h : In w (mk s n c x v i y)) (hn : (mk s n c x v i y).bl.Nodup) (hs : side k (v, i) = s) (ih : ∀ w, In w x → Calls Tryz.prog 175 #[.pointer x.at, .agg #[.int .i64 k.1, .int .i64 k.2]] w (Puts k x w)) :
    Calls Tryz.prog 175 #[.pointer (some ⟨n, 0, none⟩), .agg #[.int .i64 k.1, .int .i64 k.2]] w (fun e w' => ∃ nb, w.heap.size ≤ nb ∧ e = .returned (.pointer (part s (mk s n c (put k nb x) v i y)).at) ∧ In w' (part s (mk s n c (put k nb x) v i y)) ∧ Chg (fun b => b ∈ (mk s n c x v i y).bl) w w') := by
  have D := Lib.hid (fun w => sideOf k (v, i) w)
  rw [hs] at D
  obtain ⟨n1, n2, n3, n4, n5⟩ := nodup_mk.1 hn
  have IH := Lib.hid ih
  have S2 : Hid (∀ w0 w1 nb, Below w.heap.size w w0 → w0.heap.size ≤ nb → In w1 (put k nb x) → Chg (fun b => b ∈ x.bl) w0 w1 → Nd w1 n c (if s then y.at else x.at) v i (if s then x.at else y.at) ∧
      In (w1.setCell ⟨n, if s then 4 else 3, none⟩ (.pointer (put k nb x).at)) (mk s n c (put k nb x) v i y) ∧
      (∀ w', Chg (fun b => b ∈ (mk s n c (put k nb x) v i y).bl) (w1.setCell ⟨n, if s then 4 else 3, none⟩ (.pointer (put k nb x).at)) w' → Chg (fun b => b ∈ (mk s n c x v i y).bl) w w') ∧ (mk s n c (put k nb x) v i y).bl.Nodup ∧ w.heap.size ≤ nb) := by
    intro w0 w1 nb g0 hnb hx g
    have h0 : In w0 (mk s n c x v i y) := h.fresh g0
    have hx0 : In w0 x := (in_mk.1 h0).2.1
    have hy0 : In w0 y := (in_mk.1 h0).2.2
    have hmem : ∀ b ∈ (put k nb x).bl, b = nb ∨ b ∈ x.bl := fun b hb => List.mem_cons.1 ((bl_put k nb x).mem_iff.1 hb)
    obtain ⟨q1, q2, q3⟩ := hung h0 hn (x' := put k nb x) (B := fun b => b ∈ x.bl) (fun b _ hb => hb) hx (fun b hb => (hmem b hb).elim (fun e => .inr (by omega)) .inl) g
    refine ⟨q1, q2, fun w' g' => ?_, ?_, Nat.le_trans g0.size hnb⟩
    · refine ((Chg.of g0).trans q3 (fun b _ hb => hb)).trans g' ?_
      intro b hb hm
      rcases bl_mk.1 hm with e | e | e
      · exact bl_mk.2 (.inl e)
      · rcases hmem b e with e | e
        · have := g0.size; omega
        · exact bl_mk.2 (.inr (.inl e))
      · exact bl_mk.2 (.inr (.inr e))
    · have hlt := (in_mk.1 h0).1.lt
      refine nodup_mk.2 ⟨fun e => ?_, n2, nodup_put hx0 n3 hnb, n4, fun b hb hy => ?_⟩
      · rcases hmem n e with e | e
        · omega
        · exact n1 e
      · rcases hmem b hb with e | e
        · have := hy0.lt b hy; omega
        · exact n5 b e hy
  obtain ⟨h1, h2, h3⟩ := in_mk.1 h
  obtain ⟨a0, a1, a2, a3, a4, af⟩ := h1.cells
  have hb := h1.lt
  have HX := Lib.hid h2
  have PA := Lib.hid (fun w nb h hn => parts w s n c (put k nb x) v i y h hn)
  obtain ⟨ax, eax⟩ : ∃ a, x.at = a := ⟨_, rfl⟩
  obtain ⟨ay, eay⟩ : ∃ a, y.at = a := ⟨_, rfl⟩
  rw [eax, eay] at a3 a4 S2
  rw [eax] at IH
  clear h h1 h2 h3 hn n1 n2 n3 n4 n5 eax eay hs
  obtain ⟨k1, k2⟩ := k
  simp only at IH D ⊢
  cases s
  all_goals
    simp only [num, if_true, if_false, Bool.false_eq_true] at a3 a4 S2 D PA ⊢
    have hg := Below.refl w.heap.size w
    go_enter Tryz.func175, Tryz.ntmps175
    go_wp2_with fail
    go_region_with (go_at_call 183; refine (D.out _).mono ?_; rintro e w1 ⟨rfl, hg1⟩; obtain ⟨d0, d1, dz, dd⟩ := new_two (undrew hg1); replace hg : Below w.heap.size w w1 := fresh_trans ((Below.refl _ w).alloc (Nat.le_refl _) _) (undrew hg1); clear hg1)
    all_goals
      have x0 := (hg.cell (p := ⟨n, 0, none⟩) hb).trans a0
      have x3 := (hg.cell (p := ⟨n, 3, none⟩) hb).trans a3
      have x4 := (hg.cell (p := ⟨n, 4, none⟩) hb).trans a4
      go_wp2_with fail
      go_region_with (go_at_call 175; refine (IH.out _ (HX.out.fresh hg).drew).mono ?_; rintro e w2 ⟨nb, hnb, rfl, hi2, hc2⟩; obtain ⟨q1, q2⟩ := S2.out _ w2 nb hg hnb hi2 hc2.on; obtain ⟨z0, z1, z2, z3, z4, zf⟩ := q1.cells; have Q := Lib.hid q2; clear hi2 hc2 q1 q2 hnb)
      all_goals
        go_wp2_with (go_at_call 186; refine (PA.out _ nb Q.out.1 Q.out.2.2.1).mono ?_; rintro e w3 ⟨rfl, hx⟩; have W := Lib.hid hx; clear hx)
        go_ret
        exact ⟨nb, Q.out.2.2.2, rfl, W.out.1, Q.out.2.1 _ W.out.2⟩
theorem puts (k : Ky) (T : Tr) : ∀ w, In w T → T.bl.Nodup → Calls Tryz.prog 175 #[.pointer T.at, .agg #[.int .i64 k.1, .int .i64 k.2]] w (Puts k T w) := by
  induction T with
  | nil => intro w _ _; exact put_nil w k
  | node b c l v i r ihl ihr =>
    intro w h hn
    obtain ⟨m1, m2, m3, m4, m5⟩ := nodup_node hn
    by_cases hs : side k (v, i) = true
    · refine (put_step w k true b c r v i l h hn hs (fun w hw => ihr w hw m4)).mono ?_
      rintro e w' ⟨nb, h1, h2, h3, h4⟩
      have e1 : put k nb (.node b c l v i r) = part true (mk true b c (put k nb r) v i l) := by rw [put, if_pos hs]; rfl
      exact ⟨nb, h1, by rw [e1]; exact h2, by rw [e1]; exact h3, h4⟩
    · have hs' : side k (v, i) = false := by cases h : side k (v, i) <;> simp_all
      refine (put_step w k false b c l v i r h hn hs' (fun w hw => ihl w hw m3)).mono ?_
      rintro e w' ⟨nb, h1, h2, h3, h4⟩
      have e1 : put k nb (.node b c l v i r) = part false (mk false b c (put k nb l) v i r) := by rw [put, if_neg hs]; rfl
      exact ⟨nb, h1, by rw [e1]; exact h2, by rw [e1]; exact h3, h4⟩
end Go.Proofs.YtnnjbonejbmgdaaGreat.Tree

/- What Insert of package rbtree does. Conditions: the nodes lie apart, the keys are in order. -/
namespace Go.Proofs.YtnnjbonejbmgdaaGreat.Tree
open Go.ChangeShapes Go.WideShapes Go.ChangeAt Go.RowKit
set_option linter.unusedVariables false
set_option linter.unusedSimpArgs false
set_option maxRecDepth 100000

/-! ### Insert -/
/-- A tree that is kept: in order, low, its nodes apart from each other, from the tree's own block, and from what is in O. -/
structure Kept (w : World) (t : Nat) (O : Nat → Prop) (T : Tr) : Prop where
  top : Top w t T
  nodup : (t :: T.bl).Nodup
  sorted : Sorted T.keys
  ok : T.ok
  rr : T.rr
  black : T.red = false
  apart : ∀ b ∈ t :: T.bl, ¬ O b
theorem ink_at (T : Tr) (c : Bool) : (T.ink c).at = T.at := by cases T <;> rfl
theorem inked_top {w : World} {T : Tr} {b : Nat} (h : In w T) (hb : T.at = some ⟨b, 0, none⟩) (hn : T.bl.Nodup) : In (w.setCell ⟨b, 2, none⟩ (.bool false)) (T.ink false) ∧ b ∈ T.bl := by
  cases T with
  | nil => simp [Tr.at] at hb
  | node b' c l v i r =>
    simp [Tr.at] at hb
    subst hb
    obtain ⟨m1, m2, m3, m4, m5⟩ := nodup_node hn
    exact ⟨⟨h.1.setC false, h.2.1.setCell m1 _, h.2.2.setCell m2 _⟩, by simp [Tr.bl]⟩
theorem at_put (k : Ky) (nb : Nat) (T : Tr) (h : T.bl.Nodup) : ∃ b, (put k nb T).at = some ⟨b, 0, none⟩ := by
  cases hp : put k nb T with
  | nil =>
    have := (bl_put k nb T).length_eq
    rw [hp] at this
    simp [Tr.bl] at this
  | node b c l v i r => exact ⟨b, rfl⟩
/-- What is behind a call of Insert. -/
def Ins (k : Ky) (t : Nat) (O : Nat → Prop) (T : Tr) (w : World) (e : Ending) (w' : World) : Prop :=
  ∃ T', e = .returned (.bool true) ∧ Kept w' t O T' ∧ T'.keys = ins k T.keys ∧ Chg (fun b => b = t ∨ b ∈ T.bl) w w'
theorem in_at {w : World} {T : Tr} {b : Nat} (h : In w T) (hb : T.at = some ⟨b, 0, none⟩) : ∃ c l v i r, Nd w b c l v i r := by
  cases T with
  | nil => simp [Tr.at] at hb
  | node b' c l v i r =>
    simp [Tr.at] at hb
    subst hb
    exact ⟨_, _, _, _, _, h.1⟩
theorem set_top {w : World} {t : Nat} {c : Array Value} {ty : TypeId} (hb : w.heap[t]? = some (.cells c ty (0, 0))) (j : Nat) (u : Value) : (w.setCell ⟨t, j, none⟩ u).heap[t]? = some (.cells (c.setIfInBounds j u) ty (0, 0)) :=
  heap_setCell_same w t j c ty u hb
theorem len_ins (k : Ky) (l : List Ky) : (ins k l).length = l.length + 1 := by
  induction l with
  | nil => rfl
  | cons x l ih => unfold ins; split <;> simp [ih]
theorem ins_end {w w1 w2 : World} {t : Nat} {O : Nat → Prop} {T : Tr} {k : Ky} {nb pb : Nat} (h : Kept w t O T) (hk : k ∉ T.keys) (hO : ∀ b, O b → b < w.heap.size) (g1 : Below w.heap.size w w1) (hnb : w1.heap.size ≤ nb) (hi : In w2 (put k nb T)) (hc : Chg (fun b => b ∈ T.bl) w1 w2)
    (hpb : (put k nb T).at = some ⟨pb, 0, none⟩) :
    (∃ c l v i r, Nd w2 pb c l v i r) ∧ ¬ t = pb ∧ w2.heap[t]? = some (.cells #[.pointer T.at, .int .i64 T.keys.length] 175 (0, 0)) ∧
    ∀ W, Below w2.heap.size (((w2.setCell ⟨t, 0, none⟩ (.pointer (some ⟨pb, 0, none⟩))).setCell ⟨pb, 2, none⟩ (.bool false)).setCell ⟨t, 1, none⟩ (.int .i64 ((T.keys.length : Int) + 1))) W → Ins k t O T w (.returned (.bool true)) W := by
  obtain ⟨hn1, hn2⟩ := List.nodup_cons.1 h.nodup
  have ht := h.top.lt
  have hmem : ∀ b ∈ (put k nb T).bl, b = nb ∨ b ∈ T.bl := fun b hb => List.mem_cons.1 ((bl_put k nb T).mem_iff.1 hb)
  have hs1 := g1.size
  have htn : t ∉ (put k nb T).bl := fun e => (hmem t e).elim (fun e => by omega) hn1
  have hT : In w1 T := h.top.2.fresh g1
  have hnd := nodup_put (k := k) hT hn2 hnb
  obtain ⟨j1, j2⟩ := inked_top (hi.setCell (p := ⟨t, 0, none⟩) htn (.pointer (some ⟨pb, 0, none⟩))) hpb hnd
  have htp : ¬ t = pb := fun e => htn (e ▸ j2)
  have h2 : w2.heap[t]? = some (.cells #[.pointer T.at, .int .i64 T.keys.length] 175 (0, 0)) := by
    rw [hc.block t (by omega) hn1, g1.block t ht]; exact h.top.1
  refine ⟨in_at hi hpb, htp, h2, fun W hW => ⟨(put k nb T).ink false, rfl, ?_, ?_, ?_⟩⟩
  · obtain ⟨p1, p2, p3, p4⟩ := put_bal k nb T h.ok h.rr
    obtain ⟨o1, o2, o3⟩ := top_bal p1 p3
    refine ⟨⟨?_, ?_⟩, ?_, ?_, o1, o2, o3, ?_⟩
    · rw [hW.block t (by have := lt_of h2; omega), set_top (c := #[.pointer (some ⟨pb, 0, none⟩), .int .i64 T.keys.length]) (ty := 175)]
      · rw [keys_ink, keys_put k nb T h.sorted hk, len_ins, ink_at, hpb]
        simp
      · rw [Below.heap_setCell _ _ _ _ (fun e => htp (by simpa using e)), set_top h2]
        simp
    · have q := j1.setCell (p := ⟨t, 1, none⟩) (by rw [bl_ink]; exact htn) (.int .i64 ((T.keys.length : Int) + 1))
      exact q.on fun b hb => hW.block b (by have := q.lt b hb; simpa using this)
    · rw [List.nodup_cons, bl_ink]; exact ⟨htn, hnd⟩
    · rw [keys_ink, keys_put k nb T h.sorted hk]; exact sorted_ins h.sorted hk
    · intro b hb
      rw [bl_ink] at hb
      rcases List.mem_cons.1 hb with rfl | hb
      · exact h.apart _ (by simp)
      · rcases hmem b hb with rfl | hb
        · intro e; have := hO _ e; omega
        · exact h.apart b (by simp [hb])
  · rw [keys_ink, keys_put k nb T h.sorted hk]
  · have g2 : Chg (fun b => b = t ∨ b ∈ T.bl) w w2 := (Chg.of g1).trans hc (fun b _ hb => .inr hb)
    have g3 := ((g2.setCell (p := ⟨t, 0, none⟩) (fun _ => .inl rfl) (.pointer (some ⟨pb, 0, none⟩))).setCell (p := ⟨pb, 2, none⟩) (fun hl => (hmem pb j2).elim (fun e => by simp at hl; omega) .inr) (.bool false)).setCell (p := ⟨t, 1, none⟩) (fun _ => .inl rfl) (.int .i64 ((T.keys.length : Int) + 1))
    exact g3.then (by simpa using hW)
set_option maxHeartbeats 4000000 in
theorem inserts (w : World) (t : Nat) (O : Nat → Prop) (T : Tr) (k : Ky) (h : Kept w t O T) (hk : k ∉ T.keys) (hO : ∀ b, O b → b < w.heap.size) (hlen : T.keys.length ≤ 1000) :
    Calls Tryz.prog 152 #[.pointer (some ⟨t, 0, none⟩), .agg #[.int .i64 k.1, .int .i64 k.2]] w (Ins k t O T w) := by
  have A := Lib.hid (fun w h => hass w t T k h)
  rw [has_mem k T h.sorted] at A
  rw [show decide (k ∈ T.keys) = false by simpa using hk] at A
  have B := Lib.hid (fun w h hn => puts k T w h hn)
  have H := Lib.hid h
  obtain ⟨c0, c1, fz⟩ := h.top.cells
  have ht := h.top.lt
  obtain ⟨k1, k2⟩ := k
  obtain ⟨aT, eaT⟩ : ∃ a, T.at = a := ⟨_, rfl⟩
  rw [eaT] at c0 B
  have hg := Below.refl w.heap.size w
  have E := Lib.hid (fun w1 w2 nb pb g1 hnb hi hc hpb => ins_end (w1 := w1) (w2 := w2) (nb := nb) (pb := pb) h hk hO g1 hnb hi hc hpb)
  have N : Hid T.bl.Nodup := (List.nodup_cons.1 h.nodup).2
  clear h hk
  generalize hlen' : T.keys.length = len at *
  go_enter Tryz.func152, Tryz.ntmps152
  go_wp2_with (go_at_call 172; refine (A.out _ (H.out.top.fresh ((Below.refl _ w).alloc (Nat.le_refl _) _))).mono ?_; rintro e w1 ⟨rfl, hg1⟩; obtain ⟨d0, d1, dz, dd⟩ := new_two hg1; replace hg : Below w.heap.size w w1 := fresh_trans ((Below.refl _ w).alloc (Nat.le_refl _) _) hg1; clear hg1)
  have x0 := (hg.cell (p := ⟨t, 0, none⟩) ht).trans c0
  have x1 := (hg.cell (p := ⟨t, 1, none⟩) ht).trans c1
  rw [eaT] at E
  go_region_with (go_at_call 175; refine (B.out _ (H.out.top.2.fresh hg).drew N.out).mono ?_; rintro e w2 ⟨nb, hnb, rfl, hi2, hc2⟩; obtain ⟨pb, hpb⟩ := at_put (k1, k2) nb T N.out; obtain ⟨⟨pc, pl, pv, pi, pr, hnd⟩, htp, ht2, hW⟩ := E.out w1 w2 nb pb hg hnb hi2 hc2.on hpb; rw [hpb]; obtain ⟨z0, z1, z2, z3, z4, zf⟩ := hnd.cells; have y0 := cell_of_row w2 t 0 _ _ _ ht2; have y1 := cell_of_row w2 t 1 _ _ _ ht2; have yf := fun j => frozen_of_row w2 t j _ _ ht2; have Q := Lib.hid hW; clear hi2 hc2 hnd ht2 hW hnb hpb)
  all_goals
    have htp' : ¬ pb = t := fun e => htp e.symm
    go_wp2_with fail
    go_ret
    trace_state
    exact Q.out _ (Below.refl _ _)
end Go.Proofs.YtnnjbonejbmgdaaGreat.Tree

/- What refill of package rbtree does. Conditions: the nodes lie apart; the other side has a node. -/
namespace Go.Proofs.YtnnjbonejbmgdaaGreat.Tree
open Go.ChangeShapes Go.WideShapes Go.ChangeAt Go.RowKit
set_option linter.unusedVariables false
set_option linter.unusedSimpArgs false
set_option maxRecDepth 100000

/-- A tree and a bool told, and what has changed. -/
def Tk (R : Tr × Bool) (B : Nat → Prop) (w : World) (e : Ending) (w' : World) : Prop := e = .returned (.tuple #[.pointer R.1.at, .bool R.2]) ∧ In w' R.1 ∧ Chg B w w'
theorem nd_at {w : World} {T : Tr} {b : Nat} (h : In w T) (hb : T.at = some ⟨b, 0, none⟩) : b ∈ T.bl ∧ ∃ c l v i r, Nd w b c l v i r := by
  cases T with
  | nil => simp [Tr.at] at hb
  | node b' c l v i r =>
    simp [Tr.at] at hb
    subst hb
    exact ⟨by simp [Tr.bl], _, _, _, _, _, h.1⟩
theorem in_ink {w : World} {T : Tr} {b : Nat} {c : Bool} (h : In w T) (hb : T.at = some ⟨b, 0, none⟩) (hn : T.bl.Nodup) : In (w.setCell ⟨b, 2, none⟩ (.bool c)) (T.ink c) := by
  cases T with
  | nil => simp [Tr.at] at hb
  | node b' c l v i r =>
    simp [Tr.at] at hb
    subst hb
    obtain ⟨m1, m2, m3, m4, m5⟩ := nodup_node hn
    exact ⟨h.1.setC _, h.2.1.setCell m1 _, h.2.2.setCell m2 _⟩
/-- Two nodes below one get black. -/
theorem ink2 {w : World} {U : Nat} {c : Bool} {L : Tr} {v i : Int} {R : Tr} {lb rb : Nat} (h : In w (.node U c L v i R)) (hn : (Tr.node U c L v i R).bl.Nodup) (hl : L.at = some ⟨lb, 0, none⟩) (hr : R.at = some ⟨rb, 0, none⟩) :
    Nd w U c (some ⟨lb, 0, none⟩) v i (some ⟨rb, 0, none⟩) ∧ (∃ c l v i r, Nd w lb c l v i r) ∧ (∃ c l v i r, Nd w rb c l v i r) ∧ ¬ lb = rb ∧ In ((w.setCell ⟨lb, 2, none⟩ (.bool false)).setCell ⟨rb, 2, none⟩ (.bool false)) (.node U c (L.ink false) v i (R.ink false)) ∧
    Chg (fun k => k ∈ (Tr.node U c L v i R).bl) w ((w.setCell ⟨lb, 2, none⟩ (.bool false)).setCell ⟨rb, 2, none⟩ (.bool false)) := by
  obtain ⟨h1, h2, h3⟩ := h
  obtain ⟨m1, m2, m3, m4, m5⟩ := nodup_node hn
  obtain ⟨l1, l2⟩ := nd_at h2 hl
  obtain ⟨r1, r2⟩ := nd_at h3 hr
  have hlr : ¬ lb = rb := fun e => m5 lb l1 (e ▸ r1)
  have hUl : U ≠ lb := fun e => m1 (e ▸ l1)
  have hUr : U ≠ rb := fun e => m2 (e ▸ r1)
  rw [hl, hr] at h1
  refine ⟨h1, l2, r2, hlr, ⟨?_, ?_, ?_⟩, ?_⟩
  · rw [at_ink, at_ink, hl, hr]
    exact (h1.other hUl _).other hUr _
  · refine (in_ink h2 hl m3).setCell ?_ _
    rw [bl_ink]
    exact fun e => m5 rb e r1
  · exact in_ink (h3.setCell (fun e => m5 lb l1 e) _) hr m4
  · exact ((Chg.refl _ w).setCell (fun _ => by simp [Tr.bl, l1]) _).setCell (fun _ => by simp [Tr.bl, r1]) _

theorem filled2 (w : World) (s : Bool) (n : Nat) (c : Bool) (x : Tr) (v i : Int) (O : Nat) (P : Tr) (v1 i1 : Int) (Q : Tr) (h : In w (mk s n c x v i (mk s O false P v1 i1 Q))) (hn : (mk s n c x v i (mk s O false P v1 i1 Q)).bl.Nodup) (hp : P.red = false) (hq : Q.red = false) :
    Calls Tryz.prog 185 #[.pointer (some ⟨n, 0, none⟩), .int .i64 (num s)] w (Tk (mk s n false x v i (mk s O true P v1 i1 Q), !c) (fun k => k ∈ (mk s n c x v i (mk s O false P v1 i1 Q)).bl) w) := by
  obtain ⟨h1, h2, h3⟩ := in_mk.1 h
  obtain ⟨g1, g2, g3⟩ := in_mk.1 h3
  obtain ⟨n1, n2, n3, n4, n5⟩ := nodup_mk.1 hn
  obtain ⟨m1, m2, m3, m4, m5⟩ := nodup_mk.1 n4
  have hnO : ¬ n = O := fun e => n2 (bl_mk.2 (.inl e))
  have hOn : ¬ O = n := fun e => hnO e.symm
  have K : Hid (In ((w.setCell ⟨n, 2, none⟩ (.bool false)).setCell ⟨O, 2, none⟩ (.bool true)) (mk s n false x v i (mk s O true P v1 i1 Q)) ∧ Chg (fun k => k ∈ (mk s n c x v i (mk s O false P v1 i1 Q)).bl) w ((w.setCell ⟨n, 2, none⟩ (.bool false)).setCell ⟨O, 2, none⟩ (.bool true))) := by
    have chg : Chg (fun k => k = n ∨ k = O) w ((w.setCell ⟨n, 2, none⟩ (.bool false)).setCell ⟨O, 2, none⟩ (.bool true)) := ((Chg.refl _ w).setCell (fun _ => .inl rfl) _).setCell (fun _ => .inr rfl) _
    refine ⟨in_mk.2 ⟨?_, h2.chg chg ?_, in_mk.2 ⟨?_, g2.chg chg ?_, g3.chg chg ?_⟩⟩, chg.mono ?_⟩
    · rw [at_mk] at h1 ⊢; exact (h1.setC false).other hnO _
    · rintro k hk (rfl | rfl)
      · exact n1 hk
      · exact n5 _ hk (bl_mk.2 (.inl rfl))
    · exact (g1.other hOn _).setC true
    · rintro k hk (rfl | rfl)
      · exact n2 (bl_mk.2 (.inr (.inl hk)))
      · exact m1 hk
    · rintro k hk (rfl | rfl)
      · exact n2 (bl_mk.2 (.inr (.inr hk)))
      · exact m2 hk
    · rintro k _ (rfl | rfl)
      · exact bl_mk.2 (.inl rfl)
      · exact bl_mk.2 (.inr (.inr (bl_mk.2 (.inl rfl))))
  obtain ⟨a0, a1, a2, a3, a4, af⟩ := h1.cells
  obtain ⟨b0, b1, b2, b3, b4, bf⟩ := g1.cells
  have RO := Lib.hid (isRed_node w g1)
  have RP := Lib.hid (isRed w g2)
  have RQ := Lib.hid (isRed w g3)
  have OL := Lib.hid (onLeft w g1)
  have OR := Lib.hid (onRight w g1)
  rw [at_mk] at a3 a4
  rw [hp] at RP
  rw [hq] at RQ
  obtain ⟨ax, eax⟩ : ∃ a, x.at = a := ⟨_, rfl⟩
  obtain ⟨ap, eap⟩ : ∃ a, P.at = a := ⟨_, rfl⟩
  obtain ⟨aq, eaq⟩ : ∃ a, Q.at = a := ⟨_, rfl⟩
  rw [eax] at a3 a4
  rw [eap] at RP OL OR b3 b4
  rw [eaq] at RQ OL OR b3 b4
  clear h h1 h2 h3 g1 g2 g3 hn n1 n2 n3 n4 n5 m1 m2 m3 m4 m5 hp hq eax eap eaq
  cases s
  all_goals
    simp only [num, if_true, if_false, Bool.false_eq_true] at a3 a4 b3 b4 OL OR ⊢
    go_enter Tryz.func185, Tryz.ntmps185
    go_wp2_with (first
      | (go_at_call_of 189 O; refine (RO.out).mono ?_; rintro e w1 ⟨rfl, rfl⟩)
      | (go_at_call_of 189 ap; refine (RP.out).mono ?_; rintro e w1 ⟨rfl, rfl⟩)
      | (go_at_call_of 189 aq; refine (RQ.out).mono ?_; rintro e w1 ⟨rfl, rfl⟩)
      | (go_at_call 168; refine (OL.out).mono ?_; rintro e w1 ⟨rfl, rfl⟩)
      | (go_at_call 169; refine (OR.out).mono ?_; rintro e w1 ⟨rfl, rfl⟩))
    go_ret2
    exact ⟨by rw [at_mk]; rfl, K.out.1, K.out.2⟩

/-- What is behind the turn: both below get black. -/
theorem turned_end {w w2 : World} {s : Bool} {U : Nat} {c : Bool} {X : Tr} {v i : Int} {Y : Tr} {xb yb : Nat} {bl : List Nat} (h : In w2 (mk s U c X v i Y)) (hn : (mk s U c X v i Y).bl.Nodup) (hx : X.at = some ⟨xb, 0, none⟩) (hy : Y.at = some ⟨yb, 0, none⟩)
    (hb : ∀ k ∈ (mk s U c X v i Y).bl, k < w.heap.size → k ∈ bl) (g : Chg (fun k => k ∈ bl) w w2) :
    Nd w2 U c (if s then some ⟨yb, 0, none⟩ else some ⟨xb, 0, none⟩) v i (if s then some ⟨xb, 0, none⟩ else some ⟨yb, 0, none⟩) ∧ (∃ c l v i r, Nd w2 xb c l v i r) ∧ (∃ c l v i r, Nd w2 yb c l v i r) ∧ ¬ xb = yb ∧
    In ((w2.setCell ⟨if s then yb else xb, 2, none⟩ (.bool false)).setCell ⟨if s then xb else yb, 2, none⟩ (.bool false)) (mk s U c (X.ink false) v i (Y.ink false)) ∧
    Chg (fun k => k ∈ bl) w ((w2.setCell ⟨if s then yb else xb, 2, none⟩ (.bool false)).setCell ⟨if s then xb else yb, 2, none⟩ (.bool false)) := by
  cases s
  · obtain ⟨q1, q2, q3, q4, q5, q6⟩ := ink2 h hn hx hy
    exact ⟨q1, q2, q3, q4, q5, g.trans q6 (fun k hk e => hb k e hk)⟩
  · obtain ⟨q1, q2, q3, q4, q5, q6⟩ := ink2 h hn hy hx
    exact ⟨q1, q3, q2, fun e => q4 e.symm, q5, g.trans q6 (fun k hk e => hb k e hk)⟩
theorem filled4 (w : World) (s : Bool) (n : Nat) (c : Bool) (x : Tr) (v i : Int) (O : Nat) (P : Tr) (v1 i1 : Int) (Q : Tr) (qb : Nat) (h : In w (mk s n c x v i (mk s O false P v1 i1 Q))) (hn : (mk s n c x v i (mk s O false P v1 i1 Q)).bl.Nodup) (hq : Q.red = true) (hqb : Q.at = some ⟨qb, 0, none⟩) :
    Calls Tryz.prog 185 #[.pointer (some ⟨n, 0, none⟩), .int .i64 (num s)] w (Tk (mk s O c (mk s n false x v i P) v1 i1 (Q.ink false), false) (fun k => k ∈ (mk s n c x v i (mk s O false P v1 i1 Q)).bl) w) := by
  have TU := Lib.hid (turned w s n O c false x P Q v i v1 i1 h hn)
  have E : Hid (∀ w2, In w2 (mk s O c (mk s n true x v i P) v1 i1 Q) → Chg (fun k => k = n ∨ k = O) w w2 → Nd w2 O c (if s then some ⟨qb, 0, none⟩ else some ⟨n, 0, none⟩) v1 i1 (if s then some ⟨n, 0, none⟩ else some ⟨qb, 0, none⟩) ∧ (∃ c l v i r, Nd w2 n c l v i r) ∧ (∃ c l v i r, Nd w2 qb c l v i r) ∧ ¬ n = qb ∧
      In ((w2.setCell ⟨if s then qb else n, 2, none⟩ (.bool false)).setCell ⟨if s then n else qb, 2, none⟩ (.bool false)) (mk s O c (mk s n false x v i P) v1 i1 (Q.ink false)) ∧
      Chg (fun k => k ∈ (mk s n c x v i (mk s O false P v1 i1 Q)).bl) w ((w2.setCell ⟨if s then qb else n, 2, none⟩ (.bool false)).setCell ⟨if s then n else qb, 2, none⟩ (.bool false))) := by
    intro w2 hw g
    have hp : (mk s O c (mk s n true x v i P) v1 i1 Q).bl.Perm (mk s n c x v i (mk s O false P v1 i1 Q)).bl := by rw [← turn_mk (d := false)]; exact bl_turn _ _
    have := turned_end (w := w) (bl := (mk s n c x v i (mk s O false P v1 i1 Q)).bl) hw (hp.nodup_iff.2 hn) (at_mk _ _ _ _ _ _ _) hqb (fun k hk _ => hp.mem_iff.1 hk) (g.mono (by
      rintro k _ (rfl | rfl)
      · exact bl_mk.2 (.inl rfl)
      · exact bl_mk.2 (.inr (.inr (bl_mk.2 (.inl rfl))))))
    rw [show (mk s n true x v i P).ink false = mk s n false x v i P by cases s <;> rfl] at this
    exact this
  obtain ⟨h1, h2, h3⟩ := in_mk.1 h
  obtain ⟨g1, g2, g3⟩ := in_mk.1 h3
  obtain ⟨a0, a1, a2, a3, a4, af⟩ := h1.cells
  obtain ⟨b0, b1, b2, b3, b4, bf⟩ := g1.cells
  have RO := Lib.hid (isRed_node w g1)
  have RP := Lib.hid (isRed w g2)
  have RQ := Lib.hid (isRed w g3)
  have OL := Lib.hid (onLeft w g1)
  have OR := Lib.hid (onRight w g1)
  rw [at_mk] at a3 a4
  rw [hq] at RQ
  obtain ⟨ax, eax⟩ : ∃ a, x.at = a := ⟨_, rfl⟩
  obtain ⟨ap, eap⟩ : ∃ a, P.at = a := ⟨_, rfl⟩
  rw [eax] at a3 a4
  rw [eap] at RP OL OR b3 b4
  rw [hqb] at RQ OL OR b3 b4
  have e1 : (mk s O c (mk s n false x v i P) v1 i1 (Q.ink false)).at = (mk s O c (mk s n true x v i P) v1 i1 Q).at := by rw [at_mk, at_mk]
  have e2 : (mk s O c (mk s n true x v i P) v1 i1 Q).at = some ⟨O, 0, none⟩ := at_mk _ _ _ _ _ _ _
  clear h h1 h2 h3 g1 g2 g3 hn hq eax eap hqb
  generalize (mk s n c x v i (mk s O false P v1 i1 Q)).bl = bl at *
  generalize mk s O c (mk s n false x v i P) v1 i1 (Q.ink false) = R at *
  unfold Wr at TU
  rw [e2] at TU e1
  have E1 := Lib.hid e1
  clear e1 e2
  generalize mk s O c (mk s n true x v i P) v1 i1 Q = R1 at *
  generalize P.red = pr at *
  cases pr
  all_goals
    cases s
    all_goals
      simp only [num, if_true, if_false, Bool.false_eq_true] at a3 a4 b3 b4 OL OR E TU ⊢
      go_enter Tryz.func185, Tryz.ntmps185
      go_wp2_with (first
        | (go_at_call_of 189 O; refine (RO.out).mono ?_; rintro e w1 ⟨rfl, rfl⟩)
        | (go_at_call_of 189 ap; refine (RP.out).mono ?_; rintro e w1 ⟨rfl, rfl⟩)
        | (go_at_call_of 189 qb; refine (RQ.out).mono ?_; rintro e w1 ⟨rfl, rfl⟩)
        | (go_at_call 168; refine (OL.out).mono ?_; rintro e w1 ⟨rfl, rfl⟩)
        | (go_at_call 169; refine (OR.out).mono ?_; rintro e w1 ⟨rfl, rfl⟩)
        | (go_at_call 190; refine (TU.out).mono ?_; rintro e w2 ⟨rfl, hw1, hw2⟩; obtain ⟨q1, ⟨_, _, _, _, _, q2⟩, ⟨_, _, _, _, _, q3⟩, q4, q5⟩ := E.out w2 hw1 hw2; replace OL := Lib.hid (onLeft w2 q1); replace OR := Lib.hid (onRight w2 q1); obtain ⟨y0, y1, y2, y3, y4, yf⟩ := q2.cells; obtain ⟨z0, z1, z2, z3, z4, zf⟩ := q3.cells; have Q5 := Lib.hid q5; have q6 : ¬ qb = n := fun e => q4 e.symm; clear hw1 hw2 q1 q2 q3 q5))
      go_ret2
      exact ⟨by simp only [E1.out]; rfl, Q5.out.1, Q5.out.2⟩
end Go.Proofs.YtnnjbonejbmgdaaGreat.Tree

/- What refill of package rbtree does. Conditions: the nodes lie apart; the other side has a node. -/
namespace Go.Proofs.YtnnjbonejbmgdaaGreat.Tree
open Go.ChangeShapes Go.WideShapes Go.ChangeAt Go.RowKit
set_option linter.unusedVariables false
set_option linter.unusedSimpArgs false
set_option maxRecDepth 100000

set_option maxHeartbeats 2000000 in
theorem filled3 (w : World) (s : Bool) (n : Nat) (c : Bool) (x : Tr) (v i : Int) (O : Nat) (PI : Nat) (B1 : Tr) (vp ip : Int) (C1 : Tr) (v1 i1 : Int) (Q : Tr) (h : In w (mk s n c x v i (mk s O false (mk (!s) PI true B1 vp ip C1) v1 i1 Q))) (hn : (mk s n c x v i (mk s O false (mk (!s) PI true B1 vp ip C1) v1 i1 Q)).bl.Nodup) (hq : Q.red = false) :
    Calls Tryz.prog 185 #[.pointer (some ⟨n, 0, none⟩), .int .i64 (num s)] w (Tk (mk s PI c (mk s n false x v i C1) vp ip (mk (!s) O false Q v1 i1 B1), false) (fun k => k ∈ (mk s n c x v i (mk s O false (mk (!s) PI true B1 vp ip C1) v1 i1 Q)).bl) w) := by
  have eO : mk s O false (mk (!s) PI true B1 vp ip C1) v1 i1 Q = mk (!s) O false Q v1 i1 (mk (!s) PI true B1 vp ip C1) := mk_not _ _ _ _ _ _ _
  have eT : mk s n c x v i (mk s O false (mk (!s) PI true B1 vp ip C1) v1 i1 Q) = mk (!s) n c (mk s O false (mk (!s) PI true B1 vp ip C1) v1 i1 Q) v i x := mk_not _ _ _ _ _ _ _
  have hO : In w (mk s O false (mk (!s) PI true B1 vp ip C1) v1 i1 Q) := (in_mk.1 h).2.2
  have nO := (nodup_mk.1 hn).2.2.2.1
  have P1 : (mk (!s) PI false (mk (!s) O true Q v1 i1 B1) vp ip C1).bl.Perm (mk s O false (mk (!s) PI true B1 vp ip C1) v1 i1 Q).bl := by
    rw [eO, ← turn_mk (c := false) (d := true)]; exact bl_turn _ _
  have P2 : (mk (!s) n c (mk (!s) PI false (mk (!s) O true Q v1 i1 B1) vp ip C1) v i x).bl.Perm (mk s n c x v i (mk s O false (mk (!s) PI true B1 vp ip C1) v1 i1 Q)).bl := by
    rw [eT]
    exact bl_mk'.trans (((P1.append_right _).cons _).trans bl_mk'.symm)
  have e2 : mk (!s) n c (mk (!s) PI false (mk (!s) O true Q v1 i1 B1) vp ip C1) v i x = mk s n c x v i (mk s PI false C1 vp ip (mk (!s) O true Q v1 i1 B1)) := by rw [mk_not s n, mk_not s PI]
  have P3 : (mk s PI c (mk s n true x v i C1) vp ip (mk (!s) O true Q v1 i1 B1)).bl.Perm (mk s n c x v i (mk s O false (mk (!s) PI true B1 vp ip C1) v1 i1 Q)).bl := by
    rw [← turn_mk (d := false), ← e2]; exact (bl_turn _ _).trans P2
  have TU1 := Lib.hid (fun w h => turned w (!s) O PI false true Q B1 C1 v1 i1 vp ip h (eO ▸ nO))
  rw [← eO] at TU1
  have TU2 := Lib.hid (fun w h => turned w s n PI c false x C1 (mk (!s) O true Q v1 i1 B1) v i vp ip h (e2 ▸ (P2.nodup_iff.2 hn)))
  rw [← e2] at TU2
  have S2 : Hid (∀ w1, In w1 (mk (!s) PI false (mk (!s) O true Q v1 i1 B1) vp ip C1) → Chg (fun k => k = O ∨ k = PI) w w1 → Nd w1 n c (if s then some ⟨O, 0, none⟩ else x.at) v i (if s then x.at else some ⟨O, 0, none⟩) ∧
      In (w1.setCell ⟨n, if s then 3 else 4, none⟩ (.pointer (mk (!s) PI false (mk (!s) O true Q v1 i1 B1) vp ip C1).at)) (mk (!s) n c (mk (!s) PI false (mk (!s) O true Q v1 i1 B1) vp ip C1) v i x) ∧
      Chg (fun k => k ∈ (mk s n c x v i (mk s O false (mk (!s) PI true B1 vp ip C1) v1 i1 Q)).bl) w (w1.setCell ⟨n, if s then 3 else 4, none⟩ (.pointer (mk (!s) PI false (mk (!s) O true Q v1 i1 B1) vp ip C1).at))) := by
    intro w1 hx g
    have := hung (eT ▸ h) (eT ▸ hn) (x' := mk (!s) PI false (mk (!s) O true Q v1 i1 B1) vp ip C1) (B := fun k => k = O ∨ k = PI) ?_ hx ?_ g
    · rw [← eT, at_mk s O] at this
      cases s
      · exact this
      · exact this
    · rintro k _ (rfl | rfl)
      · exact bl_mk.2 (.inl rfl)
      · exact bl_mk.2 (.inr (.inl (bl_mk.2 (.inl rfl))))
    · intro k hk
      exact .inl (P1.mem_iff.1 hk)
  have E : Hid (∀ w1 w2, Chg (fun k => k ∈ (mk s n c x v i (mk s O false (mk (!s) PI true B1 vp ip C1) v1 i1 Q)).bl) w w1 → In w2 (mk s PI c (mk s n true x v i C1) vp ip (mk (!s) O true Q v1 i1 B1)) → Chg (fun k => k = n ∨ k = PI) w1 w2 → Nd w2 PI c (if s then some ⟨O, 0, none⟩ else some ⟨n, 0, none⟩) vp ip (if s then some ⟨n, 0, none⟩ else some ⟨O, 0, none⟩) ∧ (∃ c l v i r, Nd w2 n c l v i r) ∧ (∃ c l v i r, Nd w2 O c l v i r) ∧ ¬ n = O ∧
      In ((w2.setCell ⟨if s then O else n, 2, none⟩ (.bool false)).setCell ⟨if s then n else O, 2, none⟩ (.bool false)) (mk s PI c (mk s n false x v i C1) vp ip (mk (!s) O false Q v1 i1 B1)) ∧
      Chg (fun k => k ∈ (mk s n c x v i (mk s O false (mk (!s) PI true B1 vp ip C1) v1 i1 Q)).bl) w ((w2.setCell ⟨if s then O else n, 2, none⟩ (.bool false)).setCell ⟨if s then n else O, 2, none⟩ (.bool false))) := by
    intro w1 w2 g1 hw g
    have := turned_end (w := w) (bl := (mk s n c x v i (mk s O false (mk (!s) PI true B1 vp ip C1) v1 i1 Q)).bl) hw (P3.nodup_iff.2 hn) (at_mk _ _ _ _ _ _ _) (at_mk _ _ _ _ _ _ _) (fun k hk _ => P3.mem_iff.1 hk) (g1.trans g (by
      rintro k _ (rfl | rfl)
      · exact bl_mk.2 (.inl rfl)
      · exact bl_mk.2 (.inr (.inr (bl_mk.2 (.inr (.inl (bl_mk.2 (.inl rfl)))))))))
    rw [show (mk s n true x v i C1).ink false = mk s n false x v i C1 by cases s <;> rfl, show (mk (!s) O true Q v1 i1 B1).ink false = mk (!s) O false Q v1 i1 B1 by cases s <;> rfl] at this
    exact this
  obtain ⟨h1, h2, h3⟩ := in_mk.1 h
  obtain ⟨g1, g2, g3⟩ := in_mk.1 h3
  have HO := Lib.hid hO
  obtain ⟨a0, a1, a2, a3, a4, af⟩ := h1.cells
  obtain ⟨b0, b1, b2, b3, b4, bf⟩ := g1.cells
  have RO := Lib.hid (isRed_node w g1)
  have RP := Lib.hid (isRed w g2)
  have RQ := Lib.hid (isRed w g3)
  have OL := Lib.hid (onLeft w g1)
  have OR := Lib.hid (onRight w g1)
  rw [at_mk] at a3 a4
  rw [hq] at RQ
  rw [red_mk] at RP
  obtain ⟨ax, eax⟩ : ∃ a, x.at = a := ⟨_, rfl⟩
  obtain ⟨aq, eaq⟩ : ∃ a, Q.at = a := ⟨_, rfl⟩
  rw [eax] at a3 a4 S2
  rw [at_mk] at RP OL OR b3 b4
  rw [eaq] at RQ OL OR b3 b4
  have e3 : (mk s PI c (mk s n false x v i C1) vp ip (mk (!s) O false Q v1 i1 B1)).at = some ⟨PI, 0, none⟩ := at_mk _ _ _ _ _ _ _
  have e4 : (mk s PI c (mk s n true x v i C1) vp ip (mk (!s) O true Q v1 i1 B1)).at = some ⟨PI, 0, none⟩ := at_mk _ _ _ _ _ _ _
  clear h h1 h2 h3 g1 g2 g3 hn hq eax eaq P1 P2 P3 eT e2 hO nO
  generalize (mk s n c x v i (mk s O false (mk (!s) PI true B1 vp ip C1) v1 i1 Q)).bl = bl at *
  generalize mk s O false (mk (!s) PI true B1 vp ip C1) v1 i1 Q = T0 at *
  generalize mk s PI c (mk s n false x v i C1) vp ip (mk (!s) O false Q v1 i1 B1) = R at *
  unfold Wr at TU2
  rw [e4] at TU2
  have E3 := Lib.hid e3
  clear e3 e4 eO
  generalize mk s PI c (mk s n true x v i C1) vp ip (mk (!s) O true Q v1 i1 B1) = R2 at *
  generalize mk (!s) n c (mk (!s) PI false (mk (!s) O true Q v1 i1 B1) vp ip C1) v i x = T2 at *
  generalize mk (!s) PI false (mk (!s) O true Q v1 i1 B1) vp ip C1 = R1 at *
  cases s
  all_goals
    simp only [num, if_true, if_false, Bool.false_eq_true, Bool.not_true, Bool.not_false] at a3 a4 b3 b4 OL OR E TU1 TU2 S2 ⊢
    go_enter Tryz.func185, Tryz.ntmps185
    go_wp2_with (first
      | (go_at_call_of 189 O; refine (RO.out).mono ?_; rintro e w1 ⟨rfl, rfl⟩)
      | (go_at_call_of 189 PI; refine (RP.out).mono ?_; rintro e w1 ⟨rfl, rfl⟩)
      | (go_at_call_of 189 aq; refine (RQ.out).mono ?_; rintro e w1 ⟨rfl, rfl⟩)
      | (go_at_call 168; refine (OL.out).mono ?_; rintro e w1 ⟨rfl, rfl⟩)
      | (go_at_call 169; refine (OR.out).mono ?_; rintro e w1 ⟨rfl, rfl⟩))
    go_region_with (go_at_call 190; refine (TU1.out _ HO.out.drew).mono ?_; rintro e w1 ⟨rfl, hw1, hw2⟩; obtain ⟨hA, hB⟩ := S2.out w1 hw1 hw2.on; obtain ⟨e0', e1', e2', e3', e4', ef'⟩ := hA.cells; have W1 := Lib.hid hB; clear hw1 hw2 hA hB)
    all_goals
      go_wp2_with (first
        | (go_at_call 190; refine (TU2.out _ W1.out.1).mono ?_; rintro e w2 ⟨rfl, hw1, hw2⟩; obtain ⟨q1, ⟨_, _, _, _, _, q2⟩, ⟨_, _, _, _, _, q3⟩, q4, q5⟩ := E.out _ w2 W1.out.2 hw1 hw2; replace OL := Lib.hid (onLeft w2 q1); replace OR := Lib.hid (onRight w2 q1); obtain ⟨y0, y1, y2, y3, y4, yf⟩ := q2.cells; obtain ⟨z0, z1, z2, z3, z4, zf⟩ := q3.cells; have Q5 := Lib.hid q5; have q6 : ¬ O = n := fun e => q4 e.symm; clear hw1 hw2 q1 q2 q3 q5)
        | (go_at_call 168; refine (OL.out).mono ?_; rintro e w1 ⟨rfl, rfl⟩)
        | (go_at_call 169; refine (OR.out).mono ?_; rintro e w1 ⟨rfl, rfl⟩))
      go_ret2
      exact ⟨by simp only [E3.out]; rfl, Q5.out.1, Q5.out.2⟩

/-- Where the other side is black, and not nothing. -/
theorem filledB (w : World) (s : Bool) (n : Nat) (c : Bool) (x : Tr) (v i : Int) (O : Nat) (P : Tr) (v1 i1 : Int) (Q : Tr) (h : In w (mk s n c x v i (mk s O false P v1 i1 Q))) (hn : (mk s n c x v i (mk s O false P v1 i1 Q)).bl.Nodup) :
    Calls Tryz.prog 185 #[.pointer (some ⟨n, 0, none⟩), .int .i64 (num s)] w (Tk (fillB s (mk s n c x v i (mk s O false P v1 i1 Q))) (fun k => k ∈ (mk s n c x v i (mk s O false P v1 i1 Q)).bl) w) := by
  have kid2 : ∀ (s : Bool) (P Q : Tr), ((mk s O false P v1 i1 Q).kid false).red = false ∧ ((mk s O false P v1 i1 Q).kid true).red = false ↔ P.red = false ∧ Q.red = false := by
    intro s P Q
    cases s
    · exact Iff.rfl
    · exact And.comm
  have F : fillB s (mk s n c x v i (mk s O false P v1 i1 Q)) = if P.red = false ∧ Q.red = false then (mk s n false x v i (mk s O true P v1 i1 Q), !c) else
      let U := turn s (if Q.red then mk s n c x v i (mk s O false P v1 i1 Q) else mk s n c x v i (turn (!s) (mk s O false P v1 i1 Q)))
      ((U.hang false ((U.kid false).ink false)).hang true ((U.kid true).ink false), false) := by
    unfold fillB
    simp only [kid_mk', red_mk, true_and, hang_mk', kid2]
    split
    · cases s <;> rfl
    · rfl
  have bothI : ∀ (U : Nat) (c : Bool) (X : Tr) (v i : Int) (Y : Tr), (((mk s U c X v i Y).hang false (((mk s U c X v i Y).kid false).ink false)).hang true (((mk s U c X v i Y).kid true).ink false)) = mk s U c (X.ink false) v i (Y.ink false) := by
    intro U c X v i Y
    cases s <;> rfl
  by_cases hpq : P.red = false ∧ Q.red = false
  · rw [F, if_pos hpq]
    exact filled2 w s n c x v i O P v1 i1 Q h hn hpq.1 hpq.2
  rw [F, if_neg hpq]
  cases hq : Q.red
  · simp only [Bool.false_eq_true, if_false]
    have hp : P.red = true := by cases hp : P.red; exact absurd ⟨hp, hq⟩ hpq; rfl
    clear F hpq
    cases P with
    | nil => simp [Tr.red] at hp
    | node PI d l vp ip r =>
      simp only [Tr.red] at hp
      subst hp
      rw [node_mk (!s) PI] at h hn ⊢
      generalize (Tr.node PI true l vp ip r).kid (!s) = B1 at *
      generalize (Tr.node PI true l vp ip r).kid (!(!s)) = C1 at *
      have e1 : turn (!s) (mk s O false (mk (!s) PI true B1 vp ip C1) v1 i1 Q) = mk (!s) PI false (mk (!s) O true Q v1 i1 B1) vp ip C1 := by rw [mk_not s O, turn_mk]
      have e2 : turn s (mk s n c x v i (mk (!s) PI false (mk (!s) O true Q v1 i1 B1) vp ip C1)) = mk s PI c (mk s n true x v i C1) vp ip (mk (!s) O true Q v1 i1 B1) := by rw [mk_not (!s) PI, Bool.not_not, turn_mk]
      rw [e1, e2, bothI, show (mk s n true x v i C1).ink false = mk s n false x v i C1 by cases s <;> rfl, show (mk (!s) O true Q v1 i1 B1).ink false = mk (!s) O false Q v1 i1 B1 by cases s <;> rfl]
      exact filled3 w s n c x v i O PI B1 vp ip C1 v1 i1 Q h hn hq
  · simp only [if_true]
    cases Q with
    | nil => simp [Tr.red] at hq
    | node qb d l vq iq r =>
      rw [turn_mk, bothI, show (mk s n true x v i P).ink false = mk s n false x v i P by cases s <;> rfl]
      exact filled4 w s n c x v i O P v1 i1 _ qb h hn hq rfl
end Go.Proofs.YtnnjbonejbmgdaaGreat.Tree

/- What refill, without and take of package rbtree do. Conditions: the nodes lie apart; the keys are in order; the tree is low. -/
namespace Go.Proofs.YtnnjbonejbmgdaaGreat.Tree
open Go.ChangeShapes Go.WideShapes Go.ChangeAt Go.RowKit
set_option linter.unusedVariables false
set_option linter.unusedSimpArgs false
set_option maxRecDepth 100000

set_option maxHeartbeats 2000000 in
theorem filledR (w : World) (s : Bool) (n : Nat) (c : Bool) (x : Tr) (v i : Int) (O : Nat) (PB : Nat) (P1 : Tr) (vp ip : Int) (P2 : Tr) (v1 i1 : Int) (Q : Tr) (h : In w (mk s n c x v i (mk s O true (mk s PB false P1 vp ip P2) v1 i1 Q))) (hn : (mk s n c x v i (mk s O true (mk s PB false P1 vp ip P2) v1 i1 Q)).bl.Nodup) :
    Calls Tryz.prog 185 #[.pointer (some ⟨n, 0, none⟩), .int .i64 (num s)] w (Tk (mk s O c (fillB s (mk s n true x v i (mk s PB false P1 vp ip P2))).1 v1 i1 Q, false) (fun k => k ∈ (mk s n c x v i (mk s O true (mk s PB false P1 vp ip P2) v1 i1 Q)).bl) w) := by
  have TU := Lib.hid (turned w s n O c true x (mk s PB false P1 vp ip P2) Q v i v1 i1 h hn)
  have hp : (mk s O c (mk s n true x v i (mk s PB false P1 vp ip P2)) v1 i1 Q).bl.Perm (mk s n c x v i (mk s O true (mk s PB false P1 vp ip P2) v1 i1 Q)).bl := by rw [← turn_mk (d := true)]; exact bl_turn _ _
  have hn2 := hp.nodup_iff.2 hn
  have FB := Lib.hid (fun w h => filledB w s n true x v i PB P1 vp ip P2 h (nodup_mk.1 hn2).2.2.1)
  have S1 : Hid (∀ w1, Chg (fun k => k = n ∨ k = O) w w1 → In w1 (mk s O c (mk s n true x v i (mk s PB false P1 vp ip P2)) v1 i1 Q) → In w1 (mk s n true x v i (mk s PB false P1 vp ip P2)) ∧
      ∀ w2, In w2 (fillB s (mk s n true x v i (mk s PB false P1 vp ip P2))).1 → Chg (fun k => k ∈ (mk s n true x v i (mk s PB false P1 vp ip P2)).bl) w1 w2 → (∃ c l v i r, Nd w2 O c l v i r) ∧
        In (w2.setCell ⟨O, if s then 4 else 3, none⟩ (.pointer (fillB s (mk s n true x v i (mk s PB false P1 vp ip P2))).1.at)) (mk s O c (fillB s (mk s n true x v i (mk s PB false P1 vp ip P2))).1 v1 i1 Q) ∧
        Chg (fun k => k ∈ (mk s n c x v i (mk s O true (mk s PB false P1 vp ip P2) v1 i1 Q)).bl) w (w2.setCell ⟨O, if s then 4 else 3, none⟩ (.pointer (fillB s (mk s n true x v i (mk s PB false P1 vp ip P2))).1.at))) := by
    intro w1 g1 hw1
    refine ⟨(in_mk.1 hw1).2.1, fun w2 hw2 g2 => ?_⟩
    obtain ⟨q1, q2, q3⟩ := hung hw1 hn2 (x' := (fillB s (mk s n true x v i (mk s PB false P1 vp ip P2))).1) (B := fun k => k ∈ (mk s n true x v i (mk s PB false P1 vp ip P2)).bl) (fun k _ hk => hk) hw2 (fun k hk => .inl ((bl_fillB _ _).mem_iff.1 hk)) g2
    refine ⟨⟨_, _, _, _, _, q1⟩, q2, (g1.mono ?_).trans q3 (fun k _ hk => hp.mem_iff.1 hk)⟩
    rintro k _ (rfl | rfl)
    · exact bl_mk.2 (.inl rfl)
    · exact bl_mk.2 (.inr (.inr (bl_mk.2 (.inl rfl))))
  obtain ⟨h1, h2, h3⟩ := in_mk.1 h
  obtain ⟨g1, g2, g3⟩ := in_mk.1 h3
  obtain ⟨a0, a1, a2, a3, a4, af⟩ := h1.cells
  have RO := Lib.hid (isRed_node w g1)
  rw [at_mk] at a3 a4
  obtain ⟨ax, eax⟩ : ∃ a, x.at = a := ⟨_, rfl⟩
  rw [eax] at a3 a4
  have e1 : (mk s O c (fillB s (mk s n true x v i (mk s PB false P1 vp ip P2))).1 v1 i1 Q).at = some ⟨O, 0, none⟩ := at_mk _ _ _ _ _ _ _
  have e2 : (mk s O c (mk s n true x v i (mk s PB false P1 vp ip P2)) v1 i1 Q).at = some ⟨O, 0, none⟩ := at_mk _ _ _ _ _ _ _
  clear h h1 h2 h3 g1 g2 g3 hn eax hp hn2
  generalize (mk s n c x v i (mk s O true (mk s PB false P1 vp ip P2) v1 i1 Q)).bl = bl at *
  unfold Wr at TU
  rw [e2] at TU
  have E1 := Lib.hid e1
  clear e1 e2
  generalize mk s O c (fillB s (mk s n true x v i (mk s PB false P1 vp ip P2))).1 v1 i1 Q = R at *
  generalize mk s O c (mk s n true x v i (mk s PB false P1 vp ip P2)) v1 i1 Q = R1 at *
  generalize fillB s (mk s n true x v i (mk s PB false P1 vp ip P2)) = F at *
  generalize mk s n true x v i (mk s PB false P1 vp ip P2) = T1 at *
  obtain ⟨F1, F2⟩ := F
  simp only [Tk] at *
  cases s
  all_goals
    simp only [num, if_true, if_false, Bool.false_eq_true] at a3 a4 FB S1 TU ⊢
    go_enter Tryz.func185, Tryz.ntmps185
    go_wp2_with (first
      | (go_at_call 189; refine (RO.out).mono ?_; rintro e w1 ⟨rfl, rfl⟩)
      | (go_at_call 190; refine (TU.out).mono ?_; rintro e w1 ⟨rfl, hw1, hw2⟩; obtain ⟨q1, q2⟩ := S1.out w1 hw2 hw1; have Q1 := Lib.hid q1; have Q2 := Lib.hid q2; clear hw1 hw2 q1 q2))
    go_region_with (go_at_call 185; refine (FB.out _ Q1.out.drew).mono ?_; rintro e w2 ⟨rfl, hw1, hw2⟩; obtain ⟨⟨_, _, _, _, _, r1⟩, r2⟩ := Q2.out w2 hw1 hw2.on; obtain ⟨z0, z1, z2, z3, z4, zf⟩ := r1.cells; have Q3 := Lib.hid r2; clear hw1 hw2 r1 r2)
    all_goals
      go_wp2_with fail
      go_ret2
      exact ⟨by simp only [E1.out]; rfl, Q3.out.1, Q3.out.2⟩

/-- The other side's node, where it must be. -/
def May (s : Bool) (y : Tr) : Prop := y ≠ .nil ∧ (y.red = true → y.kid s ≠ .nil ∧ (y.kid s).red = false)
theorem fills (w : World) (s : Bool) (n : Nat) (c : Bool) (x : Tr) (v i : Int) (y : Tr) (h : In w (mk s n c x v i y)) (hn : (mk s n c x v i y).bl.Nodup) (hy : May s y) :
    Calls Tryz.prog 185 #[.pointer (some ⟨n, 0, none⟩), .int .i64 (num s)] w (Tk (fill s (mk s n c x v i y)) (fun k => k ∈ (mk s n c x v i y).bl) w) := by
  obtain ⟨y1, y2⟩ := hy
  cases y with
  | nil => exact absurd rfl y1
  | node O d l v1 i1 r =>
    unfold fill
    rw [kid_mk']
    cases d
    · simp only [Tr.red, Bool.false_eq_true, if_false]
      rw [node_mk s O] at h hn ⊢
      exact filledB w s n c x v i O _ v1 i1 _ h hn
    · simp only [Tr.red, if_true]
      obtain ⟨z1, z2⟩ := y2 rfl
      rw [node_mk s O] at h hn ⊢
      generalize (Tr.node O true l v1 i1 r).kid s = P at *
      generalize (Tr.node O true l v1 i1 r).kid (!s) = Q at *
      cases P with
      | nil => exact absurd rfl z1
      | node PB d' l' vp ip r' =>
        simp only [Tr.red] at z2
        subst z2
        rw [turn_mk, kid_mk, hang_mk]
        rw [node_mk s PB] at h hn ⊢
        exact filledR w s n c x v i O PB _ vp ip _ v1 i1 Q h hn

theorem withouts (w : World) (n : Nat) (c : Bool) (v i : Int) (r : Tr) (h : In w (.node n c .nil v i r)) (hn : (Tr.node n c .nil v i r).bl.Nodup) :
    Calls Tryz.prog 184 #[.pointer (some ⟨n, 0, none⟩)] w (Tk (without (.node n c .nil v i r)) (fun k => k ∈ (Tr.node n c .nil v i r).bl) w) := by
  have OR := Lib.hid (onRight w h.1)
  have RR := Lib.hid (isRed w h.2.2)
  obtain ⟨a0, a1, a2, a3, a4, af⟩ := h.1.cells
  cases hr : r.red
  · rw [hr] at RR
    have H := Lib.hid h.2.2
    rw [show without (.node n c .nil v i r) = (r, !c) by simp [without, hr]]
    clear h hn hr
    obtain ⟨ar, ear⟩ : ∃ a, r.at = a := ⟨_, rfl⟩
    unfold Tk
    simp only
    rw [ear] at OR RR a4 ⊢
    clear ear
    go_enter Tryz.func184, Tryz.ntmps184
    go_wp2_with (first
      | (go_at_call 169; refine (OR.out).mono ?_; rintro e w1 ⟨rfl, rfl⟩)
      | (go_at_call 189; refine (RR.out).mono ?_; rintro e w1 ⟨rfl, rfl⟩))
    go_quiet (fail)
    go_wp2_with fail
    go_ret2
    exact ⟨rfl, H.out.on (fun _ _ => rfl), (Chg.refl _ w).drewN _⟩
  · cases r with
    | nil => simp [Tr.red] at hr
    | node rb d l v' i' r' =>
      rw [hr] at RR
      have K : Hid (In (w.setCell ⟨rb, 2, none⟩ (.bool false)) (Tr.node rb false l v' i' r')) := by
        obtain ⟨m1, m2, m3, m4, m5⟩ := nodup_node (nodup_node hn).2.2.2.1
        exact ⟨h.2.2.1.setC false, h.2.2.2.1.setCell m1 _, h.2.2.2.2.setCell m2 _⟩
      obtain ⟨b0, b1, b2, b3, b4, bf⟩ := h.2.2.1.cells
      rw [show without (.node n c .nil v i (.node rb d l v' i' r')) = (.node rb false l v' i' r', false) by simp only [without]; rw [if_pos hr]; rfl]
      clear h hn hr
      rw [at_node] at OR RR a4
      unfold Tk
      simp only [at_node]
      go_enter Tryz.func184, Tryz.ntmps184
      go_wp2_with (first
        | (go_at_call 169; refine (OR.out).mono ?_; rintro e w1 ⟨rfl, rfl⟩)
        | (go_at_call 189; refine (RR.out).mono ?_; rintro e w1 ⟨rfl, rfl⟩))
      go_ret2
      exact ⟨rfl, K.out, (Chg.refl _ w).setCell (fun _ => by simp [Tr.bl]) _⟩
end Go.Proofs.YtnnjbonejbmgdaaGreat.Tree

/- What take of package rbtree does. Conditions: the nodes lie apart; the keys are in order; the tree is low. -/
namespace Go.Proofs.YtnnjbonejbmgdaaGreat.Tree
open Go.ChangeShapes Go.WideShapes Go.ChangeAt Go.RowKit
set_option linter.unusedVariables false
set_option linter.unusedSimpArgs false
set_option maxRecDepth 100000

theorem undrewN {w w' : World} {n : Nat} (h : Below (w.drewN n).heap.size (w.drewN n) w') : Below w.heap.size w w' := ⟨h.os, h.tape, h.output, h.size, h.block⟩
/-- What stands behind the taking from a side: the tree hung again, mended or not. -/
theorem took {w w1 w2 : World} {s : Bool} {n : Nat} {c : Bool} {x : Tr} {v i : Int} {y : Tr} {X : Tr} {bl : List Nat} (h : In w1 (mk s n c x v i y)) (hn : (mk s n c x v i y).bl.Nodup) (hX : ∀ k ∈ X.bl, k ∈ x.bl) (hXn : X.bl.Nodup) (hw : In w2 X) (g : Chg (fun b => b ∈ x.bl) w1 w2)
    (g0 : Chg (fun b => b ∈ bl) w w1) (hbl : ∀ b, b ∈ (mk s n c x v i y).bl → b ∈ bl) :
    Nd w2 n c (if s then y.at else x.at) v i (if s then x.at else y.at) ∧ In (w2.setCell ⟨n, if s then 4 else 3, none⟩ (.pointer X.at)) (mk s n c X v i y) ∧ (mk s n c X v i y).bl.Nodup ∧
    ∀ w', Chg (fun b => b ∈ (mk s n c X v i y).bl) (w2.setCell ⟨n, if s then 4 else 3, none⟩ (.pointer X.at)) w' → Chg (fun b => b ∈ bl) w w' := by
  obtain ⟨n1, n2, n3, n4, n5⟩ := nodup_mk.1 hn
  obtain ⟨q1, q2, q3⟩ := hung h hn (x' := X) (B := fun b => b ∈ x.bl) (fun b _ hb => hb) hw (fun b hb => .inl (hX b hb)) g
  refine ⟨q1, q2, nodup_mk.2 ⟨fun e => n1 (hX _ e), n2, hXn, n4, fun b hb => n5 b (hX b hb)⟩, fun w' g' => ?_⟩
  refine (g0.trans q3 (fun b _ hb => hbl b hb)).trans g' ?_
  intro b _ hb
  rcases bl_mk.1 hb with e | e | e
  · exact hbl b (bl_mk.2 (.inl e))
  · exact hbl b (bl_mk.2 (.inr (.inl (hX b e))))
  · exact hbl b (bl_mk.2 (.inr (.inr e)))

set_option maxHeartbeats 4000000 in
theorem take_step (w : World) (k : Ky) (s : Bool) (n : Nat) (c : Bool) (x : Tr) (v i : Int) (y X : Tr) (less : Bool) (h : In w (mk s n c x v i y)) (hn : (mk s n c x v i y).bl.Nodup) (hk : (v, i) ≠ k) (hs : side k (v, i) = s) (hX : ∀ b ∈ X.bl, b ∈ x.bl) (hXn : X.bl.Nodup)
    (ih : ∀ w, In w x → Calls Tryz.prog 173 #[.pointer x.at, .agg #[.int .i64 k.1, .int .i64 k.2]] w (Tk (X, less) (fun b => b ∈ x.bl) w)) (hy : less = true → May s y) :
    Calls Tryz.prog 173 #[.pointer (some ⟨n, 0, none⟩), .agg #[.int .i64 k.1, .int .i64 k.2]] w (Tk (if less then fill s (mk s n c X v i y) else (mk s n c X v i y, false)) (fun b => b ∈ (mk s n c x v i y).bl) w) := by
  have D := Lib.hid (fun w => sideOf k (v, i) w)
  rw [hs] at D
  have IH := Lib.hid ih
  have S2 : Hid (∀ w1 w2, Below w.heap.size w w1 → w.heap.size < w1.heap.size → In w2 X → Chg (fun b => b ∈ x.bl) w1 w2 → (w2.cell? ⟨w.heap.size, 0, none⟩ = w1.cell? ⟨w.heap.size, 0, none⟩ ∧ w2.cell? ⟨w.heap.size, 1, none⟩ = w1.cell? ⟨w.heap.size, 1, none⟩) ∧ Nd w2 n c (if s then y.at else x.at) v i (if s then x.at else y.at) ∧ In (w2.setCell ⟨n, if s then 4 else 3, none⟩ (.pointer X.at)) (mk s n c X v i y) ∧ (mk s n c X v i y).bl.Nodup ∧
      ∀ w', Chg (fun b => b ∈ (mk s n c X v i y).bl) (w2.setCell ⟨n, if s then 4 else 3, none⟩ (.pointer X.at)) w' → Chg (fun b => b ∈ (mk s n c x v i y).bl) w w') := by
    intro w1 w2 g0 hl hw g
    have hx0 := (in_mk.1 h).2.1
    have hbx : w.heap.size ∉ x.bl := fun e => by have := hx0.lt _ e; omega
    exact ⟨⟨g.cell hl hbx, g.cell hl hbx⟩, took (h.fresh g0) hn hX hXn hw g (.of g0) (fun b hb => hb)⟩
  have FI := Lib.hid (fun (e : less = true) w h hn => fills w s n c X v i y h hn (hy e))
  have M : (mk s n c X v i y).at = some ⟨n, 0, none⟩ := at_mk _ _ _ _ _ _ _
  obtain ⟨h1, h2, h3⟩ := in_mk.1 h
  obtain ⟨a0, a1, a2, a3, a4, af⟩ := h1.cells
  have hb := h1.lt
  have HX := Lib.hid h2
  obtain ⟨ax, eax⟩ : ∃ a, x.at = a := ⟨_, rfl⟩
  obtain ⟨ay, eay⟩ : ∃ a, y.at = a := ⟨_, rfl⟩
  obtain ⟨aX, eaX⟩ : ∃ a, X.at = a := ⟨_, rfl⟩
  rw [eax, eay] at a3 a4
  rw [eax] at IH
  unfold Tk at IH
  simp only [eaX] at IH S2
  rw [eax, eay] at S2
  clear h h1 h2 h3 hn eax eay hs hX hXn hy eaX
  obtain ⟨k1, k2⟩ := k
  have hq : (v == k1) = false ∨ ((v == k1) = true ∧ (i == k2) = false) := by
    cases h1 : v == k1
    · exact .inl rfl
    · cases h2 : i == k2
      · exact .inr ⟨rfl, rfl⟩
      · exact absurd (by rw [eq_of_beq h1, eq_of_beq h2]) hk
  simp only at IH D ⊢
  clear hk
  generalize (mk s n c x v i y).bl = bl at *
  generalize fill s (mk s n c X v i y) = F at *
  obtain ⟨F1, F2⟩ := F
  generalize mk s n c X v i y = T' at *
  unfold Tk at FI ⊢
  have M' := Lib.hid M
  clear M
  cases less
  all_goals
    cases s
    all_goals
      simp only [num, if_true, if_false, Bool.false_eq_true, forall_const] at a3 a4 S2 D FI ⊢
      rcases hq with hq | ⟨hq0, hq⟩
      all_goals
        have hg := Below.refl w.heap.size w
        go_enter Tryz.func173, Tryz.ntmps173
        go_wp2_with fail
        go_quiet (fail)
        go_wp2_with fail
        obtain ⟨u0, u1, uz, uu⟩ := new_two (Below.refl _ (w.alloc (.cells #[.int .i64 k1, .int .i64 k2] 155)))
        have hlt : w.heap.size < (w.alloc (.cells #[.int .i64 k1, .int .i64 k2] 155)).heap.size := lt_of uu
        have hbW := Nat.lt_trans hb hlt
        replace hg := (Below.refl w.heap.size w).alloc (Nat.le_refl _) (.cells #[.int .i64 k1, .int .i64 k2] 155)
        have x0 := (hg.cell (p := ⟨n, 0, none⟩) hb).trans a0
        have x1 := (hg.cell (p := ⟨n, 1, none⟩) hb).trans a1
        have x3 := (hg.cell (p := ⟨n, 3, none⟩) hb).trans a3
        have x4 := (hg.cell (p := ⟨n, 4, none⟩) hb).trans a4
        clear a0 a1 a3 a4 a2 af uz uu
        generalize w.alloc (.cells #[.int .i64 k1, .int .i64 k2] 155) = W at *
        go_region_held3 (fun w' => w'.cell? ⟨w.heap.size, 0, none⟩ = some (.int .i64 k1) ∧ w'.cell? ⟨w.heap.size, 1, none⟩ = some (.int .i64 k2) ∧ w'.cell? ⟨n, 0, none⟩ = some (.int .i64 v) ∧ w'.cell? ⟨n, 1, none⟩ = some (.int .i64 i)) (first | exact ⟨u0, u1, x0, x1⟩ | exact ⟨d0, d1, y0, y1⟩)
          (first
            | (go_at_call 183; refine (D.out _).mono ?_; rintro e w1 ⟨rfl, hg1⟩; replace hg1 := undrewN (undrew hg1); have d0 := (hg1.cell (p := ⟨w.heap.size, 0, none⟩) hlt).trans u0; have d1 := (hg1.cell (p := ⟨w.heap.size, 1, none⟩) hlt).trans u1; have y0 := (hg1.cell (p := ⟨n, 0, none⟩) hbW).trans x0; have y1 := (hg1.cell (p := ⟨n, 1, none⟩) hbW).trans x1; have y3 := (hg1.cell (p := ⟨n, 3, none⟩) hbW).trans x3; have y4 := (hg1.cell (p := ⟨n, 4, none⟩) hbW).trans x4; replace hg := hg.trans (hg1.mono (by omega)); replace hlt := Nat.lt_of_lt_of_le hlt hg1.size; clear hg1))
        clear u0 u1 x0 x1 x3 x4
        go_wp2_with fail
        first
          | (go_region_held3 (fun w' => w'.cell? ⟨w.heap.size, 0, none⟩ = some (.int .i64 k1) ∧ w'.cell? ⟨w.heap.size, 1, none⟩ = some (.int .i64 k2) ∧ w'.cell? ⟨n, 3, none⟩ = some (.pointer ax)) (first | exact ⟨d0, d1, y3⟩ | exact ⟨f0, f1, z3⟩) (first | (go_at_call 173; refine (IH.out _ (HX.out.fresh hg).drew).mono ?_; rintro e w2 ⟨rfl, hi2, hc2⟩; obtain ⟨⟨f0, f1⟩, q1, q2⟩ := S2.out _ w2 hg hlt hi2 hc2.on; replace f0 := f0.trans d0; replace f1 := f1.trans d1; obtain ⟨z0, z1, z2, z3, z4, zf⟩ := q1.cells; have Q := Lib.hid q2; clear hi2 hc2 q1 q2)))
          | (go_region_held3 (fun w' => w'.cell? ⟨w.heap.size, 0, none⟩ = some (.int .i64 k1) ∧ w'.cell? ⟨w.heap.size, 1, none⟩ = some (.int .i64 k2) ∧ w'.cell? ⟨n, 4, none⟩ = some (.pointer ax)) (first | exact ⟨d0, d1, y4⟩ | exact ⟨f0, f1, z4⟩) (first | (go_at_call 173; refine (IH.out _ (HX.out.fresh hg).drew).mono ?_; rintro e w2 ⟨rfl, hi2, hc2⟩; obtain ⟨⟨f0, f1⟩, q1, q2⟩ := S2.out _ w2 hg hlt hi2 hc2.on; replace f0 := f0.trans d0; replace f1 := f1.trans d1; obtain ⟨z0, z1, z2, z3, z4, zf⟩ := q1.cells; have Q := Lib.hid q2; clear hi2 hc2 q1 q2)))
        go_wp2_with (go_at_call 185; refine (FI.out _ Q.out.1 Q.out.2.1).mono ?_; rintro e w3 ⟨rfl, hx⟩; have W := Lib.hid hx; clear hx)
        go_ret2
        first
          | exact ⟨by rw [M'.out]; rfl, Q.out.1, Q.out.2.2 _ (Chg.refl _ _)⟩
          | exact ⟨rfl, W.out.1, Q.out.2.2 _ W.out.2⟩
end Go.Proofs.YtnnjbonejbmgdaaGreat.Tree

/- What take of package rbtree does where the key is found. Conditions: the nodes lie apart; the keys are in order; the tree is low. -/
namespace Go.Proofs.YtnnjbonejbmgdaaGreat.Tree
open Go.ChangeShapes Go.WideShapes Go.ChangeAt Go.RowKit
set_option linter.unusedVariables false
set_option linter.unusedSimpArgs false
set_option maxRecDepth 100000

theorem endT_node : ∀ {T : Tr}, T ≠ .nil → ∃ b c l, T.endT = .node b c l T.end.1 T.end.2 .nil
  | .nil, h => absurd rfl h
  | .node b c l v i .nil, _ => ⟨b, c, l, rfl⟩
  | .node b c l v i (.node b' c' l' v' i' r'), _ => by
    rw [show (Tr.node b c l v i (.node b' c' l' v' i' r')).endT = (Tr.node b' c' l' v' i' r').endT from rfl, show (Tr.node b c l v i (.node b' c' l' v' i' r')).end = (Tr.node b' c' l' v' i' r').end from rfl]
    exact endT_node (by simp)
theorem take_out (w : World) (k : Ky) (n : Nat) (c : Bool) (r : Tr) (h : In w (.node n c .nil k.1 k.2 r)) (hn : (Tr.node n c .nil k.1 k.2 r).bl.Nodup) :
    Calls Tryz.prog 173 #[.pointer (some ⟨n, 0, none⟩), .agg #[.int .i64 k.1, .int .i64 k.2]] w (Tk (without (.node n c .nil k.1 k.2 r)) (fun b => b ∈ (Tr.node n c .nil k.1 k.2 r).bl) w) := by
  obtain ⟨k1, k2⟩ := k
  simp only at *
  have hw : Hid (∀ w', Below w.heap.size w w' → In w' (.node n c .nil k1 k2 r)) := fun w' g => h.fresh g
  have WO := Lib.hid (fun w h => withouts w n c k1 k2 r h hn)
  have OL := Lib.hid (fun w' (g : Below w.heap.size w w') => onLeft w' (h.fresh g).1)
  obtain ⟨a0, a1, a2, a3, a4, af⟩ := h.1.cells
  have hb := h.1.lt
  rw [at_nil] at OL
  generalize without (.node n c .nil k1 k2 r) = R at *
  obtain ⟨R1, R2⟩ := R
  unfold Tk at *
  simp only at *
  have hq : Hid (∀ m, Below w.heap.size w ((w.alloc (.cells #[.int .i64 k1, .int .i64 k2] 155)).drewN m)) := fun m => fresh_trans ((Below.refl _ w).alloc (Nat.le_refl _) _) (drawn _ _)
  clear h hn
  go_enter Tryz.func173, Tryz.ntmps173
  go_wp2_with fail
  go_quiet (fail)
  go_wp2_with (first
    | (go_at_call 168; refine (OL.out _ (hq.out _)).mono ?_; rintro e w1 ⟨rfl, rfl⟩)
    | (go_at_call 184; refine (WO.out _ (hw.out _ (hq.out _))).mono ?_; rintro e w2 ⟨rfl, hx⟩; have W := Lib.hid hx; clear hx))
  go_ret2
  exact ⟨rfl, W.out.1, (Chg.of (hq.out _)).trans W.out.2 (fun b _ hb => hb)⟩

/-- The last key ahead stands in a node's place. -/
theorem rekeyed {w W : World} {n s : Nat} {c : Bool} {l r : Tr} {v i a b : Int} (h : In w (.node n c l v i r)) (hn : (Tr.node n c l v i r).bl.Nodup) (hs : w.heap.size ≤ s) (g : Below w.heap.size w W) :
    In ((((W.setCell ⟨s, 0, none⟩ (.int .i64 a)).setCell ⟨s, 1, none⟩ (.int .i64 b)).setCell ⟨n, 0, none⟩ (.int .i64 a)).setCell ⟨n, 1, none⟩ (.int .i64 b)) (.node n c l a b r) ∧
    Chg (fun k => k ∈ (Tr.node n c l v i r).bl) w ((((W.setCell ⟨s, 0, none⟩ (.int .i64 a)).setCell ⟨s, 1, none⟩ (.int .i64 b)).setCell ⟨n, 0, none⟩ (.int .i64 a)).setCell ⟨n, 1, none⟩ (.int .i64 b)) := by
  obtain ⟨m1, m2, m3, m4, m5⟩ := nodup_node hn
  have h' := h.fresh g
  have hl := h.1.lt
  have hns : n ≠ s := by omega
  have k1 : ∀ b ∈ l.bl, b ≠ s := fun b hb e => by have := h.2.1.lt b hb; omega
  have k2 : ∀ b ∈ r.bl, b ≠ s := fun b hb e => by have := h.2.2.lt b hb; omega
  refine ⟨⟨?_, ?_, ?_⟩, ?_⟩
  · exact ((((h'.1.other hns _).other hns _).setV a).setI b)
  · exact (((h'.2.1.setCell (fun e => k1 _ e rfl) _).setCell (fun e => k1 _ e rfl) _).setCell m1 _).setCell m1 _
  · exact (((h'.2.2.setCell (fun e => k2 _ e rfl) _).setCell (fun e => k2 _ e rfl) _).setCell m2 _).setCell m2 _
  · exact ((((Chg.of g).setCell (p := ⟨s, 0, none⟩) (fun e => by simp at e; omega) _).setCell (p := ⟨s, 1, none⟩) (fun e => by simp at e; omega) _).setCell (fun _ => by simp [Tr.bl]) _).setCell (fun _ => by simp [Tr.bl]) _

set_option maxHeartbeats 4000000 in
theorem take_in (w : World) (k k' : Ky) (n : Nat) (c : Bool) (l r X : Tr) (less : Bool) (lb eb : Nat) (h : In w (.node n c l k.1 k.2 r)) (hn : (Tr.node n c l k.1 k.2 r).bl.Nodup) (hl : l.at = some ⟨lb, 0, none⟩) (hend : ∃ c l', l.endT = .node eb c l' k'.1 k'.2 .nil) (hX : ∀ b ∈ X.bl, b ∈ l.bl) (hXn : X.bl.Nodup)
    (ih : ∀ w, In w l → Calls Tryz.prog 173 #[.pointer l.at, .agg #[.int .i64 k'.1, .int .i64 k'.2]] w (Tk (X, less) (fun b => b ∈ l.bl) w)) (hy : less = true → May false r) :
    Calls Tryz.prog 173 #[.pointer (some ⟨n, 0, none⟩), .agg #[.int .i64 k.1, .int .i64 k.2]] w (Tk (if less then fill false (.node n c X k'.1 k'.2 r) else (.node n c X k'.1 k'.2 r, false)) (fun b => b ∈ (Tr.node n c l k.1 k.2 r).bl) w) := by
  obtain ⟨ec, el, hend⟩ := hend
  obtain ⟨k1, k2⟩ := k
  obtain ⟨e1, e2⟩ := k'
  simp only at *
  have D := Lib.hid (fun w => sideOf (e1, e2) (e1, e2) w)
  rw [show side (e1, e2) (e1, e2) = false by simp [side, lt_irrefl]] at D
  have IH := Lib.hid ih
  have hnl := h.1.lt
  have hE : In w (.node eb ec el e1 e2 .nil) := hend ▸ in_endT h.2.1
  have RK : Hid (∀ W s, w.heap.size ≤ s → Below w.heap.size w W → In ((((W.setCell ⟨s, 0, none⟩ (.int .i64 e1)).setCell ⟨s, 1, none⟩ (.int .i64 e2)).setCell ⟨n, 0, none⟩ (.int .i64 e1)).setCell ⟨n, 1, none⟩ (.int .i64 e2)) (.node n c l e1 e2 r) ∧
      Chg (fun k => k ∈ (Tr.node n c l k1 k2 r).bl) w ((((W.setCell ⟨s, 0, none⟩ (.int .i64 e1)).setCell ⟨s, 1, none⟩ (.int .i64 e2)).setCell ⟨n, 0, none⟩ (.int .i64 e1)).setCell ⟨n, 1, none⟩ (.int .i64 e2))) := fun W s hs g => rekeyed h hn hs g
  have RN : Hid (∀ W, In W (.node n c l e1 e2 r) → Nd W n c l.at e1 e2 r.at) := fun W hW => hW.1
  have S2 : Hid (∀ W w1 w2, In W (.node n c l e1 e2 r) → Chg (fun k => k ∈ (Tr.node n c l k1 k2 r).bl) w W → Below W.heap.size W w1 → w.heap.size < W.heap.size → In w2 X → Chg (fun b => b ∈ l.bl) w1 w2 →
      (w2.cell? ⟨w.heap.size, 0, none⟩ = w1.cell? ⟨w.heap.size, 0, none⟩ ∧ w2.cell? ⟨w.heap.size, 1, none⟩ = w1.cell? ⟨w.heap.size, 1, none⟩) ∧ Nd w2 n c l.at e1 e2 r.at ∧ In (w2.setCell ⟨n, 3, none⟩ (.pointer X.at)) (.node n c X e1 e2 r) ∧ (Tr.node n c X e1 e2 r).bl.Nodup ∧
      ∀ w', Chg (fun b => b ∈ (Tr.node n c X e1 e2 r).bl) (w2.setCell ⟨n, 3, none⟩ (.pointer X.at)) w' → Chg (fun b => b ∈ (Tr.node n c l k1 k2 r).bl) w w') := by
    intro W w1 w2 hW gW g1 hlt hw g
    have hbx : w.heap.size ∉ l.bl := fun e => by have := h.2.1.lt _ e; omega
    have hl1 : w.heap.size < w1.heap.size := Nat.lt_of_lt_of_le hlt g1.size
    exact ⟨⟨g.cell hl1 hbx, g.cell hl1 hbx⟩, took (s := false) (hW.fresh g1) hn hX hXn hw g (gW.then g1) (fun b hb => hb)⟩
  have FI := Lib.hid (fun (e : less = true) w h hn => fills w false n c X e1 e2 r h hn (hy e))
  have OL := Lib.hid (fun w' (g : Below w.heap.size w w') => onLeft w' (h.fresh g).1)
  have LA := Lib.hid (fun w' (g : Below w.heap.size w w') => last_right w' l (h.2.1.fresh g))
  have EN := Lib.hid (fun w' (g : Below w.heap.size w w') => (hE.fresh g).1.cells)
  rw [hend] at LA
  rw [hl] at OL LA IH S2 RN
  rw [at_node] at LA
  have M : (Tr.node n c X e1 e2 r).at = some ⟨n, 0, none⟩ := rfl
  obtain ⟨a0, a1, a2, a3, a4, af⟩ := h.1.cells
  have hb := h.1.lt
  have HX := Lib.hid (fun W (hW : In W (.node n c l e1 e2 r)) => hW.2.1)
  obtain ⟨ay, eay⟩ : ∃ a, r.at = a := ⟨_, rfl⟩
  obtain ⟨aX, eaX⟩ : ∃ a, X.at = a := ⟨_, rfl⟩
  rw [hl] at a3
  rw [eay] at a4 S2 RN
  unfold Tk at IH
  simp only [eaX] at IH S2
  have hq : Hid (∀ m, Below w.heap.size w ((w.alloc (.cells #[.int .i64 k1, .int .i64 k2] 155)).drewN m)) := fun m => fresh_trans ((Below.refl _ w).alloc (Nat.le_refl _) _) (drawn _ _)
  clear h hn eay hX hXn hy eaX hE hend hl ih
  generalize (Tr.node n c l k1 k2 r).bl = bl at *
  change Hid (∀ (e : less = true) (w : World), In w (.node n c X e1 e2 r) → (Tr.node n c X e1 e2 r).bl.Nodup → Calls Tryz.prog 185 #[.pointer (some ⟨n, 0, none⟩), .int .i64 (num false)] w (Tk (fill false (.node n c X e1 e2 r)) (fun k => k ∈ (Tr.node n c X e1 e2 r).bl) w)) at FI
  generalize fill false (.node n c X e1 e2 r) = F at *
  obtain ⟨F1, F2⟩ := F
  generalize Tr.node n c X e1 e2 r = T' at *
  generalize Tr.node n c l e1 e2 r = T0 at *
  unfold Tk at FI ⊢
  have M' := Lib.hid M
  clear M
  cases less
  all_goals
    simp only [num, if_true, if_false, Bool.false_eq_true, forall_const] at D FI ⊢
    go_enter Tryz.func173, Tryz.ntmps173
    go_wp2_with fail
    go_quiet (fail)
    have hgq := hq.out nq
    have W0 := new_two (Below.refl _ (w.alloc (.cells #[.int .i64 k1, .int .i64 k2] 155)))
    obtain ⟨u0, u1, uz, uu⟩ := W0
    have hlt : w.heap.size < ((w.alloc (.cells #[.int .i64 k1, .int .i64 k2] 155)).drewN nq).heap.size := lt_of uu
    replace u0 : ((w.alloc (.cells #[.int .i64 k1, .int .i64 k2] 155)).drewN nq).cell? ⟨w.heap.size, 0, none⟩ = some (.int .i64 k1) := u0
    replace u1 : ((w.alloc (.cells #[.int .i64 k1, .int .i64 k2] 155)).drewN nq).cell? ⟨w.heap.size, 1, none⟩ = some (.int .i64 k2) := u1
    replace uz : ∀ j, ((w.alloc (.cells #[.int .i64 k1, .int .i64 k2] 155)).drewN nq).frozen? ⟨w.heap.size, j, none⟩ = false := uz
    clear uu hq
    obtain ⟨n0, n1, n2, n3, n4, nf⟩ := EN.out _ hgq
    have x0 := (hgq.cell (p := ⟨n, 0, none⟩) hb).trans a0
    have x1 := (hgq.cell (p := ⟨n, 1, none⟩) hb).trans a1
    have xf : ∀ j, ((w.alloc (.cells #[.int .i64 k1, .int .i64 k2] 155)).drewN nq).frozen? ⟨n, j, none⟩ = false := fun j => (hgq.frozen (p := ⟨n, j, none⟩) hb).trans (af j)
    obtain ⟨sz, hsz⟩ : ∃ sz, w.heap.size = sz := ⟨_, rfl⟩
    have hns : ¬ n = sz := by omega
    have hsn : ¬ sz = n := by omega
    obtain ⟨r1, r2⟩ := RK.out _ w.heap.size (Nat.le_refl _) hgq
    have R := Lib.hid (And.intro r1 r2)
    clear r1 r2 a0 a1 a2 a3 a4 af n2 n3 n4 nf
    generalize (w.alloc (.cells #[.int .i64 k1, .int .i64 k2] 155)).drewN nq = W at *
    rw [hsz] at u0 u1 uz hlt R
    simp only [hsz]
    go_wp2_with (first
      | (go_at_call 168; refine (OL.out _ hgq).mono ?_; rintro e w1 ⟨rfl, rfl⟩)
      | (go_at_call 182; refine (LA.out _ hgq).mono ?_; rintro e w1 ⟨rfl, rfl⟩))
    have v0 : ((((W.setCell ⟨sz, 0, none⟩ (.int .i64 e1)).setCell ⟨sz, 1, none⟩ (.int .i64 e2)).setCell ⟨n, 0, none⟩ (.int .i64 e1)).setCell ⟨n, 1, none⟩ (.int .i64 e2)).cell? ⟨sz, 0, none⟩ = some (.int .i64 e1) := by go_simp
    have v1 : ((((W.setCell ⟨sz, 0, none⟩ (.int .i64 e1)).setCell ⟨sz, 1, none⟩ (.int .i64 e2)).setCell ⟨n, 0, none⟩ (.int .i64 e1)).setCell ⟨n, 1, none⟩ (.int .i64 e2)).cell? ⟨sz, 1, none⟩ = some (.int .i64 e2) := by go_simp
    have hlt5 : sz < ((((W.setCell ⟨sz, 0, none⟩ (.int .i64 e1)).setCell ⟨sz, 1, none⟩ (.int .i64 e2)).setCell ⟨n, 0, none⟩ (.int .i64 e1)).setCell ⟨n, 1, none⟩ (.int .i64 e2)).heap.size := by simpa [World.setCell] using hlt
    obtain ⟨y0, y1, y2, y3, y4, yf⟩ := (RN.out _ R.out.1).cells
    clear u0 u1 uz hlt n0 n1 x0 x1 xf RK RN OL LA EN
    generalize ((((W.setCell ⟨sz, 0, none⟩ (.int .i64 e1)).setCell ⟨sz, 1, none⟩ (.int .i64 e2)).setCell ⟨n, 0, none⟩ (.int .i64 e1)).setCell ⟨n, 1, none⟩ (.int .i64 e2)) = V at *
    have hbV : n < V.heap.size := by omega
    go_region_held3 (fun w' => w'.cell? ⟨sz, 0, none⟩ = some (.int .i64 e1) ∧ w'.cell? ⟨sz, 1, none⟩ = some (.int .i64 e2) ∧ w'.cell? ⟨n, 0, none⟩ = some (.int .i64 e1) ∧ w'.cell? ⟨n, 1, none⟩ = some (.int .i64 e2)) (first | exact ⟨v0, v1, y0, y1⟩ | exact ⟨d0, d1, z0, z1⟩)
      (first
        | (go_at_call 183; refine (D.out _).mono ?_; rintro e w1 ⟨rfl, hg1⟩; replace hg1 := undrew hg1; have d0 := (hg1.cell (p := ⟨sz, 0, none⟩) hlt5).trans v0; have d1 := (hg1.cell (p := ⟨sz, 1, none⟩) hlt5).trans v1; have z0 := (hg1.cell (p := ⟨n, 0, none⟩) hbV).trans y0; have z1 := (hg1.cell (p := ⟨n, 1, none⟩) hbV).trans y1; have z3 := (hg1.cell (p := ⟨n, 3, none⟩) hbV).trans y3; have z4 := (hg1.cell (p := ⟨n, 4, none⟩) hbV).trans y4))
    clear v0 v1 y0 y1 y3 y4 yf
    go_wp2_with fail
    go_region_held3 (fun w' => w'.cell? ⟨sz, 0, none⟩ = some (.int .i64 e1) ∧ w'.cell? ⟨sz, 1, none⟩ = some (.int .i64 e2) ∧ w'.cell? ⟨n, 3, none⟩ = some (.pointer (some ⟨lb, 0, none⟩))) (first | exact ⟨d0, d1, z3⟩ | exact ⟨f0, f1, i3⟩)
      (first
        | (go_at_call 173; refine (IH.out _ ((HX.out _ R.out.1).fresh hg1).drew).mono ?_; rintro e w2 ⟨rfl, hi2, hc2⟩; obtain ⟨⟨f0, f1⟩, q1, q2⟩ := S2.out _ _ w2 R.out.1 R.out.2 hg1 (by omega) hi2 hc2.on; rw [hsz] at f0 f1; replace f0 := f0.trans d0; replace f1 := f1.trans d1; obtain ⟨i0, i1, i2, i3, i4, iff⟩ := q1.cells; have Q := Lib.hid q2; clear hi2 hc2 q1 q2))
    go_wp2_with (go_at_call 185; refine (FI.out _ Q.out.1 Q.out.2.1).mono ?_; rintro e w3 ⟨rfl, hx⟩; have W := Lib.hid hx; clear hx)
    go_ret2
    first
      | exact ⟨by rw [M'.out]; rfl, Q.out.1, Q.out.2.2 _ (Chg.refl _ _)⟩
      | exact ⟨rfl, W.out.1, Q.out.2.2 _ W.out.2⟩

theorem May.of {s : Bool} {x y : Tr} (hy : y.ok) (ry : y.rr) (hb : x.bh + 1 = y.bh) : May s y := by
  cases y with
  | nil => simp [Tr.bh] at hb
  | node b c l v i r =>
    refine ⟨by simp, fun hc => ?_⟩
    simp only [Tr.red] at hc
    subst hc
    obtain ⟨o1, o2, o3⟩ := hy
    obtain ⟨r1, r2, r3⟩ := ry
    simp only [Tr.bh, if_true, Nat.add_zero] at hb
    cases s
    · refine ⟨fun e => ?_, (r1 rfl).1⟩
      simp only [Tr.kid, Bool.false_eq_true, if_false] at e
      subst e
      simp [Tr.bh] at hb
    · refine ⟨fun e => ?_, (r1 rfl).2⟩
      simp only [Tr.kid, if_true] at e
      subst e
      simp [Tr.bh] at o3
      omega
theorem sub_of {T X : Tr} {d : Nat} (h : (d :: X.bl).Perm T.bl) (hn : T.bl.Nodup) : (∀ b ∈ X.bl, b ∈ T.bl) ∧ X.bl.Nodup :=
  ⟨fun b hb => h.mem_iff.1 (by simp [hb]), (List.nodup_cons.1 (h.nodup_iff.2 hn)).2⟩
theorem takes (T : Tr) : ∀ w k, In w T → T.bl.Nodup → T.ok → T.rr → Sorted T.keys → k ∈ T.keys →
    Calls Tryz.prog 173 #[.pointer T.at, .agg #[.int .i64 k.1, .int .i64 k.2]] w (Tk (take T k) (fun b => b ∈ T.bl) w) := by
  induction T with
  | nil => intro w k _ _ _ _ _ hk; simp [Tr.keys] at hk
  | node b c l v i r ihl ihr =>
    intro w k h hn ho hr hs hk
    obtain ⟨s1, s2, s3, s4⟩ := sorted_node hs
    obtain ⟨o1, o2, o3⟩ := ho
    obtain ⟨r1, r2, r3⟩ := hr
    obtain ⟨m1, m2, m3, m4, m5⟩ := nodup_node hn
    rw [at_node]
    unfold take
    by_cases e : (v, i) = k
    · subst e
      rw [if_pos rfl]
      cases l with
      | nil => exact take_out w (v, i) b c r h hn
      | node b' c' l' v' i' r' =>
        have ne : Tr.node b' c' l' v' i' r' ≠ .nil := by simp
        obtain ⟨d, hd⟩ := bl_take (.node b' c' l' v' i' r') _ s1 (end_mem ne)
        obtain ⟨x1, x2⟩ := sub_of hd m3
        obtain ⟨k1, k2, k3, k4, k5⟩ := take_bal (.node b' c' l' v' i' r') _ o1 r2 (end_mem ne) s1
        obtain ⟨eb, ec, el, he⟩ := endT_node ne
        exact take_in w (v, i) (Tr.node b' c' l' v' i' r').end b c (.node b' c' l' v' i' r') r (take (.node b' c' l' v' i' r') (Tr.node b' c' l' v' i' r').end).1 (take (.node b' c' l' v' i' r') (Tr.node b' c' l' v' i' r').end).2 b' eb h hn rfl ⟨ec, el, he⟩ x1 x2
          (fun w hw => ihl w _ hw m3 o1 r2 s1 (end_mem ne)) (fun hl => May.of o2 r3 (x := (take (.node b' c' l' v' i' r') (Tr.node b' c' l' v' i' r').end).1) (by rw [hl] at k3; simp only [if_true] at k3; omega))
    · rw [if_neg e]
      by_cases hlt : lt (v, i) k
      · rw [if_pos (by simp [side, hlt])]
        have hkr : k ∈ r.keys := by
          simp only [Tr.keys, List.mem_append, List.mem_cons] at hk
          rcases hk with hk | hk | hk
          · exact absurd (s3 k hk) (lt_asymm hlt)
          · exact absurd hk.symm e
          · exact hk
        obtain ⟨d, hd⟩ := bl_take r k s2 hkr
        obtain ⟨x1, x2⟩ := sub_of hd m4
        obtain ⟨k1, k2, k3, k4, k5⟩ := take_bal r k o2 r3 hkr s2
        exact take_step w k true b c r v i l (take r k).1 (take r k).2 h hn e (by simp [side, hlt]) x1 x2 (fun w hw => ihr w k hw m4 o2 r3 s2 hkr) (fun hl => May.of o1 r2 (x := (take r k).1) (by rw [hl] at k3; simp only [if_true] at k3; omega))
      · rw [if_neg (by simp [side, hlt])]
        have hkl : k ∈ l.keys := by
          simp only [Tr.keys, List.mem_append, List.mem_cons] at hk
          rcases hk with hk | hk | hk
          · exact hk
          · exact absurd hk.symm e
          · exact absurd (s4 k hk) hlt
        obtain ⟨d, hd⟩ := bl_take l k s1 hkl
        obtain ⟨x1, x2⟩ := sub_of hd m3
        obtain ⟨k1, k2, k3, k4, k5⟩ := take_bal l k o1 r2 hkl s1
        exact take_step w k false b c l v i r (take l k).1 (take l k).2 h hn e (by simp [side, hlt]) x1 x2 (fun w hw => ihl w k hw m3 o1 r2 s1 hkl) (fun hl => May.of o2 r3 (x := (take l k).1) (by rw [hl] at k3; simp only [if_true] at k3; omega))
end Go.Proofs.YtnnjbonejbmgdaaGreat.Tree

/- What Delete and New of package rbtree do. Conditions: the nodes lie apart; the keys are in order; the tree is low. -/
namespace Go.Proofs.YtnnjbonejbmgdaaGreat.Tree
open Go.ChangeShapes Go.WideShapes Go.ChangeAt Go.RowKit
set_option linter.unusedVariables false
set_option linter.unusedSimpArgs false
set_option maxRecDepth 100000

/-- What is behind a call of Delete. -/
def Del (k : Ky) (t : Nat) (O : Nat → Prop) (T : Tr) (w : World) (e : Ending) (w' : World) : Prop :=
  ∃ T', e = .returned (.bool true) ∧ Kept w' t O T' ∧ T'.keys = but k T.keys ∧ Chg (fun b => b = t ∨ b ∈ T.bl) w w'
theorem sorted_but {k : Ky} {l : List Ky} (h : Sorted l) : Sorted (but k l) := h.filter _
theorem len_but {k : Ky} {l : List Ky} (h : Sorted l) (hk : k ∈ l) : ((but k l).length : Int) = l.length - 1 := by
  induction l with
  | nil => simp at hk
  | cons x l ih =>
    rw [but_cons]
    unfold Sorted at h
    rw [List.pairwise_cons] at h
    by_cases e : x = k
    · subst e
      rw [if_pos rfl, but_none (not_mem_of_lt h.1)]
      simp
    · rw [if_neg e]
      have : k ∈ l := by
        rcases List.mem_cons.1 hk with h' | h'
        · exact absurd h'.symm e
        · exact h'
      have := ih h.2 this
      simp
      omega
theorem del_end {w w1 w2 : World} {t : Nat} {O : Nat → Prop} {T : Tr} {k : Ky} (h : Kept w t O T) (hk : k ∈ T.keys) (g1 : Below w.heap.size w w1) (hi : In w2 (take T k).1) (hc : Chg (fun b => b ∈ T.bl) w1 w2) :
    w2.heap[t]? = some (.cells #[.pointer T.at, .int .i64 T.keys.length] 175 (0, 0)) ∧
    ∀ W, Below w2.heap.size ((w2.setCell ⟨t, 0, none⟩ (.pointer (take T k).1.at)).setCell ⟨t, 1, none⟩ (.int .i64 ((T.keys.length : Int) - 1))) W → Del k t O T w (.returned (.bool true)) W := by
  obtain ⟨hn1, hn2⟩ := List.nodup_cons.1 h.nodup
  have ht := h.top.lt
  have hs1 := g1.size
  obtain ⟨d, hd⟩ := bl_take T k h.sorted hk
  obtain ⟨x1, x2⟩ := sub_of hd hn2
  have htn : t ∉ (take T k).1.bl := fun e => hn1 (x1 t e)
  obtain ⟨k1, k2, k3, k4, k5⟩ := take_bal T k h.ok h.rr hk h.sorted
  have kk := keys_take T k h.sorted hk
  have h2 : w2.heap[t]? = some (.cells #[.pointer T.at, .int .i64 T.keys.length] 175 (0, 0)) := by
    rw [hc.block t (by omega) hn1, g1.block t ht]; exact h.top.1
  refine ⟨h2, fun W hW => ⟨(take T k).1, rfl, ?_, kk, ?_⟩⟩
  · refine ⟨⟨?_, ?_⟩, ?_, ?_, k1, k2, k4 h.black, ?_⟩
    · rw [hW.block t (by have := lt_of h2; omega), set_top (c := #[.pointer (take T k).1.at, .int .i64 T.keys.length]) (ty := 175)]
      · rw [kk, len_but h.sorted hk]
        simp
      · rw [set_top h2]
        simp
    · have q := (hi.setCell (p := ⟨t, 0, none⟩) htn (.pointer (take T k).1.at)).setCell (p := ⟨t, 1, none⟩) htn (.int .i64 ((T.keys.length : Int) - 1))
      exact q.on fun b hb => hW.block b (by have := q.lt b hb; simpa using this)
    · rw [List.nodup_cons]; exact ⟨htn, x2⟩
    · rw [kk]; exact sorted_but h.sorted
    · intro b hb
      rcases List.mem_cons.1 hb with rfl | hb
      · exact h.apart _ (by simp)
      · exact h.apart b (by simp [x1 b hb])
  · have g2 : Chg (fun b => b = t ∨ b ∈ T.bl) w w2 := (Chg.of g1).trans hc (fun b _ hb => .inr hb)
    have g3 := (g2.setCell (p := ⟨t, 0, none⟩) (fun _ => .inl rfl) (.pointer (take T k).1.at)).setCell (p := ⟨t, 1, none⟩) (fun _ => .inl rfl) (.int .i64 ((T.keys.length : Int) - 1))
    exact g3.then (by simpa using hW)
set_option maxHeartbeats 4000000 in
theorem deletes (w : World) (t : Nat) (O : Nat → Prop) (T : Tr) (k : Ky) (h : Kept w t O T) (hk : k ∈ T.keys) (hlen : T.keys.length ≤ 1000) :
    Calls Tryz.prog 148 #[.pointer (some ⟨t, 0, none⟩), .agg #[.int .i64 k.1, .int .i64 k.2]] w (Del k t O T w) := by
  have A := Lib.hid (fun w h => hass w t T k h)
  rw [has_mem k T h.sorted] at A
  rw [show decide (k ∈ T.keys) = true by simpa using hk] at A
  have N : T.bl.Nodup := (List.nodup_cons.1 h.nodup).2
  have B := Lib.hid (fun w hw => takes T w k hw N h.ok h.rr h.sorted hk)
  have H := Lib.hid h
  have hpos : 1 ≤ T.keys.length := List.length_pos_of_mem hk
  obtain ⟨c0, c1, fz⟩ := h.top.cells
  have ht := h.top.lt
  have E := Lib.hid (fun w1 w2 g1 hi hc => del_end (w1 := w1) (w2 := w2) h hk g1 hi hc)
  obtain ⟨k1, k2⟩ := k
  obtain ⟨aT, eaT⟩ : ∃ a, T.at = a := ⟨_, rfl⟩
  obtain ⟨aX, eaX⟩ : ∃ a, (take T (k1, k2)).1.at = a := ⟨_, rfl⟩
  rw [eaT] at c0 B E
  rw [eaX] at E
  unfold Tk at B
  rw [eaX] at B
  have hg := Below.refl w.heap.size w
  clear h hk N eaT eaX
  simp only at *
  generalize (take T (k1, k2)).2 = less at *
  generalize (take T (k1, k2)).1 = X at *
  generalize hlen' : T.keys.length = len at *
  go_enter Tryz.func148, Tryz.ntmps148
  go_wp2_with (go_at_call 172; refine (A.out _ (H.out.top.fresh ((Below.refl _ w).alloc (Nat.le_refl _) _))).mono ?_; rintro e w1 ⟨rfl, hg1⟩; obtain ⟨d0, d1, dz, dd⟩ := new_two hg1; replace hg : Below w.heap.size w w1 := fresh_trans ((Below.refl _ w).alloc (Nat.le_refl _) _) hg1; clear hg1)
  have x0 := (hg.cell (p := ⟨t, 0, none⟩) ht).trans c0
  have x1 := (hg.cell (p := ⟨t, 1, none⟩) ht).trans c1
  go_region_with (go_at_call 173; refine (B.out _ (H.out.top.2.fresh hg).drew).mono ?_; rintro e w2 ⟨rfl, hi2, hc2⟩; obtain ⟨ht2, hW⟩ := E.out w1 w2 hg hi2 hc2.on; have y0 := cell_of_row w2 t 0 _ _ _ ht2; have y1 := cell_of_row w2 t 1 _ _ _ ht2; have yf := fun j => frozen_of_row w2 t j _ _ ht2; have Q := Lib.hid hW; clear hi2 hc2 ht2 hW)
  all_goals
    go_wp2_with fail
    go_ret
    exact Q.out _ (Below.refl _ _)

/-- A tree of New's. -/
def Made (w : World) (e : Ending) (w' : World) : Prop := ∃ t, w.heap.size ≤ t ∧ e = .returned (.pointer (some ⟨t, 0, none⟩)) ∧ Below w.heap.size w w' ∧ ∀ O : Nat → Prop, (∀ b, O b → b < w.heap.size) → Kept w' t O .nil
theorem news (w : World) : Calls Tryz.prog 88 #[] w (Made w) := by
  go_enter Tryz.func88, Tryz.ntmps88
  go_wp2
  go_ret
  refine ⟨w.heap.size, Nat.le_refl _, rfl, by go_grown, fun O hO => ⟨⟨heap_alloc_new _ _, trivial⟩, by simp [Tr.bl], by simp [Sorted, Tr.keys], trivial, trivial, rfl, ?_⟩⟩
  intro b hb e
  simp [Tr.bl] at hb
  have := hO b e
  omega
end Go.Proofs.YtnnjbonejbmgdaaGreat.Tree
