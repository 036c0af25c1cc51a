/- What part and put of package rbtree do. Conditions: the nodes lie apart. -/
import Derived.Test.YteoemafdknmklaaTreePart
namespace Go.Proofs.Yteoemafdknmklaa.Tree
open Go.ChangeShapes Go.WideShapes Go.ChangeAt Go.RowKit
set_option linter.unusedVariables false
set_option linter.unusedSimpArgs false
set_option maxRecDepth 100000

theorem Chg.on {B : Nat → Prop} {w w' : World} (h : Chg B w.drew w') : Chg B w w' := ⟨h.os, h.tape, h.output, h.size, h.block⟩
theorem Nd.kid {w : World} {s : Bool} {b : Nat} {c : Bool} {x y : Option Addr} {v i : Int} (h : Nd w b c (if s then y else x) v i (if s then x else y)) (u : Option Addr) :
    Nd (w.setCell ⟨b, if s then 4 else 3, none⟩ (.pointer u)) b c (if s then y else u) v i (if s then u else y) := by
  cases s
  · exact h.setL u
  · exact h.setR u
/-- Another tree hangs on a side. -/
theorem hung {w w1 : World} {s : Bool} {n : Nat} {c : Bool} {x x' : Tr} {v i : Int} {y : Tr} (h : In w (mk s n c x v i y)) (hn : (mk s n c x v i y).bl.Nodup) {B : Nat → Prop} (hB : ∀ k, k < w.heap.size → B k → k ∈ x.bl) (hx : In w1 x') (hn' : ∀ k ∈ x'.bl, k ∈ x.bl ∨ w.heap.size ≤ k) (g : Chg B w w1) :
    Nd w1 n c (if s then y.at else x.at) v i (if s then x.at else y.at) ∧ In (w1.setCell ⟨n, if s then 4 else 3, none⟩ (.pointer x'.at)) (mk s n c x' v i y) ∧
    Chg (fun k => k ∈ (mk s n c x v i y).bl) w (w1.setCell ⟨n, if s then 4 else 3, none⟩ (.pointer x'.at)) := by
  obtain ⟨h1, h2, h3⟩ := in_mk.1 h
  obtain ⟨n1, n2, n3, n4, n5⟩ := nodup_mk.1 hn
  have hl := h1.lt
  have k1 : Nd w1 n c (if s then y.at else x.at) v i (if s then x.at else y.at) := h1.on (g.block n hl (fun e => n1 (hB n hl e)))
  refine ⟨k1, in_mk.2 ⟨k1.kid x'.at, hx.setCell ?_ _, (h3.chg g ?_).setCell n2 _⟩, ?_⟩
  · intro hk
    rcases hn' n hk with e | e
    · exact n1 e
    · omega
  · intro k hk e
    exact n5 k (hB k (h3.lt k hk) e) hk
  · refine (g.mono fun k hk e => ?_).setCell (fun _ => ?_) _
    · exact bl_mk.2 (.inr (.inl (hB k hk e)))
    · exact bl_mk.2 (.inl rfl)
theorem bl_mk' {s : Bool} {b : Nat} {c : Bool} {x : Tr} {v i : Int} {y : Tr} : (mk s b c x v i y).bl.Perm (b :: (x.bl ++ y.bl)) := by
  cases s
  · exact .rfl
  · exact List.perm_append_comm.cons _

theorem parted_inner (w : World) (s : Bool) (n : Nat) (c : Bool) (L : Nat) (o : Tr) (v1 i1 : Int) (I : Nat) (B1 : Tr) (vI iI : Int) (C1 : Tr) (v i : Int) (y : Tr) (h : In w (mk s n c (mk s L true o v1 i1 (mk s I true B1 vI iI C1)) v i y))
    (hn : (mk s n c (mk s L true o v1 i1 (mk s I true B1 vI iI C1)) v i y).bl.Nodup) (hy : y.red = false) :
    Calls Try.prog 90 #[.pointer (some ⟨n, 0, none⟩), .int .i64 (num s)] w (Wr (mk (!s) I c (mk (!s) n true y v i C1) vI iI (mk s L true o v1 i1 B1)) (fun k => k ∈ (mk s n c (mk s L true o v1 i1 (mk s I true B1 vI iI C1)) v i y).bl) w) := by
  have TU1 := Lib.hid (fun w h hn => turned w s L I true true o B1 C1 v1 i1 vI iI h hn)
  have TU2 := Lib.hid (fun w h hn => turned w (!s) n I c true y C1 (mk s L true o v1 i1 B1) v i vI iI h hn)
  rw [← mk_not s I, ← mk_not s n] at TU2
  have N := Lib.hid hn
  have N1 := Lib.hid (nodup_mk.1 hn).2.2.1
  have P1 : (mk s I true (mk s L true o v1 i1 B1) vI iI C1).bl.Perm (mk s L true o v1 i1 (mk s I true B1 vI iI C1)).bl := by
    rw [← turn_mk (c := true) (d := true)]; exact bl_turn _ _
  have N2 : Hid (mk s n c (mk s I true (mk s L true o v1 i1 B1) vI iI C1) v i y).bl.Nodup := by
    have := hn
    rw [bl_mk'.nodup_iff] at this
    show (mk s n c (mk s I true (mk s L true o v1 i1 B1) vI iI C1) v i y).bl.Nodup
    rw [bl_mk'.nodup_iff]
    exact (((P1.append_right _).cons _).nodup_iff).2 this
  have S2 : Hid (∀ w1, In w1 (mk s I true (mk s L true o v1 i1 B1) vI iI C1) → Chg (fun k => k = L ∨ k = I) w w1 → Nd w1 n c (if s then y.at else some ⟨L, 0, none⟩) v i (if s then some ⟨L, 0, none⟩ else y.at) ∧
      In (w1.setCell ⟨n, if s then 4 else 3, none⟩ (.pointer (mk s I true (mk s L true o v1 i1 B1) vI iI C1).at)) (mk s n c (mk s I true (mk s L true o v1 i1 B1) vI iI C1) v i y) ∧
      Chg (fun k => k ∈ (mk s n c (mk s L true o v1 i1 (mk s I true B1 vI iI C1)) v i y).bl) w (w1.setCell ⟨n, if s then 4 else 3, none⟩ (.pointer (mk s I true (mk s L true o v1 i1 B1) vI iI C1).at))) := by
    intro w1 hx g
    have := hung h hn (x' := mk s I true (mk s L true o v1 i1 B1) vI iI C1) (B := fun k => k = L ∨ k = I) ?_ hx ?_ g
    · rw [at_mk s L] at this
      exact this
    · rintro k _ (rfl | rfl)
      · exact bl_mk.2 (.inl rfl)
      · exact bl_mk.2 (.inr (.inr (bl_mk.2 (.inl rfl))))
    · intro k hk
      exact .inl (P1.mem_iff.1 hk)
  have Z : Hid (∀ w2 w', Chg (fun k => k ∈ (mk s n c (mk s L true o v1 i1 (mk s I true B1 vI iI C1)) v i y).bl) w w2 → Chg (fun k => k = n ∨ k = I) w2 w' → Chg (fun k => k ∈ (mk s n c (mk s L true o v1 i1 (mk s I true B1 vI iI C1)) v i y).bl) w w') := by
    intro w2 w' z1 z2
    refine z1.trans z2 ?_
    rintro k _ (rfl | rfl)
    · exact bl_mk.2 (.inl rfl)
    · exact bl_mk.2 (.inr (.inl (bl_mk.2 (.inr (.inr (bl_mk.2 (.inl rfl)))))))
  have nn := (nodup_mk.1 hn).1
  have hnL : ¬ n = L := fun e => nn (bl_mk.2 (.inl e))
  have hLn : ¬ L = n := fun e => hnL e.symm
  clear nn
  obtain ⟨h1, h2, h3⟩ := in_mk.1 h
  obtain ⟨g1, g2, g3⟩ := in_mk.1 h2
  have H1 := Lib.hid h2
  obtain ⟨a0, a1, a2, a3, a4, af⟩ := h1.cells
  obtain ⟨b0, b1, b2, b3, b4, bf⟩ := g1.cells
  have RL := Lib.hid (isRed_node w g1)
  have RI := Lib.hid (isRed w g3)
  have RO := Lib.hid (isRed w g2)
  have RY := Lib.hid (isRed w h3)
  rw [at_mk] at a3 a4 b3 b4 RI
  rw [red_mk] at RI
  rw [hy] at RY
  obtain ⟨ao, eao⟩ : ∃ a, o.at = a := ⟨_, rfl⟩
  obtain ⟨ay, eay⟩ : ∃ a, y.at = a := ⟨_, rfl⟩
  rw [eao] at RO b3 b4
  rw [eay] at RY a3 a4 S2
  clear h h1 h2 h3 g1 g2 g3 hy eao eay hn P1
  generalize mk (!s) I c (mk (!s) n true y v i C1) vI iI (mk s L true o v1 i1 B1) = R at *
  generalize mk s n c (mk s I true (mk s L true o v1 i1 B1) vI iI C1) v i y = T2 at *
  generalize mk s I true (mk s L true o v1 i1 B1) vI iI C1 = T1 at *
  generalize (mk s n c (mk s L true o v1 i1 (mk s I true B1 vI iI C1)) v i y).bl = bl at *
  generalize mk s L true o v1 i1 (mk s I true B1 vI iI C1) = T0 at *
  generalize o.red = ore at *
  cases s
  all_goals
    simp only [num, if_true, if_false, Bool.false_eq_true, Bool.not_true, Bool.not_false] at a3 a4 b3 b4 TU1 TU2 S2 ⊢
    go_enter Try.func90, Try.ntmps90
    go_wp2_with (first
      | (go_at_call_of 95 L; refine (RL.out).mono ?_; rintro e w1 ⟨rfl, rfl⟩)
      | (go_at_call_of 95 I; refine (RI.out).mono ?_; rintro e w1 ⟨rfl, rfl⟩)
      | (go_at_call_of 95 ao; refine (RO.out).mono ?_; rintro e w1 ⟨rfl, rfl⟩)
      | (go_at_call_of 95 ay; refine (RY.out).mono ?_; rintro e w1 ⟨rfl, rfl⟩))
    go_region_with (go_at_call 96; refine (TU1.out _ H1.out.drew N1.out).mono ?_; rintro e w1 ⟨rfl, hw1, hw2⟩; obtain ⟨hA, hB⟩ := S2.out w1 hw1 hw2.on; obtain ⟨e0', e1', e2', e3', e4', ef'⟩ := hA.cells; have W1 := Lib.hid hB; clear hw1 hw2 hA hB)
    all_goals
      go_wp2_with (go_at_call 96; refine (TU2.out _ W1.out.1 N2.out).mono ?_; rintro e w2 ⟨rfl, hx⟩; have W2 := Lib.hid hx; clear hx)
      go_ret
      exact ⟨rfl, W2.out.1, Z.out _ _ W1.out.2 W2.out.2⟩
theorem parts (w : World) (s : Bool) (n : Nat) (c : Bool) (x : Tr) (v i : Int) (y : Tr) (h : In w (mk s n c x v i y)) (hn : (mk s n c x v i y).bl.Nodup) :
    Calls Try.prog 90 #[.pointer (some ⟨n, 0, none⟩), .int .i64 (num s)] w (Wr (part s (mk s n c x v i y)) (fun k => k ∈ (mk s n c x v i y).bl) w) := by
  cases hx : x.red
  · exact parted_black w s n c x v i y h hx
  cases x with
  | nil => simp [Tr.red] at hx
  | node L d l v1 i1 r =>
    simp only [Tr.red] at hx
    subst hx
    rw [node_mk s L] at h hn ⊢
    generalize (Tr.node L true l v1 i1 r).kid s = o at *
    generalize (Tr.node L true l v1 i1 r).kid (!s) = ii at *
    rw [part_red]
    by_cases hio : ii.red = false ∧ o.red = false
    · rw [if_pos hio]
      exact parted_same w s n c L o v1 i1 ii v i y h hio.1 hio.2
    rw [if_neg hio]
    cases hy : y.red
    · simp only [Bool.false_eq_true, if_false]
      cases hii : ii.red
      · simp only [Bool.false_eq_true, if_false]
        exact parted_outer w s n c L o v1 i1 ii v i y h hn hii (by cases ho : o.red; exact absurd ⟨hii, ho⟩ hio; rfl) hy
      · simp only [if_true]
        cases ii with
        | nil => simp [Tr.red] at hii
        | node I d' l' vI iI r' =>
          simp only [Tr.red] at hii
          subst hii
          rw [node_mk s I] at h hn ⊢
          generalize (Tr.node I true l' vI iI r').kid s = B1 at *
          generalize (Tr.node I true l' vI iI r').kid (!s) = C1 at *
          have e : turn (!s) (mk s n c (mk s I true (mk s L true o v1 i1 B1) vI iI C1) v i y) = mk (!s) I c (mk (!s) n true y v i C1) vI iI (mk s L true o v1 i1 B1) := by rw [mk_not s n, mk_not s I, turn_mk]
          rw [turn_mk, e]
          exact parted_inner w s n c L o v1 i1 I B1 vI iI C1 v i y h hn hy
    · simp only [if_true]
      exact parted_ink w s n c L o v1 i1 ii v i y h hn hio hy
end Go.Proofs.Yteoemafdknmklaa.Tree
