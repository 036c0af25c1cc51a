/- What refill, without and take of package rbtree do. Conditions: the nodes lie apart; the keys are in order; the tree is low. -/
import Derived.Test.YteoemafdknmklaaTreeFillB
namespace Go.Proofs.Yteoemafdknmklaa.Tree
open Go.ChangeShapes Go.WideShapes Go.ChangeAt Go.RowKit
set_option linter.unusedVariables false
set_option linter.unusedSimpArgs false
set_option maxRecDepth 100000

set_option maxHeartbeats 2000000 in
theorem filledR (w : World) (s : Bool) (n : Nat) (c : Bool) (x : Tr) (v i : Int) (O : Nat) (PB : Nat) (P1 : Tr) (vp ip : Int) (P2 : Tr) (v1 i1 : Int) (Q : Tr) (h : In w (mk s n c x v i (mk s O true (mk s PB false P1 vp ip P2) v1 i1 Q))) (hn : (mk s n c x v i (mk s O true (mk s PB false P1 vp ip P2) v1 i1 Q)).bl.Nodup) :
    Calls Try.prog 93 #[.pointer (some ⟨n, 0, none⟩), .int .i64 (num s)] w (Tk (mk s O c (fillB s (mk s n true x v i (mk s PB false P1 vp ip P2))).1 v1 i1 Q, false) (fun k => k ∈ (mk s n c x v i (mk s O true (mk s PB false P1 vp ip P2) v1 i1 Q)).bl) w) := by
  have TU := Lib.hid (turned w s n O c true x (mk s PB false P1 vp ip P2) Q v i v1 i1 h hn)
  have hp : (mk s O c (mk s n true x v i (mk s PB false P1 vp ip P2)) v1 i1 Q).bl.Perm (mk s n c x v i (mk s O true (mk s PB false P1 vp ip P2) v1 i1 Q)).bl := by rw [← turn_mk (d := true)]; exact bl_turn _ _
  have hn2 := hp.nodup_iff.2 hn
  have FB := Lib.hid (fun w h => filledB w s n true x v i PB P1 vp ip P2 h (nodup_mk.1 hn2).2.2.1)
  have S1 : Hid (∀ w1, Chg (fun k => k = n ∨ k = O) w w1 → In w1 (mk s O c (mk s n true x v i (mk s PB false P1 vp ip P2)) v1 i1 Q) → In w1 (mk s n true x v i (mk s PB false P1 vp ip P2)) ∧
      ∀ w2, In w2 (fillB s (mk s n true x v i (mk s PB false P1 vp ip P2))).1 → Chg (fun k => k ∈ (mk s n true x v i (mk s PB false P1 vp ip P2)).bl) w1 w2 → (∃ c l v i r, Nd w2 O c l v i r) ∧
        In (w2.setCell ⟨O, if s then 4 else 3, none⟩ (.pointer (fillB s (mk s n true x v i (mk s PB false P1 vp ip P2))).1.at)) (mk s O c (fillB s (mk s n true x v i (mk s PB false P1 vp ip P2))).1 v1 i1 Q) ∧
        Chg (fun k => k ∈ (mk s n c x v i (mk s O true (mk s PB false P1 vp ip P2) v1 i1 Q)).bl) w (w2.setCell ⟨O, if s then 4 else 3, none⟩ (.pointer (fillB s (mk s n true x v i (mk s PB false P1 vp ip P2))).1.at))) := by
    intro w1 g1 hw1
    refine ⟨(in_mk.1 hw1).2.1, fun w2 hw2 g2 => ?_⟩
    obtain ⟨q1, q2, q3⟩ := hung hw1 hn2 (x' := (fillB s (mk s n true x v i (mk s PB false P1 vp ip P2))).1) (B := fun k => k ∈ (mk s n true x v i (mk s PB false P1 vp ip P2)).bl) (fun k _ hk => hk) hw2 (fun k hk => .inl ((bl_fillB _ _).mem_iff.1 hk)) g2
    refine ⟨⟨_, _, _, _, _, q1⟩, q2, (g1.mono ?_).trans q3 (fun k _ hk => hp.mem_iff.1 hk)⟩
    rintro k _ (rfl | rfl)
    · exact bl_mk.2 (.inl rfl)
    · exact bl_mk.2 (.inr (.inr (bl_mk.2 (.inl rfl))))
  obtain ⟨h1, h2, h3⟩ := in_mk.1 h
  obtain ⟨g1, g2, g3⟩ := in_mk.1 h3
  obtain ⟨a0, a1, a2, a3, a4, af⟩ := h1.cells
  have RO := Lib.hid (isRed_node w g1)
  rw [at_mk] at a3 a4
  obtain ⟨ax, eax⟩ : ∃ a, x.at = a := ⟨_, rfl⟩
  rw [eax] at a3 a4
  have e1 : (mk s O c (fillB s (mk s n true x v i (mk s PB false P1 vp ip P2))).1 v1 i1 Q).at = some ⟨O, 0, none⟩ := at_mk _ _ _ _ _ _ _
  have e2 : (mk s O c (mk s n true x v i (mk s PB false P1 vp ip P2)) v1 i1 Q).at = some ⟨O, 0, none⟩ := at_mk _ _ _ _ _ _ _
  clear h h1 h2 h3 g1 g2 g3 hn eax hp hn2
  generalize (mk s n c x v i (mk s O true (mk s PB false P1 vp ip P2) v1 i1 Q)).bl = bl at *
  unfold Wr at TU
  rw [e2] at TU
  have E1 := Lib.hid e1
  clear e1 e2
  generalize mk s O c (fillB s (mk s n true x v i (mk s PB false P1 vp ip P2))).1 v1 i1 Q = R at *
  generalize mk s O c (mk s n true x v i (mk s PB false P1 vp ip P2)) v1 i1 Q = R1 at *
  generalize fillB s (mk s n true x v i (mk s PB false P1 vp ip P2)) = F at *
  generalize mk s n true x v i (mk s PB false P1 vp ip P2) = T1 at *
  obtain ⟨F1, F2⟩ := F
  simp only [Tk] at *
  cases s
  all_goals
    simp only [num, if_true, if_false, Bool.false_eq_true] at a3 a4 FB S1 TU ⊢
    go_enter Try.func93, Try.ntmps93
    go_wp2_with (first
      | (go_at_call 95; refine (RO.out).mono ?_; rintro e w1 ⟨rfl, rfl⟩)
      | (go_at_call 96; refine (TU.out).mono ?_; rintro e w1 ⟨rfl, hw1, hw2⟩; obtain ⟨q1, q2⟩ := S1.out w1 hw2 hw1; have Q1 := Lib.hid q1; have Q2 := Lib.hid q2; clear hw1 hw2 q1 q2))
    go_region_with (go_at_call 93; refine (FB.out _ Q1.out.drew).mono ?_; rintro e w2 ⟨rfl, hw1, hw2⟩; obtain ⟨⟨_, _, _, _, _, r1⟩, r2⟩ := Q2.out w2 hw1 hw2.on; obtain ⟨z0, z1, z2, z3, z4, zf⟩ := r1.cells; have Q3 := Lib.hid r2; clear hw1 hw2 r1 r2)
    all_goals
      go_wp2_with fail
      go_ret2
      exact ⟨by simp only [E1.out]; rfl, Q3.out.1, Q3.out.2⟩

/-- The other side's node, where it must be. -/
def May (s : Bool) (y : Tr) : Prop := y ≠ .nil ∧ (y.red = true → y.kid s ≠ .nil ∧ (y.kid s).red = false)
theorem fills (w : World) (s : Bool) (n : Nat) (c : Bool) (x : Tr) (v i : Int) (y : Tr) (h : In w (mk s n c x v i y)) (hn : (mk s n c x v i y).bl.Nodup) (hy : May s y) :
    Calls Try.prog 93 #[.pointer (some ⟨n, 0, none⟩), .int .i64 (num s)] w (Tk (fill s (mk s n c x v i y)) (fun k => k ∈ (mk s n c x v i y).bl) w) := by
  obtain ⟨y1, y2⟩ := hy
  cases y with
  | nil => exact absurd rfl y1
  | node O d l v1 i1 r =>
    unfold fill
    rw [kid_mk']
    cases d
    · simp only [Tr.red, Bool.false_eq_true, if_false]
      rw [node_mk s O] at h hn ⊢
      exact filledB w s n c x v i O _ v1 i1 _ h hn
    · simp only [Tr.red, if_true]
      obtain ⟨z1, z2⟩ := y2 rfl
      rw [node_mk s O] at h hn ⊢
      generalize (Tr.node O true l v1 i1 r).kid s = P at *
      generalize (Tr.node O true l v1 i1 r).kid (!s) = Q at *
      cases P with
      | nil => exact absurd rfl z1
      | node PB d' l' vp ip r' =>
        simp only [Tr.red] at z2
        subst z2
        rw [turn_mk, kid_mk, hang_mk]
        rw [node_mk s PB] at h hn ⊢
        exact filledR w s n c x v i O PB _ vp ip _ v1 i1 Q h hn

theorem withouts (w : World) (n : Nat) (c : Bool) (v i : Int) (r : Tr) (h : In w (.node n c .nil v i r)) (hn : (Tr.node n c .nil v i r).bl.Nodup) :
    Calls Try.prog 91 #[.pointer (some ⟨n, 0, none⟩)] w (Tk (without (.node n c .nil v i r)) (fun k => k ∈ (Tr.node n c .nil v i r).bl) w) := by
  have OR := Lib.hid (onRight w h.1)
  have RR := Lib.hid (isRed w h.2.2)
  obtain ⟨a0, a1, a2, a3, a4, af⟩ := h.1.cells
  cases hr : r.red
  · rw [hr] at RR
    have H := Lib.hid h.2.2
    rw [show without (.node n c .nil v i r) = (r, !c) by simp [without, hr]]
    clear h hn hr
    obtain ⟨ar, ear⟩ : ∃ a, r.at = a := ⟨_, rfl⟩
    unfold Tk
    simp only
    rw [ear] at OR RR a4 ⊢
    clear ear
    go_enter Try.func91, Try.ntmps91
    go_wp2_with (first
      | (go_at_call 92; refine (OR.out).mono ?_; rintro e w1 ⟨rfl, rfl⟩)
      | (go_at_call 95; refine (RR.out).mono ?_; rintro e w1 ⟨rfl, rfl⟩))
    go_quiet (fail)
    go_wp2_with fail
    go_ret2
    exact ⟨rfl, H.out.on (fun _ _ => rfl), (Chg.refl _ w).drewN _⟩
  · cases r with
    | nil => simp [Tr.red] at hr
    | node rb d l v' i' r' =>
      rw [hr] at RR
      have K : Hid (In (w.setCell ⟨rb, 2, none⟩ (.bool false)) (Tr.node rb false l v' i' r')) := by
        obtain ⟨m1, m2, m3, m4, m5⟩ := nodup_node (nodup_node hn).2.2.2.1
        exact ⟨h.2.2.1.setC false, h.2.2.2.1.setCell m1 _, h.2.2.2.2.setCell m2 _⟩
      obtain ⟨b0, b1, b2, b3, b4, bf⟩ := h.2.2.1.cells
      rw [show without (.node n c .nil v i (.node rb d l v' i' r')) = (.node rb false l v' i' r', false) by simp only [without]; rw [if_pos hr]; rfl]
      clear h hn hr
      rw [at_node] at OR RR a4
      unfold Tk
      simp only [at_node]
      go_enter Try.func91, Try.ntmps91
      go_wp2_with (first
        | (go_at_call 92; refine (OR.out).mono ?_; rintro e w1 ⟨rfl, rfl⟩)
        | (go_at_call 95; refine (RR.out).mono ?_; rintro e w1 ⟨rfl, rfl⟩))
      go_ret2
      exact ⟨rfl, K.out, (Chg.refl _ w).setCell (fun _ => by simp [Tr.bl]) _⟩
end Go.Proofs.Yteoemafdknmklaa.Tree
