/- What refill of package rbtree does. Conditions: the nodes lie apart; the other side has a node. -/
import Derived.Test.YteoemafdknmklaaTreeFill
namespace Go.Proofs.Yteoemafdknmklaa.Tree
open Go.ChangeShapes Go.WideShapes Go.ChangeAt Go.RowKit
set_option linter.unusedVariables false
set_option linter.unusedSimpArgs false
set_option maxRecDepth 100000

set_option maxHeartbeats 2000000 in
theorem filled3 (w : World) (s : Bool) (n : Nat) (c : Bool) (x : Tr) (v i : Int) (O : Nat) (PI : Nat) (B1 : Tr) (vp ip : Int) (C1 : Tr) (v1 i1 : Int) (Q : Tr) (h : In w (mk s n c x v i (mk s O false (mk (!s) PI true B1 vp ip C1) v1 i1 Q))) (hn : (mk s n c x v i (mk s O false (mk (!s) PI true B1 vp ip C1) v1 i1 Q)).bl.Nodup) (hq : Q.red = false) :
    Calls Try.prog 93 #[.pointer (some ⟨n, 0, none⟩), .int .i64 (num s)] w (Tk (mk s PI c (mk s n false x v i C1) vp ip (mk (!s) O false Q v1 i1 B1), false) (fun k => k ∈ (mk s n c x v i (mk s O false (mk (!s) PI true B1 vp ip C1) v1 i1 Q)).bl) w) := by
  have eO : mk s O false (mk (!s) PI true B1 vp ip C1) v1 i1 Q = mk (!s) O false Q v1 i1 (mk (!s) PI true B1 vp ip C1) := mk_not _ _ _ _ _ _ _
  have eT : mk s n c x v i (mk s O false (mk (!s) PI true B1 vp ip C1) v1 i1 Q) = mk (!s) n c (mk s O false (mk (!s) PI true B1 vp ip C1) v1 i1 Q) v i x := mk_not _ _ _ _ _ _ _
  have hO : In w (mk s O false (mk (!s) PI true B1 vp ip C1) v1 i1 Q) := (in_mk.1 h).2.2
  have nO := (nodup_mk.1 hn).2.2.2.1
  have P1 : (mk (!s) PI false (mk (!s) O true Q v1 i1 B1) vp ip C1).bl.Perm (mk s O false (mk (!s) PI true B1 vp ip C1) v1 i1 Q).bl := by
    rw [eO, ← turn_mk (c := false) (d := true)]; exact bl_turn _ _
  have P2 : (mk (!s) n c (mk (!s) PI false (mk (!s) O true Q v1 i1 B1) vp ip C1) v i x).bl.Perm (mk s n c x v i (mk s O false (mk (!s) PI true B1 vp ip C1) v1 i1 Q)).bl := by
    rw [eT]
    exact bl_mk'.trans (((P1.append_right _).cons _).trans bl_mk'.symm)
  have e2 : mk (!s) n c (mk (!s) PI false (mk (!s) O true Q v1 i1 B1) vp ip C1) v i x = mk s n c x v i (mk s PI false C1 vp ip (mk (!s) O true Q v1 i1 B1)) := by rw [mk_not s n, mk_not s PI]
  have P3 : (mk s PI c (mk s n true x v i C1) vp ip (mk (!s) O true Q v1 i1 B1)).bl.Perm (mk s n c x v i (mk s O false (mk (!s) PI true B1 vp ip C1) v1 i1 Q)).bl := by
    rw [← turn_mk (d := false), ← e2]; exact (bl_turn _ _).trans P2
  have TU1 := Lib.hid (fun w h => turned w (!s) O PI false true Q B1 C1 v1 i1 vp ip h (eO ▸ nO))
  rw [← eO] at TU1
  have TU2 := Lib.hid (fun w h => turned w s n PI c false x C1 (mk (!s) O true Q v1 i1 B1) v i vp ip h (e2 ▸ (P2.nodup_iff.2 hn)))
  rw [← e2] at TU2
  have S2 : Hid (∀ w1, In w1 (mk (!s) PI false (mk (!s) O true Q v1 i1 B1) vp ip C1) → Chg (fun k => k = O ∨ k = PI) w w1 → Nd w1 n c (if s then some ⟨O, 0, none⟩ else x.at) v i (if s then x.at else some ⟨O, 0, none⟩) ∧
      In (w1.setCell ⟨n, if s then 3 else 4, none⟩ (.pointer (mk (!s) PI false (mk (!s) O true Q v1 i1 B1) vp ip C1).at)) (mk (!s) n c (mk (!s) PI false (mk (!s) O true Q v1 i1 B1) vp ip C1) v i x) ∧
      Chg (fun k => k ∈ (mk s n c x v i (mk s O false (mk (!s) PI true B1 vp ip C1) v1 i1 Q)).bl) w (w1.setCell ⟨n, if s then 3 else 4, none⟩ (.pointer (mk (!s) PI false (mk (!s) O true Q v1 i1 B1) vp ip C1).at))) := by
    intro w1 hx g
    have := hung (eT ▸ h) (eT ▸ hn) (x' := mk (!s) PI false (mk (!s) O true Q v1 i1 B1) vp ip C1) (B := fun k => k = O ∨ k = PI) ?_ hx ?_ g
    · rw [← eT, at_mk s O] at this
      cases s
      · exact this
      · exact this
    · rintro k _ (rfl | rfl)
      · exact bl_mk.2 (.inl rfl)
      · exact bl_mk.2 (.inr (.inl (bl_mk.2 (.inl rfl))))
    · intro k hk
      exact .inl (P1.mem_iff.1 hk)
  have E : Hid (∀ w1 w2, Chg (fun k => k ∈ (mk s n c x v i (mk s O false (mk (!s) PI true B1 vp ip C1) v1 i1 Q)).bl) w w1 → In w2 (mk s PI c (mk s n true x v i C1) vp ip (mk (!s) O true Q v1 i1 B1)) → Chg (fun k => k = n ∨ k = PI) w1 w2 → Nd w2 PI c (if s then some ⟨O, 0, none⟩ else some ⟨n, 0, none⟩) vp ip (if s then some ⟨n, 0, none⟩ else some ⟨O, 0, none⟩) ∧ (∃ c l v i r, Nd w2 n c l v i r) ∧ (∃ c l v i r, Nd w2 O c l v i r) ∧ ¬ n = O ∧
      In ((w2.setCell ⟨if s then O else n, 2, none⟩ (.bool false)).setCell ⟨if s then n else O, 2, none⟩ (.bool false)) (mk s PI c (mk s n false x v i C1) vp ip (mk (!s) O false Q v1 i1 B1)) ∧
      Chg (fun k => k ∈ (mk s n c x v i (mk s O false (mk (!s) PI true B1 vp ip C1) v1 i1 Q)).bl) w ((w2.setCell ⟨if s then O else n, 2, none⟩ (.bool false)).setCell ⟨if s then n else O, 2, none⟩ (.bool false))) := by
    intro w1 w2 g1 hw g
    have := turned_end (w := w) (bl := (mk s n c x v i (mk s O false (mk (!s) PI true B1 vp ip C1) v1 i1 Q)).bl) hw (P3.nodup_iff.2 hn) (at_mk _ _ _ _ _ _ _) (at_mk _ _ _ _ _ _ _) (fun k hk _ => P3.mem_iff.1 hk) (g1.trans g (by
      rintro k _ (rfl | rfl)
      · exact bl_mk.2 (.inl rfl)
      · exact bl_mk.2 (.inr (.inr (bl_mk.2 (.inr (.inl (bl_mk.2 (.inl rfl)))))))))
    rw [show (mk s n true x v i C1).ink false = mk s n false x v i C1 by cases s <;> rfl, show (mk (!s) O true Q v1 i1 B1).ink false = mk (!s) O false Q v1 i1 B1 by cases s <;> rfl] at this
    exact this
  obtain ⟨h1, h2, h3⟩ := in_mk.1 h
  obtain ⟨g1, g2, g3⟩ := in_mk.1 h3
  have HO := Lib.hid hO
  obtain ⟨a0, a1, a2, a3, a4, af⟩ := h1.cells
  obtain ⟨b0, b1, b2, b3, b4, bf⟩ := g1.cells
  have RO := Lib.hid (isRed_node w g1)
  have RP := Lib.hid (isRed w g2)
  have RQ := Lib.hid (isRed w g3)
  have OL := Lib.hid (onLeft w g1)
  have OR := Lib.hid (onRight w g1)
  rw [at_mk] at a3 a4
  rw [hq] at RQ
  rw [red_mk] at RP
  obtain ⟨ax, eax⟩ : ∃ a, x.at = a := ⟨_, rfl⟩
  obtain ⟨aq, eaq⟩ : ∃ a, Q.at = a := ⟨_, rfl⟩
  rw [eax] at a3 a4 S2
  rw [at_mk] at RP OL OR b3 b4
  rw [eaq] at RQ OL OR b3 b4
  have e3 : (mk s PI c (mk s n false x v i C1) vp ip (mk (!s) O false Q v1 i1 B1)).at = some ⟨PI, 0, none⟩ := at_mk _ _ _ _ _ _ _
  have e4 : (mk s PI c (mk s n true x v i C1) vp ip (mk (!s) O true Q v1 i1 B1)).at = some ⟨PI, 0, none⟩ := at_mk _ _ _ _ _ _ _
  clear h h1 h2 h3 g1 g2 g3 hn hq eax eaq P1 P2 P3 eT e2 hO nO
  generalize (mk s n c x v i (mk s O false (mk (!s) PI true B1 vp ip C1) v1 i1 Q)).bl = bl at *
  generalize mk s O false (mk (!s) PI true B1 vp ip C1) v1 i1 Q = T0 at *
  generalize mk s PI c (mk s n false x v i C1) vp ip (mk (!s) O false Q v1 i1 B1) = R at *
  unfold Wr at TU2
  rw [e4] at TU2
  have E3 := Lib.hid e3
  clear e3 e4 eO
  generalize mk s PI c (mk s n true x v i C1) vp ip (mk (!s) O true Q v1 i1 B1) = R2 at *
  generalize mk (!s) n c (mk (!s) PI false (mk (!s) O true Q v1 i1 B1) vp ip C1) v i x = T2 at *
  generalize mk (!s) PI false (mk (!s) O true Q v1 i1 B1) vp ip C1 = R1 at *
  cases s
  all_goals
    simp only [num, if_true, if_false, Bool.false_eq_true, Bool.not_true, Bool.not_false] at a3 a4 b3 b4 OL OR E TU1 TU2 S2 ⊢
    go_enter Try.func93, Try.ntmps93
    go_wp2_with (first
      | (go_at_call_of 95 O; refine (RO.out).mono ?_; rintro e w1 ⟨rfl, rfl⟩)
      | (go_at_call_of 95 PI; refine (RP.out).mono ?_; rintro e w1 ⟨rfl, rfl⟩)
      | (go_at_call_of 95 aq; refine (RQ.out).mono ?_; rintro e w1 ⟨rfl, rfl⟩)
      | (go_at_call 79; refine (OL.out).mono ?_; rintro e w1 ⟨rfl, rfl⟩)
      | (go_at_call 92; refine (OR.out).mono ?_; rintro e w1 ⟨rfl, rfl⟩))
    go_region_with (go_at_call 96; refine (TU1.out _ HO.out.drew).mono ?_; rintro e w1 ⟨rfl, hw1, hw2⟩; obtain ⟨hA, hB⟩ := S2.out w1 hw1 hw2.on; obtain ⟨e0', e1', e2', e3', e4', ef'⟩ := hA.cells; have W1 := Lib.hid hB; clear hw1 hw2 hA hB)
    all_goals
      go_wp2_with (first
        | (go_at_call 96; refine (TU2.out _ W1.out.1).mono ?_; rintro e w2 ⟨rfl, hw1, hw2⟩; obtain ⟨q1, ⟨_, _, _, _, _, q2⟩, ⟨_, _, _, _, _, q3⟩, q4, q5⟩ := E.out _ w2 W1.out.2 hw1 hw2; replace OL := Lib.hid (onLeft w2 q1); replace OR := Lib.hid (onRight w2 q1); obtain ⟨y0, y1, y2, y3, y4, yf⟩ := q2.cells; obtain ⟨z0, z1, z2, z3, z4, zf⟩ := q3.cells; have Q5 := Lib.hid q5; have q6 : ¬ O = n := fun e => q4 e.symm; clear hw1 hw2 q1 q2 q3 q5)
        | (go_at_call 79; refine (OL.out).mono ?_; rintro e w1 ⟨rfl, rfl⟩)
        | (go_at_call 92; refine (OR.out).mono ?_; rintro e w1 ⟨rfl, rfl⟩))
      go_ret2
      exact ⟨by simp only [E3.out]; rfl, Q5.out.1, Q5.out.2⟩

/-- Where the other side is black, and not nothing. -/
theorem filledB (w : World) (s : Bool) (n : Nat) (c : Bool) (x : Tr) (v i : Int) (O : Nat) (P : Tr) (v1 i1 : Int) (Q : Tr) (h : In w (mk s n c x v i (mk s O false P v1 i1 Q))) (hn : (mk s n c x v i (mk s O false P v1 i1 Q)).bl.Nodup) :
    Calls Try.prog 93 #[.pointer (some ⟨n, 0, none⟩), .int .i64 (num s)] w (Tk (fillB s (mk s n c x v i (mk s O false P v1 i1 Q))) (fun k => k ∈ (mk s n c x v i (mk s O false P v1 i1 Q)).bl) w) := by
  have kid2 : ∀ (s : Bool) (P Q : Tr), ((mk s O false P v1 i1 Q).kid false).red = false ∧ ((mk s O false P v1 i1 Q).kid true).red = false ↔ P.red = false ∧ Q.red = false := by
    intro s P Q
    cases s
    · exact Iff.rfl
    · exact And.comm
  have F : fillB s (mk s n c x v i (mk s O false P v1 i1 Q)) = if P.red = false ∧ Q.red = false then (mk s n false x v i (mk s O true P v1 i1 Q), !c) else
      let U := turn s (if Q.red then mk s n c x v i (mk s O false P v1 i1 Q) else mk s n c x v i (turn (!s) (mk s O false P v1 i1 Q)))
      ((U.hang false ((U.kid false).ink false)).hang true ((U.kid true).ink false), false) := by
    unfold fillB
    simp only [kid_mk', red_mk, true_and, hang_mk', kid2]
    split
    · cases s <;> rfl
    · rfl
  have bothI : ∀ (U : Nat) (c : Bool) (X : Tr) (v i : Int) (Y : Tr), (((mk s U c X v i Y).hang false (((mk s U c X v i Y).kid false).ink false)).hang true (((mk s U c X v i Y).kid true).ink false)) = mk s U c (X.ink false) v i (Y.ink false) := by
    intro U c X v i Y
    cases s <;> rfl
  by_cases hpq : P.red = false ∧ Q.red = false
  · rw [F, if_pos hpq]
    exact filled2 w s n c x v i O P v1 i1 Q h hn hpq.1 hpq.2
  rw [F, if_neg hpq]
  cases hq : Q.red
  · simp only [Bool.false_eq_true, if_false]
    have hp : P.red = true := by cases hp : P.red; exact absurd ⟨hp, hq⟩ hpq; rfl
    clear F hpq
    cases P with
    | nil => simp [Tr.red] at hp
    | node PI d l vp ip r =>
      simp only [Tr.red] at hp
      subst hp
      rw [node_mk (!s) PI] at h hn ⊢
      generalize (Tr.node PI true l vp ip r).kid (!s) = B1 at *
      generalize (Tr.node PI true l vp ip r).kid (!(!s)) = C1 at *
      have e1 : turn (!s) (mk s O false (mk (!s) PI true B1 vp ip C1) v1 i1 Q) = mk (!s) PI false (mk (!s) O true Q v1 i1 B1) vp ip C1 := by rw [mk_not s O, turn_mk]
      have e2 : turn s (mk s n c x v i (mk (!s) PI false (mk (!s) O true Q v1 i1 B1) vp ip C1)) = mk s PI c (mk s n true x v i C1) vp ip (mk (!s) O true Q v1 i1 B1) := by rw [mk_not (!s) PI, Bool.not_not, turn_mk]
      rw [e1, e2, bothI, show (mk s n true x v i C1).ink false = mk s n false x v i C1 by cases s <;> rfl, show (mk (!s) O true Q v1 i1 B1).ink false = mk (!s) O false Q v1 i1 B1 by cases s <;> rfl]
      exact filled3 w s n c x v i O PI B1 vp ip C1 v1 i1 Q h hn hq
  · simp only [if_true]
    cases Q with
    | nil => simp [Tr.red] at hq
    | node qb d l vq iq r =>
      rw [turn_mk, bothI, show (mk s n true x v i P).ink false = mk s n false x v i P by cases s <;> rfl]
      exact filled4 w s n c x v i O P v1 i1 _ qb h hn hq rfl
end Go.Proofs.Yteoemafdknmklaa.Tree
