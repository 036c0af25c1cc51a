/- What refill of package rbtree does. Conditions: the nodes lie apart; the other side has a node. -/
import Derived.Test.YteoemafdknmklaaTreePut
namespace Go.Proofs.Yteoemafdknmklaa.Tree
open Go.ChangeShapes Go.WideShapes Go.ChangeAt Go.RowKit
set_option linter.unusedVariables false
set_option linter.unusedSimpArgs false
set_option maxRecDepth 100000

/-- A tree and a bool told, and what has changed. -/
def Tk (R : Tr × Bool) (B : Nat → Prop) (w : World) (e : Ending) (w' : World) : Prop := e = .returned (.tuple #[.pointer R.1.at, .bool R.2]) ∧ In w' R.1 ∧ Chg B w w'
theorem nd_at {w : World} {T : Tr} {b : Nat} (h : In w T) (hb : T.at = some ⟨b, 0, none⟩) : b ∈ T.bl ∧ ∃ c l v i r, Nd w b c l v i r := by
  cases T with
  | nil => simp [Tr.at] at hb
  | node b' c l v i r =>
    simp [Tr.at] at hb
    subst hb
    exact ⟨by simp [Tr.bl], _, _, _, _, _, h.1⟩
theorem in_ink {w : World} {T : Tr} {b : Nat} {c : Bool} (h : In w T) (hb : T.at = some ⟨b, 0, none⟩) (hn : T.bl.Nodup) : In (w.setCell ⟨b, 2, none⟩ (.bool c)) (T.ink c) := by
  cases T with
  | nil => simp [Tr.at] at hb
  | node b' c l v i r =>
    simp [Tr.at] at hb
    subst hb
    obtain ⟨m1, m2, m3, m4, m5⟩ := nodup_node hn
    exact ⟨h.1.setC _, h.2.1.setCell m1 _, h.2.2.setCell m2 _⟩
/-- Two nodes below one get black. -/
theorem ink2 {w : World} {U : Nat} {c : Bool} {L : Tr} {v i : Int} {R : Tr} {lb rb : Nat} (h : In w (.node U c L v i R)) (hn : (Tr.node U c L v i R).bl.Nodup) (hl : L.at = some ⟨lb, 0, none⟩) (hr : R.at = some ⟨rb, 0, none⟩) :
    Nd w U c (some ⟨lb, 0, none⟩) v i (some ⟨rb, 0, none⟩) ∧ (∃ c l v i r, Nd w lb c l v i r) ∧ (∃ c l v i r, Nd w rb c l v i r) ∧ ¬ lb = rb ∧ In ((w.setCell ⟨lb, 2, none⟩ (.bool false)).setCell ⟨rb, 2, none⟩ (.bool false)) (.node U c (L.ink false) v i (R.ink false)) ∧
    Chg (fun k => k ∈ (Tr.node U c L v i R).bl) w ((w.setCell ⟨lb, 2, none⟩ (.bool false)).setCell ⟨rb, 2, none⟩ (.bool false)) := by
  obtain ⟨h1, h2, h3⟩ := h
  obtain ⟨m1, m2, m3, m4, m5⟩ := nodup_node hn
  obtain ⟨l1, l2⟩ := nd_at h2 hl
  obtain ⟨r1, r2⟩ := nd_at h3 hr
  have hlr : ¬ lb = rb := fun e => m5 lb l1 (e ▸ r1)
  have hUl : U ≠ lb := fun e => m1 (e ▸ l1)
  have hUr : U ≠ rb := fun e => m2 (e ▸ r1)
  rw [hl, hr] at h1
  refine ⟨h1, l2, r2, hlr, ⟨?_, ?_, ?_⟩, ?_⟩
  · rw [at_ink, at_ink, hl, hr]
    exact (h1.other hUl _).other hUr _
  · refine (in_ink h2 hl m3).setCell ?_ _
    rw [bl_ink]
    exact fun e => m5 rb e r1
  · exact in_ink (h3.setCell (fun e => m5 lb l1 e) _) hr m4
  · exact ((Chg.refl _ w).setCell (fun _ => by simp [Tr.bl, l1]) _).setCell (fun _ => by simp [Tr.bl, r1]) _

theorem filled2 (w : World) (s : Bool) (n : Nat) (c : Bool) (x : Tr) (v i : Int) (O : Nat) (P : Tr) (v1 i1 : Int) (Q : Tr) (h : In w (mk s n c x v i (mk s O false P v1 i1 Q))) (hn : (mk s n c x v i (mk s O false P v1 i1 Q)).bl.Nodup) (hp : P.red = false) (hq : Q.red = false) :
    Calls Try.prog 93 #[.pointer (some ⟨n, 0, none⟩), .int .i64 (num s)] w (Tk (mk s n false x v i (mk s O true P v1 i1 Q), !c) (fun k => k ∈ (mk s n c x v i (mk s O false P v1 i1 Q)).bl) w) := by
  obtain ⟨h1, h2, h3⟩ := in_mk.1 h
  obtain ⟨g1, g2, g3⟩ := in_mk.1 h3
  obtain ⟨n1, n2, n3, n4, n5⟩ := nodup_mk.1 hn
  obtain ⟨m1, m2, m3, m4, m5⟩ := nodup_mk.1 n4
  have hnO : ¬ n = O := fun e => n2 (bl_mk.2 (.inl e))
  have hOn : ¬ O = n := fun e => hnO e.symm
  have K : Hid (In ((w.setCell ⟨n, 2, none⟩ (.bool false)).setCell ⟨O, 2, none⟩ (.bool true)) (mk s n false x v i (mk s O true P v1 i1 Q)) ∧ Chg (fun k => k ∈ (mk s n c x v i (mk s O false P v1 i1 Q)).bl) w ((w.setCell ⟨n, 2, none⟩ (.bool false)).setCell ⟨O, 2, none⟩ (.bool true))) := by
    have chg : Chg (fun k => k = n ∨ k = O) w ((w.setCell ⟨n, 2, none⟩ (.bool false)).setCell ⟨O, 2, none⟩ (.bool true)) := ((Chg.refl _ w).setCell (fun _ => .inl rfl) _).setCell (fun _ => .inr rfl) _
    refine ⟨in_mk.2 ⟨?_, h2.chg chg ?_, in_mk.2 ⟨?_, g2.chg chg ?_, g3.chg chg ?_⟩⟩, chg.mono ?_⟩
    · rw [at_mk] at h1 ⊢; exact (h1.setC false).other hnO _
    · rintro k hk (rfl | rfl)
      · exact n1 hk
      · exact n5 _ hk (bl_mk.2 (.inl rfl))
    · exact (g1.other hOn _).setC true
    · rintro k hk (rfl | rfl)
      · exact n2 (bl_mk.2 (.inr (.inl hk)))
      · exact m1 hk
    · rintro k hk (rfl | rfl)
      · exact n2 (bl_mk.2 (.inr (.inr hk)))
      · exact m2 hk
    · rintro k _ (rfl | rfl)
      · exact bl_mk.2 (.inl rfl)
      · exact bl_mk.2 (.inr (.inr (bl_mk.2 (.inl rfl))))
  obtain ⟨a0, a1, a2, a3, a4, af⟩ := h1.cells
  obtain ⟨b0, b1, b2, b3, b4, bf⟩ := g1.cells
  have RO := Lib.hid (isRed_node w g1)
  have RP := Lib.hid (isRed w g2)
  have RQ := Lib.hid (isRed w g3)
  have OL := Lib.hid (onLeft w g1)
  have OR := Lib.hid (onRight w g1)
  rw [at_mk] at a3 a4
  rw [hp] at RP
  rw [hq] at RQ
  obtain ⟨ax, eax⟩ : ∃ a, x.at = a := ⟨_, rfl⟩
  obtain ⟨ap, eap⟩ : ∃ a, P.at = a := ⟨_, rfl⟩
  obtain ⟨aq, eaq⟩ : ∃ a, Q.at = a := ⟨_, rfl⟩
  rw [eax] at a3 a4
  rw [eap] at RP OL OR b3 b4
  rw [eaq] at RQ OL OR b3 b4
  clear h h1 h2 h3 g1 g2 g3 hn n1 n2 n3 n4 n5 m1 m2 m3 m4 m5 hp hq eax eap eaq
  cases s
  all_goals
    simp only [num, if_true, if_false, Bool.false_eq_true] at a3 a4 b3 b4 OL OR ⊢
    go_enter Try.func93, Try.ntmps93
    go_wp2_with (first
      | (go_at_call_of 95 O; refine (RO.out).mono ?_; rintro e w1 ⟨rfl, rfl⟩)
      | (go_at_call_of 95 ap; refine (RP.out).mono ?_; rintro e w1 ⟨rfl, rfl⟩)
      | (go_at_call_of 95 aq; refine (RQ.out).mono ?_; rintro e w1 ⟨rfl, rfl⟩)
      | (go_at_call 79; refine (OL.out).mono ?_; rintro e w1 ⟨rfl, rfl⟩)
      | (go_at_call 92; refine (OR.out).mono ?_; rintro e w1 ⟨rfl, rfl⟩))
    go_ret2
    exact ⟨by rw [at_mk]; rfl, K.out.1, K.out.2⟩

/-- What is behind the turn: both below get black. -/
theorem turned_end {w w2 : World} {s : Bool} {U : Nat} {c : Bool} {X : Tr} {v i : Int} {Y : Tr} {xb yb : Nat} {bl : List Nat} (h : In w2 (mk s U c X v i Y)) (hn : (mk s U c X v i Y).bl.Nodup) (hx : X.at = some ⟨xb, 0, none⟩) (hy : Y.at = some ⟨yb, 0, none⟩)
    (hb : ∀ k ∈ (mk s U c X v i Y).bl, k < w.heap.size → k ∈ bl) (g : Chg (fun k => k ∈ bl) w w2) :
    Nd w2 U c (if s then some ⟨yb, 0, none⟩ else some ⟨xb, 0, none⟩) v i (if s then some ⟨xb, 0, none⟩ else some ⟨yb, 0, none⟩) ∧ (∃ c l v i r, Nd w2 xb c l v i r) ∧ (∃ c l v i r, Nd w2 yb c l v i r) ∧ ¬ xb = yb ∧
    In ((w2.setCell ⟨if s then yb else xb, 2, none⟩ (.bool false)).setCell ⟨if s then xb else yb, 2, none⟩ (.bool false)) (mk s U c (X.ink false) v i (Y.ink false)) ∧
    Chg (fun k => k ∈ bl) w ((w2.setCell ⟨if s then yb else xb, 2, none⟩ (.bool false)).setCell ⟨if s then xb else yb, 2, none⟩ (.bool false)) := by
  cases s
  · obtain ⟨q1, q2, q3, q4, q5, q6⟩ := ink2 h hn hx hy
    exact ⟨q1, q2, q3, q4, q5, g.trans q6 (fun k hk e => hb k e hk)⟩
  · obtain ⟨q1, q2, q3, q4, q5, q6⟩ := ink2 h hn hy hx
    exact ⟨q1, q3, q2, fun e => q4 e.symm, q5, g.trans q6 (fun k hk e => hb k e hk)⟩
theorem filled4 (w : World) (s : Bool) (n : Nat) (c : Bool) (x : Tr) (v i : Int) (O : Nat) (P : Tr) (v1 i1 : Int) (Q : Tr) (qb : Nat) (h : In w (mk s n c x v i (mk s O false P v1 i1 Q))) (hn : (mk s n c x v i (mk s O false P v1 i1 Q)).bl.Nodup) (hq : Q.red = true) (hqb : Q.at = some ⟨qb, 0, none⟩) :
    Calls Try.prog 93 #[.pointer (some ⟨n, 0, none⟩), .int .i64 (num s)] w (Tk (mk s O c (mk s n false x v i P) v1 i1 (Q.ink false), false) (fun k => k ∈ (mk s n c x v i (mk s O false P v1 i1 Q)).bl) w) := by
  have TU := Lib.hid (turned w s n O c false x P Q v i v1 i1 h hn)
  have E : Hid (∀ w2, In w2 (mk s O c (mk s n true x v i P) v1 i1 Q) → Chg (fun k => k = n ∨ k = O) w w2 → Nd w2 O c (if s then some ⟨qb, 0, none⟩ else some ⟨n, 0, none⟩) v1 i1 (if s then some ⟨n, 0, none⟩ else some ⟨qb, 0, none⟩) ∧ (∃ c l v i r, Nd w2 n c l v i r) ∧ (∃ c l v i r, Nd w2 qb c l v i r) ∧ ¬ n = qb ∧
      In ((w2.setCell ⟨if s then qb else n, 2, none⟩ (.bool false)).setCell ⟨if s then n else qb, 2, none⟩ (.bool false)) (mk s O c (mk s n false x v i P) v1 i1 (Q.ink false)) ∧
      Chg (fun k => k ∈ (mk s n c x v i (mk s O false P v1 i1 Q)).bl) w ((w2.setCell ⟨if s then qb else n, 2, none⟩ (.bool false)).setCell ⟨if s then n else qb, 2, none⟩ (.bool false))) := by
    intro w2 hw g
    have hp : (mk s O c (mk s n true x v i P) v1 i1 Q).bl.Perm (mk s n c x v i (mk s O false P v1 i1 Q)).bl := by rw [← turn_mk (d := false)]; exact bl_turn _ _
    have := turned_end (w := w) (bl := (mk s n c x v i (mk s O false P v1 i1 Q)).bl) hw (hp.nodup_iff.2 hn) (at_mk _ _ _ _ _ _ _) hqb (fun k hk _ => hp.mem_iff.1 hk) (g.mono (by
      rintro k _ (rfl | rfl)
      · exact bl_mk.2 (.inl rfl)
      · exact bl_mk.2 (.inr (.inr (bl_mk.2 (.inl rfl))))))
    rw [show (mk s n true x v i P).ink false = mk s n false x v i P by cases s <;> rfl] at this
    exact this
  obtain ⟨h1, h2, h3⟩ := in_mk.1 h
  obtain ⟨g1, g2, g3⟩ := in_mk.1 h3
  obtain ⟨a0, a1, a2, a3, a4, af⟩ := h1.cells
  obtain ⟨b0, b1, b2, b3, b4, bf⟩ := g1.cells
  have RO := Lib.hid (isRed_node w g1)
  have RP := Lib.hid (isRed w g2)
  have RQ := Lib.hid (isRed w g3)
  have OL := Lib.hid (onLeft w g1)
  have OR := Lib.hid (onRight w g1)
  rw [at_mk] at a3 a4
  rw [hq] at RQ
  obtain ⟨ax, eax⟩ : ∃ a, x.at = a := ⟨_, rfl⟩
  obtain ⟨ap, eap⟩ : ∃ a, P.at = a := ⟨_, rfl⟩
  rw [eax] at a3 a4
  rw [eap] at RP OL OR b3 b4
  rw [hqb] at RQ OL OR b3 b4
  have e1 : (mk s O c (mk s n false x v i P) v1 i1 (Q.ink false)).at = (mk s O c (mk s n true x v i P) v1 i1 Q).at := by rw [at_mk, at_mk]
  have e2 : (mk s O c (mk s n true x v i P) v1 i1 Q).at = some ⟨O, 0, none⟩ := at_mk _ _ _ _ _ _ _
  clear h h1 h2 h3 g1 g2 g3 hn hq eax eap hqb
  generalize (mk s n c x v i (mk s O false P v1 i1 Q)).bl = bl at *
  generalize mk s O c (mk s n false x v i P) v1 i1 (Q.ink false) = R at *
  unfold Wr at TU
  rw [e2] at TU e1
  have E1 := Lib.hid e1
  clear e1 e2
  generalize mk s O c (mk s n true x v i P) v1 i1 Q = R1 at *
  generalize P.red = pr at *
  cases pr
  all_goals
    cases s
    all_goals
      simp only [num, if_true, if_false, Bool.false_eq_true] at a3 a4 b3 b4 OL OR E TU ⊢
      go_enter Try.func93, Try.ntmps93
      go_wp2_with (first
        | (go_at_call_of 95 O; refine (RO.out).mono ?_; rintro e w1 ⟨rfl, rfl⟩)
        | (go_at_call_of 95 ap; refine (RP.out).mono ?_; rintro e w1 ⟨rfl, rfl⟩)
        | (go_at_call_of 95 qb; refine (RQ.out).mono ?_; rintro e w1 ⟨rfl, rfl⟩)
        | (go_at_call 79; refine (OL.out).mono ?_; rintro e w1 ⟨rfl, rfl⟩)
        | (go_at_call 92; refine (OR.out).mono ?_; rintro e w1 ⟨rfl, rfl⟩)
        | (go_at_call 96; refine (TU.out).mono ?_; rintro e w2 ⟨rfl, hw1, hw2⟩; obtain ⟨q1, ⟨_, _, _, _, _, q2⟩, ⟨_, _, _, _, _, q3⟩, q4, q5⟩ := E.out w2 hw1 hw2; replace OL := Lib.hid (onLeft w2 q1); replace OR := Lib.hid (onRight w2 q1); obtain ⟨y0, y1, y2, y3, y4, yf⟩ := q2.cells; obtain ⟨z0, z1, z2, z3, z4, zf⟩ := q3.cells; have Q5 := Lib.hid q5; have q6 : ¬ qb = n := fun e => q4 e.symm; clear hw1 hw2 q1 q2 q3 q5))
      go_ret2
      exact ⟨by simp only [E1.out]; rfl, Q5.out.1, Q5.out.2⟩
end Go.Proofs.Yteoemafdknmklaa.Tree
