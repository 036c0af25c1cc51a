/- What turn and part of package rbtree do. Conditions: the nodes lie apart. -/
import Derived.Test.YteoemafdknmklaaTreeReads
import Derived.BigRegion
import Derived.Deep.Cut
namespace Go.Proofs.Yteoemafdknmklaa.Tree
open Go.ChangeShapes Go.WideShapes Go.ChangeAt Go.RowKit
set_option linter.unusedVariables false
set_option linter.unusedSimpArgs false
set_option maxRecDepth 100000

/-- A tree told, and what has changed. -/
def Wr (T : Tr) (B : Nat → Prop) (w : World) (e : Ending) (w' : World) : Prop := e = .returned (.pointer T.at) ∧ In w' T ∧ Chg B w w'

theorem nodup_node {b : Nat} {c : Bool} {l r : Tr} {v i : Int} (h : (Tr.node b c l v i r).bl.Nodup) : b ∉ l.bl ∧ b ∉ r.bl ∧ l.bl.Nodup ∧ r.bl.Nodup ∧ (∀ k ∈ l.bl, k ∉ r.bl) := by
  simp only [Tr.bl, List.nodup_cons, List.mem_append, not_or, List.nodup_append] at h
  exact ⟨h.1.1, h.1.2, h.2.1, h.2.2.1, fun k h1 h2 => h.2.2.2 k h1 k h2 rfl⟩

theorem turn_left (w : World) (n u : Nat) (c d : Bool) (A B C : Tr) (v i v' i' : Int) (h : In w (.node n c A v i (.node u d B v' i' C))) (hn : (Tr.node n c A v i (.node u d B v' i' C)).bl.Nodup) :
    Calls Try.prog 96 #[.pointer (some ⟨n, 0, none⟩), .int .i64 0] w (Wr (.node u c (.node n true A v i B) v' i' C) (fun k => k = n ∨ k = u) w) := by
  obtain ⟨h1, h2, h3, h4, h5⟩ := h
  obtain ⟨m1, m2, m3, m4, m5⟩ := nodup_node hn
  obtain ⟨q1, q2, q3, q4, q5⟩ := nodup_node m4
  simp only [Tr.bl, List.mem_cons, List.mem_append, not_or] at m2 m5
  obtain ⟨a0, a1, a2, a3, a4, af⟩ := h1.cells
  obtain ⟨b0, b1, b2, b3, b4, bf⟩ := h3.cells
  have hne : ¬ n = u := m2.1
  have hne' : ¬ u = n := fun e => m2.1 e.symm
  have K := Lib.hid (And.intro h1 (And.intro h2 (And.intro h3 (And.intro h4 h5))))
  rw [at_node] at a4
  clear h1 h2 h3 h4 h5
  go_enter Try.func96, Try.ntmps96
  go_wp2_with fail
  go_region
  go_wp2_with fail
  go_ret
  have chg : Chg (fun k => k = n ∨ k = u) w ((((w.setCell ⟨n, 4, none⟩ (.pointer B.at)).setCell ⟨u, 3, none⟩ (.pointer (some ⟨n, 0, none⟩))).setCell ⟨u, 2, none⟩ (.bool c)).setCell ⟨n, 2, none⟩ (.bool true)).drew :=
    (((((Chg.refl _ w).setCell (fun _ => .inl rfl) _).setCell (fun _ => .inr rfl) _).setCell (fun _ => .inr rfl) _).setCell (fun _ => .inl rfl) _).drew
  obtain ⟨h1, h2, h3, h4, h5⟩ := K.out
  refine ⟨rfl, ⟨?_, ⟨?_, h2.chg chg ?_, h4.chg chg ?_⟩, h5.chg chg ?_⟩, chg⟩
  · exact (((h3.other hne' _).setL (some ⟨n, 0, none⟩)).setC c).other hne' _
  · exact (((h1.setR B.at).other hne _).other hne _).setC true
  · rintro b hb (rfl | rfl)
    · exact m1 hb
    · exact (m5 _ hb).1 rfl
  · rintro b hb (rfl | rfl)
    · exact m2.2.1 hb
    · exact q1 hb
  · rintro b hb (rfl | rfl)
    · exact m2.2.2 hb
    · exact q2 hb
theorem turn_right (w : World) (n u : Nat) (c d : Bool) (A B C : Tr) (v i v' i' : Int) (h : In w (.node n c (.node u d C v' i' B) v i A)) (hn : (Tr.node n c (.node u d C v' i' B) v i A).bl.Nodup) :
    Calls Try.prog 96 #[.pointer (some ⟨n, 0, none⟩), .int .i64 1] w (Wr (.node u c C v' i' (.node n true B v i A)) (fun k => k = n ∨ k = u) w) := by
  obtain ⟨h1, ⟨h3, h5, h4⟩, h2⟩ := h
  obtain ⟨m1, m2, m3, m4, m5⟩ := nodup_node hn
  obtain ⟨q1, q2, q3, q4, q5⟩ := nodup_node m3
  simp only [Tr.bl, List.mem_cons, List.mem_append, not_or] at m1 m5
  obtain ⟨a0, a1, a2, a3, a4, af⟩ := h1.cells
  obtain ⟨b0, b1, b2, b3, b4, bf⟩ := h3.cells
  have hne : ¬ n = u := m1.1
  have hne' : ¬ u = n := fun e => m1.1 e.symm
  have K := Lib.hid (And.intro h1 (And.intro h2 (And.intro h3 (And.intro h4 h5))))
  rw [at_node] at a3
  clear h1 h2 h3 h4 h5
  go_enter Try.func96, Try.ntmps96
  go_wp2_with fail
  go_region
  go_wp2_with fail
  go_ret
  have chg : Chg (fun k => k = n ∨ k = u) w ((((w.setCell ⟨n, 3, none⟩ (.pointer B.at)).setCell ⟨u, 4, none⟩ (.pointer (some ⟨n, 0, none⟩))).setCell ⟨u, 2, none⟩ (.bool c)).setCell ⟨n, 2, none⟩ (.bool true)).drew :=
    (((((Chg.refl _ w).setCell (fun _ => .inl rfl) _).setCell (fun _ => .inr rfl) _).setCell (fun _ => .inr rfl) _).setCell (fun _ => .inl rfl) _).drew
  obtain ⟨h1, h2, h3, h4, h5⟩ := K.out
  refine ⟨rfl, ⟨?_, h5.chg chg ?_, ⟨?_, h4.chg chg ?_, h2.chg chg ?_⟩⟩, chg⟩
  · exact (((h3.other hne' _).setR (some ⟨n, 0, none⟩)).setC c).other hne' _
  · rintro b hb (rfl | rfl)
    · exact m1.2.1 hb
    · exact q1 hb
  · exact (((h1.setL B.at).other hne _).other hne _).setC true
  · rintro b hb (rfl | rfl)
    · exact m1.2.2 hb
    · exact q2 hb
  · rintro b hb (rfl | rfl)
    · exact m2 hb
    · exact m5 _ (.inl rfl) hb
theorem turned (w : World) (s : Bool) (n u : Nat) (c d : Bool) (A B C : Tr) (v i v' i' : Int) (h : In w (mk s n c A v i (mk s u d B v' i' C))) (hn : (mk s n c A v i (mk s u d B v' i' C)).bl.Nodup) :
    Calls Try.prog 96 #[.pointer (some ⟨n, 0, none⟩), .int .i64 (num s)] w (Wr (mk s u c (mk s n true A v i B) v' i' C) (fun k => k = n ∨ k = u) w) := by
  cases s
  · exact turn_left w n u c d A B C v i v' i' h hn
  · exact turn_right w n u c d A B C v i v' i' h hn

/-! ### part -/
theorem at_mk (s : Bool) (b : Nat) (c : Bool) (x : Tr) (v i : Int) (y : Tr) : (mk s b c x v i y).at = some ⟨b, 0, none⟩ := by cases s <;> rfl
theorem mk_not (s : Bool) (b : Nat) (c : Bool) (x : Tr) (v i : Int) (y : Tr) : mk s b c x v i y = mk (!s) b c y v i x := by cases s <;> rfl
theorem in_mk {w : World} {s : Bool} {b : Nat} {c : Bool} {x : Tr} {v i : Int} {y : Tr} : In w (mk s b c x v i y) ↔ Nd w b c (if s then y.at else x.at) v i (if s then x.at else y.at) ∧ In w x ∧ In w y := by
  cases s
  · exact Iff.rfl
  · exact ⟨fun h => ⟨h.1, h.2.2, h.2.1⟩, fun h => ⟨h.1, h.2.2, h.2.1⟩⟩
theorem bl_mk {s : Bool} {b : Nat} {c : Bool} {x : Tr} {v i : Int} {y : Tr} {k : Nat} : k ∈ (mk s b c x v i y).bl ↔ k = b ∨ k ∈ x.bl ∨ k ∈ y.bl := by
  cases s
  · simp [mk, Tr.bl]
  · simp only [mk, Tr.bl, if_true, List.mem_cons, List.mem_append]; constructor <;> rintro (h | h | h) <;> simp [h]
theorem nodup_mk {s : Bool} {b : Nat} {c : Bool} {x : Tr} {v i : Int} {y : Tr} : (mk s b c x v i y).bl.Nodup ↔ b ∉ x.bl ∧ b ∉ y.bl ∧ x.bl.Nodup ∧ y.bl.Nodup ∧ (∀ k ∈ x.bl, k ∉ y.bl) := by
  cases s
  · simp only [mk, Tr.bl, List.nodup_cons, List.mem_append, not_or, List.nodup_append, Bool.false_eq_true, if_false]
    exact ⟨fun h => ⟨h.1.1, h.1.2, h.2.1, h.2.2.1, fun k h1 h2 => h.2.2.2 k h1 k h2 rfl⟩, fun h => ⟨⟨h.1, h.2.1⟩, h.2.2.1, h.2.2.2.1, fun k h1 j h2 e => h.2.2.2.2 k h1 (e ▸ h2)⟩⟩
  · simp only [mk, Tr.bl, List.nodup_cons, List.mem_append, not_or, List.nodup_append, if_true]
    exact ⟨fun h => ⟨h.1.2, h.1.1, h.2.2.1, h.2.1, fun k h1 h2 => h.2.2.2 k h2 k h1 rfl⟩, fun h => ⟨⟨h.2.1, h.1⟩, h.2.2.2.1, h.2.2.1, fun k h1 j h2 e => h.2.2.2.2 j h2 (e ▸ h1)⟩⟩
theorem chg_mk {w w' : World} {s : Bool} {b : Nat} {c : Bool} {x : Tr} {v i : Int} {y : Tr} {B : Nat → Prop} (g : Chg B w w') (hx : In w x) (hy : In w y) (hb : ∀ k, k ∈ x.bl ∨ k ∈ y.bl → ¬ B k)
    (h : Nd w' b c (if s then y.at else x.at) v i (if s then x.at else y.at)) : In w' (mk s b c x v i y) :=
  in_mk.2 ⟨h, hx.chg g (fun k hk => hb k (.inl hk)), hy.chg g (fun k hk => hb k (.inr hk))⟩
end Go.Proofs.Yteoemafdknmklaa.Tree
