/- What the calls of package arena that only read answer. Conditions: none. -/
import Derived.Test.YtanahddlnchioaaHpPlain
import Derived.WalkKit
import Derived.Handy
import Derived.IntWalk
import Derived.Deep.QuietTactic
import Derived.BigQuiet
namespace Go.Proofs.Ytanahddlnchioaa.Hp
open Go.ChangeShapes Go.WideShapes Go.ChangeAt Go.RowKit
set_option linter.unusedVariables false
set_option linter.unusedSimpArgs false

theorem fresh_trans {a b c : World} (h : Below a.heap.size a b) (k : Below b.heap.size b c) : Below a.heap.size a c := h.trans (k.mono h.size)
theorem drawn (w : World) (n : Nat) : Below w.heap.size w (w.drewN n) := ⟨rfl, rfl, rfl, Nat.le_refl _, fun _ _ => rfl⟩

/-- The three cells of a pool. -/
theorem Pool.cells {w : World} {b : Nat} {r : Int} {vp vf : Value} {t : TypeId} (hb : w.heap[b]? = some (.cells #[.int .i64 r, vp, vf] t (0, 0))) :
    w.cell? ⟨b, 0, none⟩ = some (.int .i64 r) ∧ w.cell? ⟨b, 1, none⟩ = some vp ∧ w.cell? ⟨b, 2, none⟩ = some vf ∧ (∀ j, w.frozen? ⟨b, j, none⟩ = false) := by
  refine ⟨?_, ?_, ?_, fun j => frozen_of_row w b j _ _ hb⟩
  all_goals rw [cell_of_row w b _ _ _ _ hb]; rfl

def IsInt (n : Int) (w : World) (e : Ending) (w' : World) : Prop := e = .returned (.int .i64 n) ∧ Below w.heap.size w w'

theorem len_nil (w : World) : Calls Try.prog 47 #[.pointer none] w (IsInt 0 w) := by
  go_enter Try.func47, Try.ntmps47
  go_wp2
  go_ret; exact ⟨rfl, Below.refl _ w⟩

theorem len (w : World) (b : Nat) (O : Nat → Prop) (st : St) (h : Pool w b O st) (h1 : st.pl.length ≤ 4096) (h2 : st.fr.length ≤ 4096) :
    Calls Try.prog 47 #[.pointer (some ⟨b, 0, none⟩)] w (IsInt (st.pl.length - st.fr.length) w) := by
  obtain ⟨vp, vf, hb, ho, hp, hf⟩ := h
  obtain ⟨c0, c1, c2, fz⟩ := Pool.cells hb
  obtain ⟨ap, cp, rfl, _⟩ := hp.shape
  obtain ⟨af, cf, rfl, _⟩ := hf.shape
  clear hb hp hf
  generalize st.pl.length = n at *
  generalize st.fr.length = m at *
  go_enter Try.func47, Try.ntmps47
  go_wp2
  go_quiet (fail)
  go_wp2
  go_ret; exact ⟨by simp, drawn _ _⟩

theorem cell_alloc {w : World} {a : Addr} {v : Value} (h : w.cell? a = some v) (o : Obj) : (w.alloc o).cell? a = some v :=
  (World.cell?_of_block (Below.heap_alloc w o a.block (World.block_lt_of_cell? w a h))).trans h
theorem allocd (w : World) (o : Obj) (n : Nat) : Below w.heap.size w ((w.alloc o).drewN n) := fresh_trans ((Below.refl _ w).alloc (Nat.le_refl _) o) (drawn _ _)

def St.at (st : St) (i : Int) : Option Pl := if 0 ≤ i then st.pl[i.toNat]? else none
def St.names (st : St) (i g : Int) : Bool := match st.at i with
  | some p => p.full && (p.gen == g)
  | none => false
theorem St.names_neg {st : St} {i g : Int} (h : i < 0) : st.names i g = false := by simp [St.names, St.at, show ¬ 0 ≤ i by omega]
theorem St.names_far {st : St} {i g : Int} (h : (st.pl.length : Int) ≤ i) : st.names i g = false := by
  simp [St.names, St.at, show 0 ≤ i by omega, List.getElem?_eq_none (show st.pl.length ≤ i.toNat by omega)]
theorem St.names_in {st : St} {k : Nat} {g : Int} {p : Pl} (h : st.pl[k]? = some p) : st.names k g = (p.full && (p.gen == g)) := by
  simp [St.names, St.at, h]

theorem Row.places {w : World} {O : Nat → Prop} {e : TypeId} {v : Value} {l : List Pl} {k : Nat} {q : Pl} (h : Row w O e 4 v l.length (cellsP l)) (hq : l[k]? = some q) :
    ∃ g cap, v = .slice (some ⟨g, 0, none⟩) l.length cap ∧ w.cell? ⟨g, k * 4, none⟩ = some (.int .i64 q.thing) ∧ w.cell? ⟨g, k * 4 + 1, none⟩ = some (.int .i64 q.tgen) ∧ w.cell? ⟨g, k * 4 + 2, none⟩ = some (.bool q.full) ∧ w.cell? ⟨g, k * 4 + 3, none⟩ = some (.int .i64 q.gen) := by
  have hk : k < l.length := (List.getElem?_eq_some_iff.1 hq).1
  obtain ⟨g, cap, rfl, _⟩ := h.1.form (by omega)
  obtain ⟨a0, a1, a2, a3⟩ := cellsP_at hq
  exact ⟨g, cap, rfl, by rw [h.1.cellAt _ (by omega), a0], by rw [h.1.cellAt _ (by omega), a1], by rw [h.1.cellAt _ (by omega), a2], by rw [h.1.cellAt _ (by omega), a3]⟩

def IsBool (b : Bool) (w : World) (e : Ending) (w' : World) : Prop := e = .returned (.bool b) ∧ Below w.heap.size w w'

theorem names_nil (w : World) (i g : Int) : Calls Try.prog 54 #[.pointer none, .agg #[.int .i64 i, .int .i64 g]] w (IsBool false w) := by
  go_enter Try.func54, Try.ntmps54
  go_wp2
  go_quiet (fail)
  go_wp2
  go_ret; exact ⟨rfl, allocd _ _ _⟩

theorem names (w : World) (b : Nat) (O : Nat → Prop) (st : St) (i g : Int) (h : Pool w b O st) (h1 : st.pl.length ≤ 4096) :
    Calls Try.prog 54 #[.pointer (some ⟨b, 0, none⟩), .agg #[.int .i64 i, .int .i64 g]] w (IsBool (st.names i g) w) := by
  obtain ⟨vp, vf, hb, ho, hp, hf⟩ := h
  obtain ⟨c0, c1, c2, fz⟩ := Pool.cells hb
  have d1 := cell_alloc c1
  by_cases hi : i < 0
  · rw [St.names_neg hi]
    obtain ⟨ap, cp, rfl, _⟩ := hp.shape
    clear hb hp hf
    go_enter Try.func54, Try.ntmps54
    go_wp2
    go_quiet (fail)
    go_wp2
    go_ret; exact ⟨rfl, allocd _ _ _⟩
  have hi2 : decide (i < 0) = false := by simpa using hi
  by_cases hj : (st.pl.length : Int) ≤ i
  · rw [St.names_far hj]
    obtain ⟨ap, cp, rfl, _⟩ := hp.shape
    clear hb hp hf
    go_enter Try.func54, Try.ntmps54
    go_wp2
    go_quiet (fail)
    go_wp2
    go_ret; exact ⟨rfl, allocd _ _ _⟩
  obtain ⟨k, rfl⟩ := Int.eq_ofNat_of_zero_le (show 0 ≤ i by omega)
  obtain ⟨q, hq⟩ : ∃ q, st.pl[k]? = some q := ⟨_, List.getElem?_eq_getElem (show k < st.pl.length by omega)⟩
  rw [St.names_in hq]
  obtain ⟨gp, cp, rfl, k0, kt, k1, k2⟩ := hp.places hq
  replace k0 := cell_alloc k0
  replace k1 := cell_alloc k1
  replace k2 := cell_alloc k2
  have hj1 : (k : Int) < st.pl.length := by omega
  have hj2 : decide ((st.pl.length : Int) ≤ k) = false := by simpa using hj
  clear hb hp hf
  generalize st.pl.length = n at *
  obtain ⟨th, tt, fu, ge⟩ := q
  simp only at k0 k1 k2
  cases fu
  · go_enter Try.func54, Try.ntmps54
    go_wp2
    go_quiet (fail)
    go_wp2
    go_quiet (fail)
    go_wp2
    go_ret; exact ⟨by simp, fresh_trans (allocd _ _ _) (drawn _ _)⟩
  · go_enter Try.func54, Try.ntmps54
    go_wp2
    go_quiet (fail)
    go_wp2
    go_quiet (fail)
    go_wp2
    go_ret; exact ⟨by simp, fresh_trans (allocd _ _ _) (drawn _ _)⟩
end Go.Proofs.Ytanahddlnchioaa.Hp
