/- A reader of sets' texts as plain data: what each sign does to it, and what a text is read as. Conditions: none. -/
import Derived.Test.YtikdhfedidknpaaDoorMaskBits
namespace Go.Proofs.YtikdhfedidknpaaDoor.Mask
set_option linter.unusedVariables false
set_option linter.unusedSimpArgs false

structure R where
  set : Nat
  wrong : Bool
  hyphen : Bool
  first : Nat
  number : Nat
  figures : Nat

structure R.Ok (t : R) : Prop where
  set : t.set < 18446744073709551616
  first : t.first ≤ 99
  number : t.number ≤ 99
  figures : t.figures ≤ 2
  none : t.figures = 0 → t.number = 0
  one : t.figures ≤ 1 → t.number ≤ 9

def R.figure (t : R) (f : Nat) : Option R :=
  if (t.figures = 1 ∧ t.number = 0) ∨ t.figures = 2 then none else some { t with number := 10 * t.number + f, figures := t.figures + 1 }
def R.between (t : R) : Option R :=
  if t.hyphen = true ∨ t.figures = 0 then none else some { t with first := t.number, hyphen := true, number := 0, figures := 0 }
def R.from (t : R) : Nat := if t.hyphen then t.first else t.number
def R.bad (t : R) : Bool := decide (64 ≤ t.number) || decide (t.number < t.from)
def R.end (t : R) : Option R :=
  if t.figures = 0 then none else
    some { set := if t.bad then t.set else t.set ||| rw' t.from t.number, wrong := t.wrong || t.bad, hyphen := false, first := 0, number := 0, figures := 0 }
/-- One sign more. -/
def R.take (t : R) (r : Nat) : Option R :=
  if 48 ≤ r ∧ r ≤ 57 then t.figure (r - 48) else if r = 45 then t.between else if r = 44 then t.end else none

theorem R.figure_ok {t t' : R} {f : Nat} (h : t.Ok) (hf : f ≤ 9) (e : t.figure f = some t') : t'.Ok := by
  unfold R.figure at e
  split at e
  · cases e
  · rename_i hn
    have h1 := h.one
    have h2 := h.figures
    have h3 := h.none
    have h4 := h.number
    have h6 : t.figures ≤ 1 := by omega
    have h7 := h1 h6
    cases e
    exact ⟨h.set, h.first, by show 10 * t.number + f ≤ 99; omega, by show t.figures + 1 ≤ 2; omega, fun h5 => absurd h5 (Nat.succ_ne_zero _), fun h5 => by
      have h8 : t.figures = 0 := by have : t.figures + 1 ≤ 1 := h5; omega
      have h9 := h3 h8
      show 10 * t.number + f ≤ 9
      omega⟩

theorem R.between_ok {t t' : R} (h : t.Ok) (e : t.between = some t') : t'.Ok := by
  unfold R.between at e
  split at e
  · cases e
  · cases e
    exact ⟨h.set, h.number, by simp, by simp, by simp, by simp⟩

theorem or_lt {a b : Nat} (ha : a < 18446744073709551616) (hb : b < 18446744073709551616) : a ||| b < 18446744073709551616 := Nat.or_lt_two_pow (n := 64) ha hb

theorem R.end_ok {t t' : R} (h : t.Ok) (e : t.end = some t') : t'.Ok := by
  unfold R.end at e
  split at e
  · cases e
  · cases e
    refine ⟨?_, by simp, by simp, by simp, by simp, by simp⟩
    show (if t.bad then t.set else t.set ||| rw' t.from t.number) < _
    split
    · exact h.set
    · rename_i hb
      have : t.number < 64 := by simp [R.bad] at hb; omega
      exact or_lt h.set (rw_lt _ _ this)

theorem R.take_ok {t t' : R} {r : Nat} (h : t.Ok) (e : t.take r = some t') : t'.Ok := by
  unfold R.take at e
  split at e
  · exact R.figure_ok h (by omega) e
  split at e
  · exact R.between_ok h e
  split at e
  · exact R.end_ok h e
  · cases e

def R.nil : R := ⟨0, false, false, 0, 0, 0⟩
theorem R.nil_ok : R.nil.Ok := ⟨by decide, by decide, by decide, by decide, by decide, by decide⟩

/-- A text, sign by sign. -/
def rd (t : R) : List UInt8 → Option R
  | [] => some t
  | c :: l => (t.take c.toNat).bind fun t' => rd t' l

theorem rd_append (t : R) (a b : List UInt8) : rd t (a ++ b) = (rd t a).bind fun t' => rd t' b := by
  induction a generalizing t with
  | nil => rfl
  | cons c a ih =>
    show ((t.take c.toNat).bind fun t' => rd t' (a ++ b)) = _
    simp only [rd]
    cases t.take c.toNat with
    | none => rfl
    | some t' => exact ih t'

/-- What the end makes of it. -/
def shut (o : Option R) : Nat × Int :=
  match o.bind R.end with
  | none => (0, 11)
  | some t => if t.wrong then (0, 1) else (t.set, 0)

/-- What a text is parsed as. -/
def parse (l : List UInt8) : Nat × Int := if l = [] then (0, 0) else shut (rd R.nil l)
end Go.Proofs.YtikdhfedidknpaaDoor.Mask
