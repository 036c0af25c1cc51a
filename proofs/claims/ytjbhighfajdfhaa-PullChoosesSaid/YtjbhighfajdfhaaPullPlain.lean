/- Which task is pulled over, in plain numbers. Conditions: as each fact states them. -/
import Derived.Test.YtjbhighfajdfhaaLoadPlain
namespace Go.Proofs.Ytjbhighfajdfhaa.Pull
open Load
set_option linter.unusedVariables false
set_option linter.unusedSimpArgs false

/-- A task that may be pulled. -/
structure Cd where
  id : Int
  wt : Int
  ms : Nat
  rn : Bool
structure Cd.Ok (c : Cd) : Prop where
  id0 : -9223372036854775808 ≤ c.id
  id1 : c.id ≤ 9223372036854775807
  wt0 : 0 ≤ c.wt
  wt1 : c.wt ≤ 18446744073709551615
  ms1 : c.ms < 18446744073709551616

def allow (m : Nat) (p : Int) : Bool := decide (0 ≤ p) && may m p.toNat
theorem allow_at (m p : Nat) : allow m p = may m p := by simp [allow]
def mayc (c : Cd) (gap p : Int) : Bool := allow c.ms p && !c.rn && decide (0 < c.wt) && decide (c.wt < gap)
theorem mayc_iff {c : Cd} {gap p : Int} : mayc c gap p = true ↔ allow c.ms p = true ∧ c.rn = false ∧ 0 < c.wt ∧ c.wt < gap := by
  simp [mayc, and_assoc]

/-- Which of two is the better one. -/
def better (half : Int) (a b : Cd) : Bool := if a.wt = b.wt then decide (a.id < b.id) else if max a.wt b.wt ≤ half then decide (b.wt < a.wt) else decide (a.wt < b.wt)
def key (half : Int) (c : Cd) : Int := - ((if c.wt ≤ half then - c.wt else c.wt) * 18446744073709551616 + c.id)
theorem better_key {half : Int} {a b : Cd} (ha : a.Ok) (hb : b.Ok) (h1 : 0 < a.wt) (h2 : 0 < b.wt) : better half a b = decide (key half b < key half a) := by
  obtain ⟨a0, a1, a2, a3, _⟩ := ha
  obtain ⟨b0, b1, b2, b3, _⟩ := hb
  unfold better key
  split
  · rename_i h
    rw [h, decide_eq_decide]
    split <;> omega
  · split
    · rw [decide_eq_decide, if_pos (by omega), if_pos (by omega)]; omega
    · rw [decide_eq_decide]
      split <;> split <;> omega

/-- Where the one lies that is pulled; -1: nowhere. -/
def cho (C : Nat → Cd) (gap p : Int) (n : Nat) : Int := pick (fun j => mayc (C j) gap p) (fun j => key (gap / 2) (C j)) n
theorem cho_end (C : Nat → Cd) (gap p : Int) (n : Nat) : cho C gap p n = -1 ∨ ∃ q : Nat, cho C gap p n = q ∧ q < n ∧ mayc (C q) gap p = true := pick_bd _ _ _
theorem cho_zero (C : Nat → Cd) (gap p : Int) : cho C gap p 0 = -1 := rfl
theorem cho_keep {C : Nat → Cd} {gap p : Int} {k : Nat} (h : mayc (C k) gap p = false) : cho C gap p (k + 1) = cho C gap p k := by
  unfold cho; rw [pick]; simp [h]
theorem cho_first {C : Nat → Cd} {gap p : Int} {k : Nat} (h : mayc (C k) gap p = true) (hn : cho C gap p k = -1) : cho C gap p (k + 1) = k := by
  unfold cho at *; rw [pick, hn]; simp [h]
theorem cho_more {C : Nat → Cd} {gap p : Int} {k q : Nat} (hC : ∀ j, j ≤ k → (C j).Ok) (hq : q < k) (h : mayc (C k) gap p = true) (hn : cho C gap p k = q) (hm : mayc (C q) gap p = true) :
    cho C gap p (k + 1) = if better (gap / 2) (C k) (C q) then (k : Int) else q := by
  rw [better_key (hC k (Nat.le_refl _)) (hC q (by omega)) (mayc_iff.1 h).2.2.1 (mayc_iff.1 hm).2.2.1]
  unfold cho at *
  rw [pick, hn]
  have : ((q : Int) == -1) = false := by simp
  simp [h, this]
/-- The place that is told, and whether there is one. -/
def plc (r : Int) : Int := if r = -1 then 0 else r
def fnd (r : Int) : Bool := !(r == -1)

/-- The loads behind a pull. -/
def gap (a b : Int) : Int := if a < b then 0 else a - b
def top (a b : Int) : Int := min (a + b) 18446744073709551615
theorem gap_bd {a b : Int} (ha : U64 a) (hb : U64 b) : U64 (gap a b) := by unfold U64 gap at *; split <;> omega

/-- The document's order: one lies ahead of another one. -/
def fits (g w : Int) : Bool := decide (2 * w ≤ g)
def ahd (C : Nat → Cd) (g : Int) (a b : Nat) : Bool := decide (key (g / 2) (C b) < key (g / 2) (C a)) || (decide (key (g / 2) (C b) = key (g / 2) (C a)) && decide (a < b))
def docA (C : Nat → Cd) (g : Int) (a b : Nat) : Bool :=
  if (!(fits g (C a).wt == fits g (C b).wt)) = true then fits g (C a).wt
  else if ¬ (C a).wt = (C b).wt then (decide ((C b).wt < (C a).wt) == fits g (C a).wt)
  else if ¬ (C a).id = (C b).id then decide ((C a).id < (C b).id) else decide (a < b)
theorem docA_eq {C : Nat → Cd} {g : Int} {a b : Nat} (ha : (C a).Ok) (hb : (C b).Ok) (h1 : 0 < (C a).wt) (h2 : 0 < (C b).wt) : docA C g a b = ahd C g a b := by
  obtain ⟨a0, a1, a2, a3, _⟩ := ha
  obtain ⟨b0, b1, b2, b3, _⟩ := hb
  have K : ∀ c : Cd, key (g / 2) c = - ((if 2 * c.wt ≤ g then - c.wt else c.wt) * 18446744073709551616 + c.id) := fun c => by
    unfold key
    by_cases h : 2 * c.wt ≤ g
    · rw [if_pos h, if_pos (by omega)]
    · rw [if_neg h, if_neg (by omega)]
  unfold docA ahd
  rw [K, K]
  unfold fits
  generalize (C a).wt = wa at *
  generalize (C b).wt = wb at *
  generalize (C a).id = ia at *
  generalize (C b).id = ib at *
  by_cases x : 2 * wa ≤ g <;> by_cases y : 2 * wb ≤ g
  · simp only [x, y, if_true, decide_true, beq_self_eq_true, Bool.not_true, Bool.false_eq_true, if_false]
    by_cases e : wa = wb
    · subst e
      simp only [not_true, if_false]
      by_cases e2 : ia = ib
      · subst e2; simp
      · simp [e2]
        exact fun h => absurd h.symm e2
    · simp only [e, not_false_iff, if_true, beq_true]
      by_cases l : wb < wa
      · simp [l]; left; omega
      · simp [l]; exact ⟨by omega, fun h => absurd h (by omega)⟩
  · simp [x, y]; left; omega
  · simp [x, y]; exact ⟨by omega, fun h => absurd h (by omega)⟩
  · simp only [x, y, if_false, decide_false, beq_self_eq_true, Bool.not_true, Bool.false_eq_true]
    by_cases e : wa = wb
    · subst e
      simp only [not_true, if_false]
      by_cases e2 : ia = ib
      · subst e2; simp
      · simp [e2]
        exact fun h => absurd h.symm e2
    · simp only [e, not_false_iff, if_true, beq_false]
      by_cases l : wb < wa
      · simp [l]; exact ⟨by omega, fun h => absurd h (by omega)⟩
      · simp [l]; left; omega

/-- The one whom none of the others is ahead of. -/
def IsA (C : Nat → Cd) (g p : Int) (n a : Nat) : Prop := mayc (C a) g p = true ∧ ∀ q, q < n → ¬ (q = a) → mayc (C q) g p = true → ahd C g q a = false
theorem isA_cho {C : Nat → Cd} {g p : Int} {n a : Nat} (ha : a < n) (h : IsA C g p n a) : (a : Int) = cho C g p n := by
  refine best_only ?_ (pick_best _ _ n)
  refine .inr ⟨a, rfl, ha, h.1, fun q hq hS => ?_⟩
  by_cases e : q = a
  · subst e; exact .inr ⟨rfl, Nat.le_refl _⟩
  · have := h.2 q hq e hS
    simp [ahd] at this
    simp only []
    obtain ⟨h1, h2⟩ := this
    by_cases h3 : key (g / 2) (C q) = key (g / 2) (C a)
    · right; exact ⟨h3, h2 h3.symm⟩
    · left; omega
theorem isA_none {C : Nat → Cd} {g p : Int} {n : Nat} (h : ∀ a, a < n → ¬ IsA C g p n a) : cho C g p n = -1 := by
  rcases pick_best (fun j => mayc (C j) g p) (fun j => key (g / 2) (C j)) n with ⟨e, _⟩ | ⟨a, e, ha, hS, hb⟩
  · exact e
  · refine absurd ⟨hS, fun q hq hne hSq => ?_⟩ (h a ha)
    have := hb q hq hSq
    simp [ahd]
    simp only [] at this
    omega
end Go.Proofs.Ytjbhighfajdfhaa.Pull
