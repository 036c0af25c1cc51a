/- A band as plain data: its quota, slice, pool, local times, and what was spent; what its calls do to it. Conditions: none. -/
import Derived.Test.YtjjcaplkmbigdaaRows
import Derived.WalkKit
import Derived.ProofKit
namespace Go.Proofs.Ytjjcaplkmbigdaa.Quota
set_option linter.unusedVariables false
set_option linter.unusedSimpArgs false

structure Bd where
  q : Int
  s : Int
  p : Int
  loc : List Int
  sp : Int

/-- The local time of the P k. -/
def Bd.at (d : Bd) (k : Nat) : Int := d.loc[k]?.getD 0
def here (d : Bd) (p : Int) : Bool := decide (0 ≤ p) && decide (p < d.loc.length)
def Bd.local (d : Bd) (p : Int) : Int := if here d p then d.at p.toNat else 0
def lim (d : Bd) : Bool := decide (0 < d.q)

def badSet (q s : Int) : Bool := decide (q < 0) || decide (1099511627776 < q) || (decide (0 < q) && (decide (s < 1) || decide (1099511627776 < s)))
def setS (d : Bd) (q s : Int) : Bd := if badSet q s then d else ⟨q, if q = 0 then 0 else s, q, List.replicate d.loc.length 0, 0⟩
def setE (q s : Int) : Int := if badSet q s then 1 else 0
def drawS (d : Bd) (k : Nat) : Bd := { d with p := d.p - min d.p (d.s - d.at k), loc := d.loc.set k (d.at k + min d.p (d.s - d.at k)) }
def ensS (d : Bd) (p : Int) : Bd := if here d p && lim d && decide (d.at p.toNat ≤ 0) then drawS d p.toNat else d
def ensB (d : Bd) (p : Int) : Bool := here d p && (!lim d || decide (0 < (ensS d p).at p.toNat))
def paidS (d : Bd) (k : Nat) (n : Int) : Bd := { d with sp := d.sp + n, loc := if lim d then d.loc.set k (d.at k - n) else d.loc }
def chgE (d : Bd) (p n : Int) : Int := if here d p then (if n < 0 ∨ 1000000000 < n then 8 else 0) else 1
def chgS (d : Bd) (p n : Int) : Bd := if chgE d p n = 0 then ensS (paidS d p.toNat n) p else d
def chgB (d : Bd) (p n : Int) : Bool := decide (chgE d p n = 0) && ensB (paidS d p.toNat n) p
def retS (d : Bd) (p : Int) : Bd := if here d p && decide (0 < d.at p.toNat) then { d with p := d.p + d.at p.toNat, loc := d.loc.set p.toNat 0 } else d
def refS (d : Bd) : Bd := { d with p := d.q, sp := 0, loc := d.loc.map (min · 0) }
def newS (n : Nat) : Bd := ⟨0, 0, 0, List.replicate n 0, 0⟩

/-- What all together have that is above 0; all together. -/
def pos : List Int → Int
  | [] => 0
  | x :: l => max x 0 + pos l
def tot : List Int → Int
  | [] => 0
  | x :: l => x + tot l

theorem pos_nonneg (l : List Int) : 0 ≤ pos l := by
  induction l with
  | nil => simp [pos]
  | cons x l ih => simp only [pos]; omega
theorem pos_le {l : List Int} {k : Nat} : l[k]?.getD 0 ≤ pos l := by
  induction l generalizing k with
  | nil => simp [pos]
  | cons x l ih =>
    cases k with
    | zero => have := pos_nonneg l; simp only [List.getElem?_cons_zero, Option.getD_some, pos]; omega
    | succ k => have := @ih k; simp only [List.getElem?_cons_succ, pos]; omega
theorem pos_set {l : List Int} {k : Nat} (x : Int) (h : k < l.length) : pos (l.set k x) = pos l - max (l[k]?.getD 0) 0 + max x 0 := by
  induction l generalizing k with
  | nil => simp at h
  | cons y l ih =>
    cases k with
    | zero => simp only [List.set_cons_zero, List.getElem?_cons_zero, Option.getD_some, pos]; omega
    | succ k => have := @ih k (by simpa using h); simp only [List.set_cons_succ, List.getElem?_cons_succ, pos, this]; omega
theorem tot_set {l : List Int} {k : Nat} (x : Int) (h : k < l.length) : tot (l.set k x) = tot l - l[k]?.getD 0 + x := by
  induction l generalizing k with
  | nil => simp at h
  | cons y l ih =>
    cases k with
    | zero => simp only [List.set_cons_zero, List.getElem?_cons_zero, Option.getD_some, tot]; omega
    | succ k => have := @ih k (by simpa using h); simp only [List.set_cons_succ, List.getElem?_cons_succ, tot, this]; omega
theorem pos_zero (n : Nat) : pos (List.replicate n 0) = 0 := by
  induction n with
  | zero => rfl
  | succ n ih => simp only [List.replicate_succ, pos, ih]; omega
theorem tot_zero (n : Nat) : tot (List.replicate n 0) = 0 := by
  induction n with
  | zero => rfl
  | succ n ih => simp only [List.replicate_succ, tot, ih]; omega
theorem pos_min (l : List Int) : pos (l.map (min · 0)) = 0 := by
  induction l with
  | nil => rfl
  | cons x l ih => simp only [List.map_cons, pos, ih]; omega
theorem tot_min (l : List Int) : tot (l.map (min · 0)) ≤ 0 := by
  induction l with
  | nil => simp [tot]
  | cons x l ih => simp only [List.map_cons, tot]; omega
theorem tot_ge {l : List Int} {m : Int} (h : ∀ x ∈ l, -m ≤ x) : -(l.length * m) ≤ tot l := by
  induction l with
  | nil => simp [tot]
  | cons x l ih =>
    have h1 := h x (by simp)
    have h2 := ih fun y hy => h y (by simp [hy])
    have e : ((l.length : Int) + 1) * m = l.length * m + m := by rw [Int.add_mul, Int.one_mul]
    simp only [tot, List.length_cons, Int.natCast_add, Int.natCast_one, e]; omega
theorem at_in {d : Bd} {k : Nat} {m : Int} (h : ∀ x ∈ d.loc, -m ≤ x) (hk : k < d.loc.length) : -m ≤ d.at k := by
  have := h _ (List.getElem_mem hk)
  simpa [Bd.at, List.getElem?_eq_getElem hk] using this
theorem mem_set {l : List Int} {k : Nat} {x m : Int} (h : ∀ y ∈ l, -m ≤ y) (hx : -m ≤ x) : ∀ y ∈ l.set k x, -m ≤ y := by
  intro y hy
  rcases List.mem_or_eq_of_mem_set hy with h1 | rfl
  · exact h y h1
  · exact hx

/-- A sound band: nobody is M or more behind. -/
structure Inv (M : Int) (S : Int) (d : Bd) : Prop where
  q0 : 0 ≤ d.q
  q1 : d.q ≤ 1099511627776
  s1 : 0 < d.q → 1 ≤ d.s
  s2 : d.s ≤ 1099511627776
  s0 : 0 ≤ d.s
  p0 : 0 ≤ d.p
  pp : d.p + pos d.loc ≤ d.q
  lo : ∀ x ∈ d.loc, -M ≤ x
  m0 : 0 ≤ M
  sp0 : 0 ≤ d.sp
  sp1 : d.sp ≤ S
  len : d.loc.length ≤ 64

section
variable {M S : Int} {d : Bd} (h : Inv M S d)
include h
theorem Inv.at_le (k : Nat) : d.at k ≤ d.q - d.p := by
  have h1 := @pos_le d.loc k
  have := h.pp
  unfold Bd.at; omega
theorem Inv.at_ge (k : Nat) : -M ≤ d.at k := by
  by_cases hk : k < d.loc.length
  · exact at_in h.lo hk
  · have := h.m0
    simp [Bd.at, List.getElem?_eq_none (show d.loc.length ≤ k by omega)]; omega
theorem Inv.up {M' S' : Int} (h1 : M ≤ M') (h2 : S ≤ S') : Inv M' S' d :=
  ⟨h.q0, h.q1, h.s1, h.s2, h.s0, h.p0, h.pp, fun x hx => by have := h.lo x hx; omega, by have := h.m0; omega, h.sp0, by have := h.sp1; omega, h.len⟩
theorem Inv.set (q s : Int) (hS : 0 ≤ S) : Inv M S (setS d q s) := by
  unfold setS
  split
  · exact h
  · rename_i hb
    simp only [badSet, Bool.or_eq_true, Bool.and_eq_true, decide_eq_true_eq, not_or, not_and] at hb
    refine ⟨by simp; omega, by simp; omega, ?_, ?_, ?_, by simp; omega, by simp [pos_zero], ?_, h.m0, by simp, by simpa using hS, by simpa using h.len⟩
    · intro hq; simp only at hq ⊢; rw [if_neg (by omega)]; have := hb.2 hq; omega
    · simp only; split
      · omega
      · have := hb.2 (by omega); omega
    · simp only; split
      · omega
      · have := hb.2 (by omega); omega
    · intro x hx; have := h.m0; rw [List.eq_of_mem_replicate hx]; omega
theorem Inv.draw {k : Nat} (hk : k < d.loc.length) (hq : 0 < d.q) (ha : d.at k ≤ 0) : Inv M S (drawS d k) := by
  have h1 := h.s1 hq; have h2 := h.pp; have h3 := h.p0; have h4 := h.at_ge k
  have h5 := pos_set (l := d.loc) (k := k) (d.at k + min d.p (d.s - d.at k)) hk
  rw [show d.loc[k]?.getD 0 = d.at k from rfl] at h5
  refine ⟨h.q0, h.q1, h.s1, h.s2, h.s0, ?_, ?_, ?_, h.m0, h.sp0, h.sp1, by simpa [drawS] using h.len⟩
  · simp only [drawS]; omega
  · simp only [drawS, h5]; omega
  · exact mem_set h.lo (by omega)
theorem Inv.ens (p : Int) : Inv M S (ensS d p) := by
  unfold ensS
  split
  · rename_i hc
    simp only [here, lim, Bool.and_eq_true, decide_eq_true_eq] at hc
    exact h.draw (by omega) hc.1.2 hc.2
  · exact h
theorem Inv.paid {k : Nat} {n M' : Int} (hk : k < d.loc.length) (h0 : 0 ≤ n) (hM : M ≤ M') (hD : -M' ≤ d.at k - n) : Inv M' (S + n) (paidS d k n) := by
  have h2 := h.pp; have h3 := h.m0; have h4 := h.sp0; have h5 := h.sp1
  have h6 := pos_set (l := d.loc) (k := k) (d.at k - n) hk
  rw [show d.loc[k]?.getD 0 = d.at k from rfl] at h6
  refine ⟨h.q0, h.q1, h.s1, h.s2, h.s0, h.p0, ?_, ?_, by omega, by simp only [paidS]; omega, by simp only [paidS]; omega, ?_⟩
  · simp only [paidS]; split
    · rw [h6]; omega
    · exact h2
  · simp only [paidS]; split
    · exact mem_set (fun x hx => by have := h.lo x hx; omega) hD
    · exact fun x hx => by have := h.lo x hx; omega
  · simp only [paidS]; split
    · simpa using h.len
    · exact h.len
theorem Inv.ret (p : Int) : Inv M S (retS d p) := by
  unfold retS
  split
  · rename_i hc
    simp only [here, Bool.and_eq_true, decide_eq_true_eq] at hc
    have hk : p.toNat < d.loc.length := by omega
    have h6 := pos_set (l := d.loc) (k := p.toNat) 0 hk
    rw [show d.loc[p.toNat]?.getD 0 = d.at p.toNat from rfl] at h6
    have h2 := h.pp; have h3 := h.p0
    refine ⟨h.q0, h.q1, h.s1, h.s2, h.s0, by simp only; omega, by simp only [h6]; omega, mem_set h.lo (by have := h.m0; omega), h.m0, h.sp0, h.sp1, by simpa using h.len⟩
  · exact h
theorem Inv.ref (hS : 0 ≤ S) : Inv M S (refS d) := by
  refine ⟨h.q0, h.q1, h.s1, h.s2, h.s0, h.q0, by simp [refS, pos_min], ?_, h.m0, by simp [refS], by simpa [refS] using hS, by simpa [refS] using h.len⟩
  intro x hx
  simp only [refS, List.mem_map] at hx
  obtain ⟨y, hy, rfl⟩ := hx
  have := h.lo y hy; have := h.m0
  omega
end
theorem Inv.new {M : Int} (n : Nat) (hn : n ≤ 64) (hM : 0 ≤ M) : Inv M 0 (newS n) := by
  refine ⟨by simp [newS], by simp [newS], by simp [newS], by simp [newS], by simp [newS], by simp [newS], by simp [newS, pos_zero], ?_, hM, by simp [newS], by simp [newS], by simpa [newS] using hn⟩
  intro x hx
  rw [List.eq_of_mem_replicate hx]; omega

theorem len_set (d : Bd) (q s : Int) : (setS d q s).loc.length = d.loc.length := by unfold setS; split <;> simp
theorem len_ens (d : Bd) (p : Int) : (ensS d p).loc.length = d.loc.length := by unfold ensS; split <;> simp [drawS]
theorem len_paid (d : Bd) (k : Nat) (n : Int) : (paidS d k n).loc.length = d.loc.length := by unfold paidS; simp only; split <;> simp
theorem len_chg (d : Bd) (p n : Int) : (chgS d p n).loc.length = d.loc.length := by unfold chgS; split <;> simp [len_ens, len_paid]
theorem len_ret (d : Bd) (p : Int) : (retS d p).loc.length = d.loc.length := by unfold retS; split <;> simp
theorem len_ref (d : Bd) : (refS d).loc.length = d.loc.length := by simp [refS]
theorem q_ens (d : Bd) (p : Int) : (ensS d p).q = d.q := by unfold ensS; split <;> simp [drawS]
theorem q_chg (d : Bd) (p n : Int) : (chgS d p n).q = d.q := by unfold chgS; split <;> simp [q_ens, paidS]
theorem q_ret (d : Bd) (p : Int) : (retS d p).q = d.q := by unfold retS; split <;> simp
theorem s_ens (d : Bd) (p : Int) : (ensS d p).s = d.s := by unfold ensS; split <;> simp [drawS]
theorem s_chg (d : Bd) (p n : Int) : (chgS d p n).s = d.s := by unfold chgS; split <;> simp [s_ens, paidS]
theorem s_ret (d : Bd) (p : Int) : (retS d p).s = d.s := by unfold retS; split <;> simp
theorem sp_ens (d : Bd) (p : Int) : (ensS d p).sp = d.sp := by unfold ensS; split <;> simp [drawS]
end Go.Proofs.Ytjjcaplkmbigdaa.Quota
