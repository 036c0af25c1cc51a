/- What a task may do next, as plain numbers: the steps, and rows of events. Conditions: none. -/
import Derived.Test.YtmcfmkganljbmaaDoorRows
namespace Go.Proofs.YtmcfmkganljbmaaDoor.State
set_option linter.unusedVariables false
set_option linter.unusedSimpArgs false

def isSt (s : Int) : Bool := decide (1 ≤ s ∧ s ≤ 4)
def isEv (e : Int) : Bool := decide (e = 7 ∨ e = 101 ∨ e = 8 ∨ e = 9 ∨ e = 10 ∨ e = 102)
/-- The state behind an event, 0 where there is none. -/
def toS (s e : Int) : Int :=
  if s = 1 ∧ e = 7 then 2 else if s = 2 ∧ e = 101 then 3 else if s = 3 ∧ e = 8 then 1 else if s = 3 ∧ e = 9 then 2 else if s = 3 ∧ e = 10 then 4 else if s = 3 ∧ e = 102 then 2 else 0
def errS (s e : Int) : Int := if isSt s = false ∨ isEv e = false then 1 else if toS s e = 0 then 7 else 0

theorem err_bd (s e : Int) : errS s e = 0 ∨ errS s e = 1 ∨ errS s e = 7 := by
  unfold errS
  split
  · exact .inr (.inl rfl)
  · split
    · exact .inr (.inr rfl)
    · exact .inl rfl
/-- An event that is taken: one of the six steps. -/
theorem taken {s e : Int} (h : errS s e = 0) : (s = 1 ∧ e = 7 ∧ toS s e = 2) ∨ (s = 2 ∧ e = 101 ∧ toS s e = 3) ∨ (s = 3 ∧ e = 8 ∧ toS s e = 1) ∨ (s = 3 ∧ e = 9 ∧ toS s e = 2) ∨ (s = 3 ∧ e = 10 ∧ toS s e = 4) ∨ (s = 3 ∧ e = 102 ∧ toS s e = 2) := by
  unfold errS at h
  split at h
  · omega
  · split at h
    · omega
    · rename_i h1 h2
      unfold toS at h2 ⊢
      by_cases a1 : s = 1 ∧ e = 7
      · obtain ⟨rfl, rfl⟩ := a1; simp
      by_cases a2 : s = 2 ∧ e = 101
      · obtain ⟨rfl, rfl⟩ := a2; simp
      by_cases a3 : s = 3 ∧ e = 8
      · obtain ⟨rfl, rfl⟩ := a3; simp
      by_cases a4 : s = 3 ∧ e = 9
      · obtain ⟨rfl, rfl⟩ := a4; simp
      by_cases a5 : s = 3 ∧ e = 10
      · obtain ⟨rfl, rfl⟩ := a5; simp
      by_cases a6 : s = 3 ∧ e = 102
      · obtain ⟨rfl, rfl⟩ := a6; simp
      exact absurd (by simp [a1, a2, a3, a4, a5, a6]) h2
theorem dead_none (e : Int) : ¬ errS 4 e = 0 := by
  intro h
  rcases taken h with h | h | h | h | h | h <;> omega
theorem exit3 : errS 3 10 = 0 ∧ toS 3 10 = 4 := by decide

/-- The state behind the first n events, how many there were, and the error. -/
def script (z : Nat → Int) : Nat → Int × Int × Int
  | 0 => (1, 0, 0)
  | n + 1 => if (script z n).2.2 = 0 then (if errS (script z n).1 (z n) = 0 then (toS (script z n).1 (z n), (n : Int) + 1, 0) else (0, (n : Int), errS (script z n).1 (z n))) else script z n
theorem script_bad {z : Nat → Int} {n : Nat} (h : ¬ (script z n).2.2 = 0) : ∀ k, script z (n + k) = script z n
  | 0 => rfl
  | k + 1 => by
    have ih := script_bad h k
    rw [show n + (k + 1) = (n + k) + 1 from rfl, script, ih, if_neg h]
theorem script_yes {z : Nat → Int} {n : Nat} (h : (script z n).2.2 = 0) (e : errS (script z n).1 (z n) = 0) : script z (n + 1) = (toS (script z n).1 (z n), (n : Int) + 1, 0) := by rw [script, if_pos h, if_pos e]
theorem script_no {z : Nat → Int} {n : Nat} (h : (script z n).2.2 = 0) (e : ¬ errS (script z n).1 (z n) = 0) : script z (n + 1) = (0, (n : Int), errS (script z n).1 (z n)) := by rw [script, if_pos h, if_neg e]
theorem script_congr {z y : Nat → Int} : ∀ {n : Nat}, (∀ j, j < n → z j = y j) → script z n = script y n
  | 0, _ => rfl
  | n + 1, h => by
    have ih := script_congr (z := z) (y := y) (n := n) (fun j hj => h j (by omega))
    simp only [script]
    rw [ih, h n (by omega)]
/-- All that are taken are counted; who is refused is so with 0. -/
theorem script_ok (z : Nat → Int) : ∀ n : Nat, ((script z n).2.2 = 0 → (script z n).2.1 = n) ∧ (¬ (script z n).2.2 = 0 → (script z n).1 = 0)
  | 0 => ⟨fun _ => rfl, fun h => absurd rfl h⟩
  | n + 1 => by
    have ih := script_ok z n
    by_cases h : (script z n).2.2 = 0
    · by_cases e : errS (script z n).1 (z n) = 0
      · rw [script_yes h e]; exact ⟨fun _ => by simp, fun h => absurd rfl h⟩
      · rw [script_no h e]; exact ⟨fun h => absurd h e, fun _ => rfl⟩
    · rw [script_bad h 1]
      exact ⟨fun k => absurd k h, ih.2⟩
theorem script_pre {z : Nat → Int} {n : Nat} (h : (script z n).2.2 = 0) {k : Nat} (hk : k ≤ n) : (script z k).2.2 = 0 := by
  refine Classical.byContradiction fun e => ?_
  have := script_bad e (n - k)
  rw [show k + (n - k) = n by omega] at this
  rw [this] at h
  exact e h
theorem script_st {z : Nat → Int} {n : Nat} (h : (script z n).2.2 = 0) : 1 ≤ (script z n).1 ∧ (script z n).1 ≤ 4 := by
  cases n with
  | zero => exact ⟨by simp [script], by simp [script]⟩
  | succ n =>
    have hp := script_pre h (Nat.le_succ n)
    by_cases e : errS (script z n).1 (z n) = 0
    · rw [script_yes hp e]
      rcases taken e with ⟨_, _, h⟩ | ⟨_, _, h⟩ | ⟨_, _, h⟩ | ⟨_, _, h⟩ | ⟨_, _, h⟩ | ⟨_, _, h⟩ <;> rw [h] <;> exact ⟨by simp, by simp⟩
    · rw [script_no hp e] at h
      exact absurd h e

/-- One row behind the other. -/
def both (z : Nat → Int) (n : Nat) (y : Nat → Int) (j : Nat) : Int := if j < n then z j else y (j - n)
theorem both_left {z y : Nat → Int} {n : Nat} : script (both z n y) n = script z n := script_congr fun j hj => if_pos hj
theorem both_bad {z y : Nat → Int} {n : Nat} (h : ¬ (script z n).2.2 = 0) (m : Nat) : script (both z n y) (n + m) = script z n := by
  rw [script_bad (by rw [both_left]; exact h), both_left]
/-- Behind EvExit: nothing. -/
theorem dead {z : Nat → Int} {n : Nat} {x : Nat → Int} (h : (script z n).2.2 = 0) (h3 : (script z n).1 = 3) (hx : x = both z n (fun _ => 10)) : script x (n + 1) = (4, (n : Int) + 1, 0) := by
  subst hx
  have e : both z n (fun _ => 10) n = 10 := if_neg (by omega)
  rw [script_yes (by rw [both_left]; exact h) (by rw [both_left, h3, e]; exact exit3.1), both_left, h3, e, exit3.2]
theorem dead_more {x y : Nat → Int} {n m : Nat} (h : script x (n + 1) = (4, (n : Int) + 1, 0)) (hm : 0 < m) : (script (both x (n + 1) y) (n + 1 + m)).1 = 0 ∧ (script (both x (n + 1) y) (n + 1 + m)).2.1 = (n : Int) + 1 ∧ ¬ (script (both x (n + 1) y) (n + 1 + m)).2.2 = 0 := by
  have h1 : script (both x (n + 1) y) (n + 1) = (4, (n : Int) + 1, 0) := by rw [both_left, h]
  have h2 : script (both x (n + 1) y) (n + 1 + 1) = (0, ((n + 1 : Nat) : Int), errS 4 (both x (n + 1) y (n + 1))) := by
    have := script_no (z := both x (n + 1) y) (n := n + 1) (by rw [h1]) (by rw [h1]; exact dead_none _)
    rw [this, h1]
  have h3 := script_bad (z := both x (n + 1) y) (n := n + 1 + 1) (by rw [h2]; exact dead_none _) (m - 1)
  rw [show n + 1 + 1 + (m - 1) = n + 1 + m by omega, h2] at h3
  rw [h3]
  exact ⟨rfl, by push_cast; rfl, dead_none _⟩

/-- How often a task was picked, and how often it stopped. -/
def pick (z : Nat → Int) : Nat → Int
  | 0 => 0
  | n + 1 => if z n = 101 then pick z n + 1 else pick z n
def isStop (e : Int) : Bool := decide (e = 8 ∨ e = 9 ∨ e = 10 ∨ e = 102)
def stop (z : Nat → Int) : Nat → Int
  | 0 => 0
  | n + 1 => if isStop (z n) = true then stop z n + 1 else stop z n
theorem pick_bd (z : Nat → Int) : ∀ n : Nat, 0 ≤ pick z n ∧ 0 ≤ stop z n ∧ pick z n + stop z n ≤ n
  | 0 => by simp [pick, stop]
  | n + 1 => by
    have ih := pick_bd z n
    simp only [pick, stop]
    by_cases h : z n = 101
    · have h2 : isStop (z n) = false := by rw [h]; decide
      rw [if_pos h, h2]
      simp
      omega
    · rw [if_neg h]
      split <;> omega
theorem runs {z : Nat → Int} : ∀ {n : Nat}, (script z n).2.2 = 0 → ((script z n).1 = 3 ∧ pick z n = stop z n + 1) ∨ (¬ (script z n).1 = 3 ∧ pick z n = stop z n)
  | 0, _ => .inr ⟨by simp [script], rfl⟩
  | n + 1, h => by
    have hp := script_pre h (Nat.le_succ n)
    have ih := runs hp
    by_cases e : errS (script z n).1 (z n) = 0
    · rw [script_yes hp e]
      simp only [pick, stop]
      rcases taken e with ⟨h1, h2, h3⟩ | ⟨h1, h2, h3⟩ | ⟨h1, h2, h3⟩ | ⟨h1, h2, h3⟩ | ⟨h1, h2, h3⟩ | ⟨h1, h2, h3⟩ <;> rw [h3] <;> rw [h2] <;> rw [h1] at ih <;> simp [isStop] at ih ⊢ <;> omega
    · rw [script_no hp e] at h
      exact absurd h e
end Go.Proofs.YtmcfmkganljbmaaDoor.State
