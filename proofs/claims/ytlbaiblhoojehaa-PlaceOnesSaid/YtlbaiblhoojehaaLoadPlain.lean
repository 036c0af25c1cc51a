/- Which P has most to do, and which least, and what sums come to, in plain numbers. Conditions: as each fact states them. -/
import Derived.IntWalk
import Derived.Laws.Bits64b
import Derived.Laws.BitsAllLaws
namespace Go.Proofs.Ytlbaiblhoojehaa.Load
set_option linter.unusedVariables false
set_option linter.unusedSimpArgs false

def U64 (n : Int) : Prop := 0 ≤ n ∧ n ≤ 18446744073709551615
/-- Whether a place may be: below 64, and its bit is set. -/
def may (m : Nat) (k : Nat) : Bool := decide (k < 64) && m.testBit k
theorem bit_may (m k : Nat) (hm : m < 18446744073709551616) (hk : k < 64) : (bits .and .u64 ((m : Int) / 2 ^ k) 1 == 1) = may m k := by
  have e : ((m : Int) / 2 ^ k) = ((m / 2 ^ k : Nat) : Int) := by simp
  have hlt : m / 2 ^ k < 18446744073709551616 := Nat.lt_of_le_of_lt (Nat.div_le_self _ _) hm
  rw [e, show (1 : Int) = ((1 : Nat) : Int) from rfl, bits_and_u64_nat _ _ hlt (by decide)]
  unfold may
  rw [Nat.testBit_eq_decide_div_mod_eq, Nat.and_one_is_mod]
  rw [show decide (k < 64) = true by simpa using hk, Bool.true_and]
  rcases Nat.mod_two_eq_zero_or_one (m / 2 ^ k) with h | h <;> rw [h] <;> rfl

/-- The first one of the greatest, of those that S lets. -/
def pick (S : Nat → Bool) (z : Nat → Int) : Nat → Int
  | 0 => -1
  | n + 1 => if S n && (pick S z n == -1 || decide (z (pick S z n).toNat < z n)) then n else pick S z n
def Best (S : Nat → Bool) (z : Nat → Int) (n : Nat) (r : Int) : Prop :=
  (r = -1 ∧ ∀ j, j < n → S j = false) ∨ ∃ p : Nat, r = p ∧ p < n ∧ S p = true ∧ ∀ q, q < n → S q = true → z q < z p ∨ (z q = z p ∧ p ≤ q)
theorem pick_best (S : Nat → Bool) (z : Nat → Int) (n : Nat) : Best S z n (pick S z n) := by
  induction n with
  | zero => exact .inl ⟨rfl, fun j hj => by omega⟩
  | succ n ih =>
    unfold pick
    by_cases hS : S n = true
    · rw [hS, Bool.true_and]
      rcases ih with ⟨e, h⟩ | ⟨p, e, hp, hSp, h⟩
      · rw [e]
        refine .inr ⟨n, by simp, by omega, hS, fun q hq hSq => ?_⟩
        rcases (by omega : q < n ∨ q = n) with h1 | rfl
        · rw [h q h1] at hSq; cases hSq
        · exact .inr ⟨rfl, Nat.le_refl _⟩
      · rw [e]
        by_cases hz : z p < z n
        · refine .inr ⟨n, by simp [hz], by omega, hS, fun q hq hSq => ?_⟩
          rcases (by omega : q < n ∨ q = n) with h1 | rfl
          · have := h q h1 hSq; left; omega
          · exact .inr ⟨rfl, Nat.le_refl _⟩
        · have hne : ((p : Int) == -1) = false := by simp
          refine .inr ⟨p, by simp [hz, hne], by omega, hSp, fun q hq hSq => ?_⟩
          rcases (by omega : q < n ∨ q = n) with h1 | rfl
          · exact h q h1 hSq
          · omega
    · have hS' : S n = false := by simpa using hS
      rw [hS', Bool.false_and, if_neg (by simp)]
      rcases ih with ⟨e, h⟩ | ⟨p, e, hp, hSp, h⟩
      · refine .inl ⟨e, fun j hj => ?_⟩
        rcases (by omega : j < n ∨ j = n) with h1 | rfl
        · exact h j h1
        · exact hS'
      · refine .inr ⟨p, e, by omega, hSp, fun q hq hSq => ?_⟩
        rcases (by omega : q < n ∨ q = n) with h1 | rfl
        · exact h q h1 hSq
        · rw [hS'] at hSq; cases hSq
theorem best_only {S : Nat → Bool} {z : Nat → Int} {n : Nat} {a b : Int} (h : Best S z n a) (k : Best S z n b) : a = b := by
  rcases h with ⟨rfl, h⟩ | ⟨p, rfl, hp, hSp, h⟩ <;> rcases k with ⟨rfl, k⟩ | ⟨q, rfl, hq, hSq, k⟩
  · rfl
  · rw [h q hq] at hSq; cases hSq
  · rw [k p hp] at hSp; cases hSp
  · have h1 := h q hq hSq
    have h2 := k p hp hSp
    omega
/-- What lies above where S lets nobody changes nothing. -/
theorem pick_more (S : Nat → Bool) (z : Nat → Int) (n k : Nat) (h : n ≤ k) (hS : ∀ j, n ≤ j → j < k → S j = false) : pick S z k = pick S z n := by
  induction k with
  | zero => obtain rfl : n = 0 := by omega
            rfl
  | succ k ih =>
    by_cases hk : n = k + 1
    · subst hk; rfl
    · rw [pick, hS k (by omega) (by omega), Bool.false_and, if_neg (by simp)]
      exact ih (by omega) (fun j h1 h2 => hS j h1 (by omega))
theorem pick_congr {S T : Nat → Bool} {y z : Nat → Int} {n : Nat} (hS : ∀ j, j < n → S j = T j) (hz : ∀ j, j < n → y j = z j) : pick S y n = pick T z n := by
  refine best_only (pick_best S y n) ?_
  rcases pick_best T z n with ⟨e, h⟩ | ⟨p, e, hp, hSp, h⟩
  · exact .inl ⟨e, fun j hj => by rw [hS j hj]; exact h j hj⟩
  · exact .inr ⟨p, e, hp, by rw [hS p hp]; exact hSp, fun q hq hSq => by rw [hz q hq, hz p hp]; exact h q hq (by rw [← hS q hq]; exact hSq)⟩
theorem pick_bd (S : Nat → Bool) (z : Nat → Int) (n : Nat) : pick S z n = -1 ∨ ∃ p : Nat, pick S z n = p ∧ p < n ∧ S p = true := by
  rcases pick_best S z n with ⟨e, _⟩ | ⟨p, e, hp, hSp, _⟩
  · exact .inl e
  · exact .inr ⟨p, e, hp, hSp⟩

/-- The busiest but one, the least, and the first without any. -/
def bus (z : Nat → Int) (n : Nat) (mine : Int) (m : Nat) : Int := pick (fun j => may m j && !((j : Int) == mine)) z n
def lea (z : Nat → Int) (n : Nat) (m : Nat) : Int := pick (may m) (fun j => - z j) n
def idl (z : Nat → Int) (n : Nat) (m : Nat) : Int := pick (fun j => may m j && (z j == 0)) (fun _ => 0) n

/-- Those that may be, of the first k, rising. -/
def items (m n : Nat) : Nat → List (Fin n)
  | 0 => []
  | k + 1 => items m n k ++ (if h : k < n then (if may m k then [⟨k, h⟩] else []) else [])
theorem items_yes {m n k : Nat} (h : k < n) (hm : may m k = true) : items m n (k + 1) = items m n k ++ [⟨k, h⟩] := by simp [items, h, hm]
theorem items_no {m n k : Nat} (hm : may m k = false) : items m n (k + 1) = items m n k := by
  simp only [items, hm]; split <;> simp
theorem items_len (m n k : Nat) : (items m n k).length ≤ k := by
  induction k with
  | zero => simp [items]
  | succ k ih =>
    simp only [items, List.length_append]
    split
    · split <;> simp <;> omega
    · simp; omega
theorem items_mem {m n : Nat} (k : Nat) (x : Fin n) (h : x ∈ items m n k) : x.1 < k ∧ may m x.1 = true := by
  induction k with
  | zero => simp [items] at h
  | succ k ih =>
    simp only [items, List.mem_append] at h
    rcases h with h | h
    · have := ih h; exact ⟨by omega, this.2⟩
    · split at h
      · split at h
        · rename_i h1 h2
          obtain rfl : x = ⟨k, h1⟩ := by simpa using h
          exact ⟨by simp, h2⟩
        · simp at h
      · simp at h
theorem items_all {m n : Nat} (k : Nat) (j : Nat) (hj : j < n) (hk : j < k) (hm : may m j = true) : (⟨j, hj⟩ : Fin n) ∈ items m n k := by
  induction k with
  | zero => omega
  | succ k ih =>
    rcases (by omega : j < k ∨ j = k) with h | rfl
    · simp only [items, List.mem_append]; exact .inl (ih h)
    · rw [items_yes hj hm]; simp
/-- Where the last one is, all before it have come. -/
theorem items_upto {m n : Nat} (k : Nat) (pre : List (Fin n)) (x : Fin n) (h : items m n k = pre ++ [x]) : pre = items m n x.1 ∧ may m x.1 = true := by
  induction k with
  | zero => simp [items] at h
  | succ k ih =>
    by_cases hn : k < n
    · by_cases hm : may m k = true
      · rw [items_yes hn hm] at h
        obtain ⟨rfl, e⟩ := List.append_inj' h rfl
        obtain rfl : (⟨k, hn⟩ : Fin n) = x := by simpa using e
        exact ⟨rfl, hm⟩
      · rw [items_no (by simpa using hm)] at h
        exact ih h
    · have : items m n (k + 1) = items m n k := by simp [items, hn]
      rw [this] at h
      exact ih h

/-- What a loop over them that keeps the best one holds. -/
def stepB (T : Nat → Bool) (z : Nat → Int) (b : Int) (x : Nat) : Int := if T x && (b == -1 || decide (z b.toNat < z x)) then x else b
def best (T : Nat → Bool) (z : Nat → Int) {n : Nat} (pre : List (Fin n)) : Int := pre.foldl (fun b x => stepB T z b x.1) (-1)
theorem best_snoc (T : Nat → Bool) (z : Nat → Int) {n : Nat} (pre : List (Fin n)) (x : Fin n) : best T z (pre ++ [x]) = stepB T z (best T z pre) x.1 := by simp [best]
theorem best_items (T : Nat → Bool) (z : Nat → Int) (m n k : Nat) (hk : k ≤ n) : best T z (items m n k) = pick (fun j => may m j && T j) z k := by
  induction k with
  | zero => rfl
  | succ k ih =>
    have ih := ih (by omega)
    by_cases hm : may m k = true
    · rw [items_yes (by omega) hm, best_snoc, ih, pick, stepB]
      simp [hm]
    · have hm' : may m k = false := by simpa using hm
      rw [items_no hm', ih, pick]
      simp [hm']
theorem best_bd (T : Nat → Bool) (z : Nat → Int) {n : Nat} (pre : List (Fin n)) : best T z pre = -1 ∨ ∃ p : Nat, best T z pre = p ∧ p < n := by
  suffices h : ∀ (l : List (Fin n)) (b : Int), (b = -1 ∨ ∃ p : Nat, b = p ∧ p < n) → (l.foldl (fun b x => stepB T z b x.1) b = -1 ∨ ∃ p : Nat, l.foldl (fun b x => stepB T z b x.1) b = p ∧ p < n) from h pre (-1) (.inl rfl)
  intro l
  induction l with
  | nil => intro b h; exact h
  | cons x l ih =>
    intro b h
    refine ih _ ?_
    show (stepB T z b x.1 = -1 ∨ ∃ p : Nat, stepB T z b x.1 = p ∧ p < n)
    unfold stepB
    split
    · exact .inr ⟨x.1, rfl, x.2⟩
    · exact h
theorem idl_part (z : Nat → Int) (m n k : Nat) (pre : List (Fin n)) (x : Fin n) (h : items m n k = pre ++ [x]) (hx : z x.1 = 0) (ha : ∀ q ∈ pre, z q.1 ≠ 0) : (x.1 : Int) = idl z n m := by
  obtain ⟨rfl, hm⟩ := items_upto k pre x h
  refine best_only ?_ (pick_best _ _ _)
  refine .inr ⟨x.1, rfl, x.2, by simp [hm, hx], fun q hq hS => .inr ⟨rfl, ?_⟩⟩
  by_cases hl : q < x.1
  · simp at hS
    exact absurd hS.2 (ha _ (items_all x.1 q hq hl hS.1))
  · omega
theorem idl_none (z : Nat → Int) (m n : Nat) (ha : ∀ q ∈ items m n n, z q.1 ≠ 0) : (-1 : Int) = idl z n m := by
  refine best_only ?_ (pick_best _ _ _)
  refine .inl ⟨rfl, fun j hj => ?_⟩
  cases hm : may m j
  · simp [hm]
  · have := ha _ (items_all n j hj hj hm)
    simpa [hm] using this

/-- A sum that stays at the greatest number of 64 bits. -/
def tot (z : Nat → Int) : Nat → Int
  | 0 => 0
  | n + 1 => min (tot z n + z n) 18446744073709551615
def sum (z : Nat → Int) : Nat → Int
  | 0 => 0
  | n + 1 => sum z n + z n
theorem sum_pos {z : Nat → Int} {n : Nat} (hz : ∀ j, j < n → 0 ≤ z j) : 0 ≤ sum z n := by
  induction n with
  | zero => exact Int.le_refl _
  | succ n ih => have := ih (fun j hj => hz j (by omega)); have := hz n (by omega); simp only [sum]; omega
theorem tot_eq {z : Nat → Int} {n : Nat} (hz : ∀ j, j < n → 0 ≤ z j) : tot z n = min (sum z n) 18446744073709551615 := by
  induction n with
  | zero => simp only [tot, sum]; omega
  | succ n ih =>
    have h1 := ih (fun j hj => hz j (by omega)); have h2 := hz n (by omega)
    have h3 := sum_pos (n := n) (fun j hj => hz j (by omega))
    simp only [tot, sum]; omega
theorem tot_bd {z : Nat → Int} {n : Nat} (hz : ∀ j, j < n → 0 ≤ z j) : 0 ≤ tot z n ∧ tot z n ≤ 18446744073709551615 := by
  have := sum_pos hz; rw [tot_eq hz]; omega
theorem sum_le {z : Nat → Int} {k n : Nat} (h : k ≤ n) (hz : ∀ j, j < n → 0 ≤ z j) : sum z k ≤ sum z n := by
  induction n with
  | zero => obtain rfl : k = 0 := by omega
            exact Int.le_refl _
  | succ n ih =>
    by_cases hk : k = n + 1
    · subst hk; exact Int.le_refl _
    · have := ih (by omega) (fun j hj => hz j (by omega)); have := hz n (by omega); simp only [sum]; omega
theorem tot_top {z : Nat → Int} {k n : Nat} (h : k < n) (hz : ∀ j, j < n → 0 ≤ z j) (ht : 18446744073709551615 - tot z k < z k) : tot z n = 18446744073709551615 := by
  have h1 := sum_le (k := k + 1) (n := n) h hz
  have h2 := tot_eq (n := k) (z := z) (fun j hj => hz j (by omega))
  rw [tot_eq hz]
  simp only [sum] at h1
  omega
theorem tot_next {z : Nat → Int} {k : Nat} (ht : ¬ 18446744073709551615 - tot z k < z k) : tot z (k + 1) = tot z k + z k := by simp only [tot]; omega
theorem tot_part {z : Nat → Int} {k n : Nat} (h : k < n) (hz : ∀ j, j < n → 0 ≤ z j) (h1 : ∀ j, j < n → z j ≤ 18446744073709551615) : z k ≤ tot z n := by
  have a := sum_le (k := k + 1) (n := n) h hz
  have b := sum_pos (n := k) (z := z) (fun j hj => hz j (by omega))
  have c := h1 k h
  rw [tot_eq hz]
  simp only [sum] at a
  omega
theorem sum_congr {y z : Nat → Int} {n : Nat} (h : ∀ j, j < n → y j = z j) : sum y n = sum z n := by
  induction n with
  | zero => rfl
  | succ n ih => simp only [sum]; rw [ih (fun j hj => h j (by omega)), h n (by omega)]
theorem sum_cons (z : Nat → Int) (n : Nat) : sum z (n + 1) = z 0 + sum (fun j => z (j + 1)) n := by
  induction n with
  | zero => simp [sum]
  | succ n ih => rw [sum, ih]; simp only [sum]; omega
theorem sum_back (z : Nat → Int) (n : Nat) : sum (fun j => z (n - 1 - j)) n = sum z n := by
  induction n generalizing z with
  | zero => rfl
  | succ n ih =>
    rw [sum_cons, sum]
    have := ih z
    rw [← this]
    have e : sum (fun j => z (n + 1 - 1 - (j + 1))) n = sum (fun j => z (n - 1 - j)) n := sum_congr fun j hj => by
      show z _ = z _
      congr 1; omega
    rw [e]
    simp only [Nat.add_sub_cancel, Nat.sub_zero]
    omega
theorem tot_back {z : Nat → Int} {n : Nat} (hz : ∀ j, j < n → 0 ≤ z j) : tot (fun j => z (n - 1 - j)) n = tot z n := by
  rw [tot_eq hz, tot_eq (fun j hj => hz _ (by omega)), sum_back]
end Go.Proofs.Ytlbaiblhoojehaa.Load
