/- A set's text as plain data: its longest rows, rising, each written down; how the program comes to each. Conditions: none. -/
import Derived.Test.YtikdhfedidknpaaDoorMaskPlain
namespace Go.Proofs.YtikdhfedidknpaaDoor.Mask
set_option linter.unusedVariables false
set_option linter.unusedSimpArgs false

/-- A number's text, below 100. -/
def dig (n : Nat) : List UInt8 := if n < 10 then [UInt8.ofNat (48 + n)] else [UInt8.ofNat (48 + n / 10), UInt8.ofNat (48 + n % 10)]
def seg (f l : Nat) : List UInt8 := if f < l then dig f ++ 45 :: dig l else dig f
def tstep (out : List UInt8) (x : Nat × Nat) : List UInt8 := (if out = [] then [] else out ++ [44]) ++ seg x.1 x.2

/-- The last one of a row that goes on from p. -/
def up (m p : Nat) : Nat → Nat
  | 0 => p
  | k + 1 => if m.testBit (p + 1) then up m (p + 1) k else p
/-- A row begins at p. -/
def starts (m p : Nat) : Bool := m.testBit p && !(decide (0 < p) && m.testBit (p - 1))
/-- The rows that begin at p or behind, k places. -/
def runs (m p : Nat) : Nat → List (Nat × Nat)
  | 0 => []
  | k + 1 => if starts m p then (p, up m p 64) :: runs m (p + 1) k else runs m (p + 1) k
def text (m : Nat) : List UInt8 := (runs m 0 64).foldl tstep []

theorem dig_ne (n : Nat) : dig n ≠ [] := by unfold dig; split <;> simp
theorem dig_len (n : Nat) : 1 ≤ (dig n).length ∧ (dig n).length ≤ 2 := by unfold dig; split <;> simp
theorem seg_ne (f l : Nat) : seg f l ≠ [] := by unfold seg; split <;> simp [dig_ne]
theorem seg_len (f l : Nat) : (seg f l).length ≤ 5 := by
  have h1 := dig_len f
  have h2 := dig_len l
  unfold seg
  split <;> simp <;> omega

/-- What trailing zeros say. -/
theorem tz_spec {x : Nat} (hx : x < 18446744073709551616) (h0 : x ≠ 0) : tz x < 64 ∧ x.testBit (tz x) = true ∧ ∀ i, i < tz x → x.testBit i = false := by
  obtain ⟨m, hm, hk⟩ := Lib.ctzFrom_spec 64 x (by omega) hx
  have e : tz x = Lib.ctzFrom 64 x := by unfold tz Lib.ctz; rw [if_neg h0]
  rw [e]
  generalize Lib.ctzFrom 64 x = k at *
  refine ⟨hk, ?_, fun i hi => ?_⟩
  · rw [hm, Nat.testBit_two_pow_mul]
    simp
  · rw [hm, Nat.testBit_two_pow_mul]
    simp
    omega
theorem tz_zero : tz 0 = 64 := rfl

theorem up_eq (m l : Nat) : ∀ (k p : Nat), p ≤ l → l - p ≤ k → (∀ i, p < i → i ≤ l → m.testBit i = true) → m.testBit (l + 1) = false → up m p k = l
  | 0, p, h1, h2, h3, h4 => by unfold up; omega
  | k + 1, p, h1, h2, h3, h4 => by
    unfold up
    by_cases e : p = l
    · subst e
      rw [h4]
      simp
    · rw [h3 (p + 1) (by omega) (by omega), if_pos rfl]
      exact up_eq m l k (p + 1) (by omega) (by omega) (fun i h5 h6 => h3 i (by omega) h6) h4

theorem runs_skip (m : Nat) : ∀ (d a b : Nat), b - a = d → a ≤ b → b ≤ 64 → (∀ i, a ≤ i → i < b → starts m i = false) → runs m a (64 - a) = runs m b (64 - b)
  | 0, a, b, hd, h1, h2, h3 => by
    obtain rfl : a = b := by omega
    rfl
  | d + 1, a, b, hd, h1, h2, h3 => by
    rw [← runs_skip m d (a + 1) b (by omega) (by omega) h2 (fun i h4 h5 => h3 i (by omega) h5)]
    rw [show 64 - a = (64 - (a + 1)) + 1 by omega]
    show (if starts m a then _ else _) = _
    rw [h3 a (Nat.le_refl _) (by omega)]
    simp

/-- Where the program is: what is left of m are its bits from c on; no row goes on across c. -/
structure At (m mc c : Nat) : Prop where
  le : c ≤ 64
  bit : ∀ i, mc.testBit i = (decide (c ≤ i) && m.testBit i)
  new : c = 0 ∨ m.testBit c = false

theorem At.start (m : Nat) : At m m 0 := ⟨by omega, fun i => by simp, .inl rfl⟩

theorem At.lt {m mc c : Nat} (h : At m mc c) (hm : m < 18446744073709551616) : mc < 18446744073709551616 := by
  apply Nat.lt_pow_two_of_testBit mc (n := 64)
  intro i hi
  rw [h.bit, Nat.testBit_lt_two_pow (Nat.lt_of_lt_of_le (show m < 2 ^ 64 from hm) (Nat.pow_le_pow_right (by decide) hi))]
  simp

theorem At.done {m c : Nat} (h : At m 0 c) (hm : m < 18446744073709551616) : runs m c (64 - c) = [] := by
  rw [runs_skip m (64 - c) c 64 rfl h.le (Nat.le_refl _) (fun i h1 h2 => ?_)]
  · rfl
  · have := h.bit i
    rw [Nat.zero_testBit] at this
    simp [h1] at this
    simp [starts, this]

/-- The next row's ends, as the program reckons them. -/
def lastOf (mc f : Nat) : Nat := f + tz (18446744073709551615 - mc / 2 ^ f) - 1

theorem At.next {m mc c : Nat} (h : At m mc c) (hm : m < 18446744073709551616) (h0 : mc ≠ 0) :
    tz mc ≤ lastOf mc (tz mc) ∧ lastOf mc (tz mc) < 64 ∧ 1 ≤ tz (18446744073709551615 - mc / 2 ^ tz mc) ∧ (∀ i, tz mc ≤ i → i ≤ lastOf mc (tz mc) → m.testBit i = true) ∧
    runs m c (64 - c) = (tz mc, lastOf mc (tz mc)) :: runs m (lastOf mc (tz mc) + 1) (64 - (lastOf mc (tz mc) + 1)) ∧
    At m (mc &&& (18446744073709551615 - rw' (tz mc) (lastOf mc (tz mc)))) (lastOf mc (tz mc) + 1) ∧ c ≤ tz mc ∧ (∀ i, c ≤ i → i < tz mc → m.testBit i = false) := by
  have hmc := h.lt hm
  obtain ⟨f1, f2, f3⟩ := tz_spec hmc h0
  generalize tz mc = f at *
  have hy : ∀ i, (18446744073709551615 - mc / 2 ^ f).testBit i = (decide (i < 64) && !mc.testBit (f + i)) := by
    intro i
    rw [not_bit _ _ (Nat.lt_of_le_of_lt (Nat.div_le_self _ _) hmc), Nat.testBit_div_two_pow, Nat.add_comm]
  have hhi : ∀ i, 64 ≤ i → mc.testBit i = false := fun i hi => Nat.testBit_lt_two_pow (Nat.lt_of_lt_of_le (show mc < 2 ^ 64 from hmc) (Nat.pow_le_pow_right (by decide) hi))
  have hr : ∃ r, tz (18446744073709551615 - mc / 2 ^ f) = r ∧ (∀ i, i < r → mc.testBit (f + i) = true) ∧ mc.testBit (f + r) = false ∧ 1 ≤ r := by
    refine ⟨_, rfl, ?_⟩
    by_cases hz : 18446744073709551615 - mc / 2 ^ f = 0
    · rw [hz, tz_zero]
      have hall : ∀ i, i < 64 → mc.testBit (f + i) = true := by
        intro i hi
        have := hy i
        rw [hz, Nat.zero_testBit] at this
        simpa [hi] using this
      exact ⟨hall, hhi _ (by omega), by omega⟩
    · obtain ⟨g1, g2, g3⟩ := tz_spec (x := 18446744073709551615 - mc / 2 ^ f) (Nat.lt_of_le_of_lt (Nat.sub_le _ _) (by decide)) hz
      generalize tz (18446744073709551615 - mc / 2 ^ f) = r at *
      refine ⟨fun i hi => ?_, ?_, ?_⟩
      · have := hy i
        rw [g3 i hi] at this
        simpa [show i < 64 by omega] using this
      · have := hy r
        rw [g2] at this
        simpa [show r < 64 by omega] using this
      · rcases Nat.eq_zero_or_pos r with rfl | h5
        · have := hy 0
          rw [g2] at this
          simp [f2] at this
        · exact h5
  obtain ⟨r, er, r1, r2, r3⟩ := hr
  have hl : lastOf mc f = f + r - 1 := by unfold lastOf; rw [er]
  rw [hl, er]
  have hlt : f + r - 1 < 64 := by
    have h1 := r1 (r - 1) (by omega)
    apply Nat.lt_of_not_le
    intro h2
    rw [hhi (f + (r - 1)) (by omega)] at h1
    cases h1
  have hcf : c ≤ f := by
    have := h.bit f
    rw [f2] at this
    simp at this
    exact this.1
  have hin : ∀ i, f ≤ i → i ≤ f + r - 1 → m.testBit i = true := by
    intro i h1 h2
    have h3 := r1 (i - f) (by omega)
    rw [show f + (i - f) = i by omega, h.bit] at h3
    simp at h3
    exact h3.2
  have hout : m.testBit (f + r - 1 + 1) = false := by
    have h3 := h.bit (f + r)
    rw [r2] at h3
    rw [show f + r - 1 + 1 = f + r by omega]
    simpa [show c ≤ f + r by omega] using h3.symm
  have hlow : ∀ i, c ≤ i → i < f → m.testBit i = false := by
    intro i h1 h2
    have h3 := h.bit i
    rw [f3 i h2] at h3
    simpa [h1] using h3.symm
  have hst : starts m f = true := by
    have hf := hin f (Nat.le_refl _) (by omega)
    unfold starts
    rw [hf]
    rcases Nat.eq_zero_or_pos f with rfl | hp
    · simp
    · have : m.testBit (f - 1) = false := by
        by_cases hc : c = f
        · rcases h.new with h4 | h4
          · omega
          · subst hc; rw [hf] at h4; cases h4
        · exact hlow (f - 1) (by omega) (by omega)
      simp [this]
  refine ⟨by omega, hlt, r3, hin, ?_, ⟨by omega, fun i => ?_, .inr hout⟩, hcf, hlow⟩
  · rw [runs_skip m (f - c) c f rfl hcf (by omega) (fun i h1 h2 => by simp [starts, hlow i h1 h2])]
    rw [show 64 - f = (64 - (f + 1)) + 1 by omega]
    show (if starts m f then _ else _) = _
    rw [hst, if_pos rfl, up_eq m (f + r - 1) 64 f (by omega) (by omega) (fun i h1 h2 => hin i (by omega) h2) hout]
    congr 1
    exact runs_skip m (f + r - 1 + 1 - (f + 1)) (f + 1) (f + r - 1 + 1) rfl (by omega) (by omega) (fun i h1 h2 => by
      have : m.testBit (i - 1) = true := hin (i - 1) (by omega) (by omega)
      simp [starts, this]
      omega)
  · rw [Nat.testBit_and, not_bit _ _ (rw_lt _ _ hlt), rw_bit f (f + r - 1) i (by omega), h.bit]
    by_cases h1 : i < f
    · by_cases h2 : c ≤ i
      · simp [hlow i h2 h1]
      · simp [h2]
        intro h3
        omega
    · by_cases h2 : i ≤ f + r - 1
      · simp [h2, show f ≤ i by omega]
        omega
      · by_cases h3 : i < 64
        · simp [h2, h3, show c ≤ i by omega, show f + r - 1 + 1 ≤ i by omega]
        · have h4 := hhi i (by omega)
          rw [h.bit] at h4
          have h5 : m.testBit i = false := by simpa [show c ≤ i by omega] using h4
          simp [h5]
end Go.Proofs.YtikdhfedidknpaaDoor.Mask
