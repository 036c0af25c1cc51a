/- The number that math/bits' masks and sums make is how many bits are set: of plain data. Conditions: the number is a word. -/
import Derived.Test.YtmeojplfphmpnaaDoorMaskOnes
namespace Go.Proofs.YtmeojplfphmpnaaDoor.Mask
set_option linter.unusedVariables false
set_option linter.unusedSimpArgs false

/-- How many of the first k bits are set. -/
def pcr : Nat → Nat → Nat
  | 0, _ => 0
  | k + 1, y => y % 2 + pcr k (y / 2)
/-- All that are set, rising. -/
def lst (m : Nat) : List Nat := (List.range 64).filter m.testBit

theorem pcr_list : ∀ (k y : Nat), pcr k y = ((List.range k).filter y.testBit).length
  | 0, _ => rfl
  | k + 1, y => by
    have e : (fun x => y.testBit (Nat.succ x)) = (y / 2).testBit := by
      funext x
      exact Nat.testBit_succ y x
    rw [List.range_succ_eq_map, List.filter_cons, List.filter_map]
    show y % 2 + pcr k (y / 2) = _
    rw [pcr_list k (y / 2)]
    have e2 : (y.testBit ∘ Nat.succ) = (y / 2).testBit := e
    rw [e2]
    rcases Nat.mod_two_eq_zero_or_one y with h | h <;> simp [Nat.testBit_zero, h, Nat.add_comm]

theorem pcr_add : ∀ (j k y : Nat), pcr (j + k) y = pcr j y + pcr k (y / 2 ^ j)
  | 0, k, y => by simp [pcr]
  | j + 1, k, y => by
    rw [show j + 1 + k = (j + k) + 1 by omega]
    show y % 2 + pcr (j + k) (y / 2) = y % 2 + pcr j (y / 2) + _
    rw [pcr_add j k (y / 2), Nat.div_div_eq_div_mul, Nat.pow_succ, Nat.mul_comm 2]
    omega

theorem pcr8 (y : Nat) : pcr 8 y = pcr 8 (y % 256) := by
  simp only [pcr]
  omega

theorem and_split (u v c d : Nat) (hu : u < 256) (hc : c < 256) : (u + 256 * v) &&& (c + 256 * d) = (u &&& c) + 256 * (v &&& d) := by
  have hand : u &&& c < 2 ^ 8 := Nat.and_lt_two_pow _ hc
  rw [Nat.add_comm u, Nat.add_comm c, Nat.add_comm (u &&& c)]
  apply Nat.eq_of_testBit_eq
  intro i
  rw [Nat.testBit_and, show (256 : Nat) = 2 ^ 8 from rfl, Nat.testBit_two_pow_mul_add v (show u < 2 ^ 8 from hu), Nat.testBit_two_pow_mul_add d (show c < 2 ^ 8 from hc), Nat.testBit_two_pow_mul_add _ hand]
  split <;> rw [Nat.testBit_and]

def m55 : Nat → Nat
  | 0 => 0
  | k + 1 => 85 + 256 * m55 k
def m33 : Nat → Nat
  | 0 => 0
  | k + 1 => 51 + 256 * m33 k
def m0f : Nat → Nat
  | 0 => 0
  | k + 1 => 15 + 256 * m0f k

def ka (k y : Nat) : Nat := (y / 2 &&& m55 k) + (y &&& m55 k)
def kb (k y : Nat) : Nat := (y / 4 &&& m33 k) + (y &&& m33 k)
def kc (k y : Nat) : Nat := (y / 16 + y) &&& m0f k

theorem f55 : ∀ x, x < 128 → (x + 128) &&& 85 = x &&& 85 := by decide
theorem f33 : ∀ x, x < 64 → ∀ r, r < 4 → (x + 64 * r) &&& 51 = x &&& 51 := by decide +kernel
def a1 (x : Nat) : Nat := (x / 2 &&& 85) + (x &&& 85)
def b1 (x : Nat) : Nat := (x / 4 &&& 51) + (x &&& 51)
theorem a1_lt : ∀ x, x < 256 → a1 x < 256 := by decide +kernel
theorem b1_lt : ∀ x, x < 256 → b1 x < 256 ∧ b1 x % 16 ≤ 6 ∧ b1 x / 16 ≤ 6 := by decide +kernel
theorem abc : ∀ x, x < 256 → (b1 (a1 x) / 16 + b1 (a1 x)) % 16 = pcr 8 x := by decide +kernel

theorem ka_split (k a b : Nat) (ha : a < 256) : ka (k + 1) (a + 256 * b) = a1 a + 256 * ka k b := by
  unfold ka a1
  show ((a + 256 * b) / 2 &&& (85 + 256 * m55 k)) + ((a + 256 * b) &&& (85 + 256 * m55 k)) = _
  have e : (a + 256 * b) / 2 = (a / 2 + 128 * (b % 2)) + 256 * (b / 2) := by omega
  rw [e, and_split _ _ _ _ (by omega) (by omega), and_split _ _ _ _ ha (by omega)]
  have e2 : (a / 2 + 128 * (b % 2)) &&& 85 = a / 2 &&& 85 := by
    rcases Nat.mod_two_eq_zero_or_one b with h | h
    · rw [h]; rfl
    · rw [h]; exact f55 _ (by omega)
  rw [e2]
  omega
theorem kb_split (k a b : Nat) (ha : a < 256) : kb (k + 1) (a + 256 * b) = b1 a + 256 * kb k b := by
  unfold kb b1
  show ((a + 256 * b) / 4 &&& (51 + 256 * m33 k)) + ((a + 256 * b) &&& (51 + 256 * m33 k)) = _
  have e : (a + 256 * b) / 4 = (a / 4 + 64 * (b % 4)) + 256 * (b / 4) := by omega
  rw [e, and_split _ _ _ _ (by omega) (by omega), and_split _ _ _ _ ha (by omega), f33 _ (by omega) _ (by omega)]
  omega
theorem kb_low (k y : Nat) : kb k y % 16 ≤ 6 := by
  cases k with
  | zero => simp [kb, m33]
  | succ k =>
    have e : y = y % 256 + 256 * (y / 256) := by omega
    have h := (b1_lt (y % 256) (by omega)).2.1
    rw [e, kb_split k _ _ (by omega)]
    omega
theorem kc_split (k a b : Nat) (h1 : a % 16 ≤ 6) (h2 : a / 16 ≤ 6) (h3 : b % 16 ≤ 6) : kc (k + 1) (a + 256 * b) = (a / 16 + a) % 16 + 256 * kc k b := by
  unfold kc
  show ((a + 256 * b) / 16 + (a + 256 * b)) &&& (15 + 256 * m0f k) = _
  have e : (a + 256 * b) / 16 + (a + 256 * b) = (a / 16 + a + 16 * (b % 16)) + 256 * (b / 16 + b) := by omega
  rw [e, and_split _ _ _ _ (by omega) (by omega), show (15 : Nat) = 2 ^ 4 - 1 from rfl, Nat.and_two_pow_sub_one_eq_mod]
  omega

/-- Each byte's count, in its byte. -/
def pk : Nat → Nat → Nat
  | 0, _ => 0
  | k + 1, y => pcr 8 (y % 256) + 256 * pk k (y / 256)

theorem all_bytes : ∀ (k y : Nat), kc k (kb k (ka k y)) = pk k y
  | 0, y => by simp [kc, m0f, pk]
  | k + 1, y => by
    have hx : y % 256 < 256 := Nat.mod_lt _ (by decide)
    have e : y = y % 256 + 256 * (y / 256) := by omega
    have hb := b1_lt _ (a1_lt _ hx)
    show kc (k + 1) (kb (k + 1) (ka (k + 1) y)) = pcr 8 (y % 256) + 256 * pk k (y / 256)
    rw [← all_bytes k (y / 256), ← abc _ hx]
    conv => lhs; rw [e]
    rw [ka_split k _ _ hx, kb_split k _ _ (a1_lt _ hx), kc_split k _ _ hb.2.1 hb.2.2 (kb_low _ _)]

theorem pcr8_le : ∀ x, x < 256 → pcr 8 x ≤ 8 := by decide +kernel

theorem div1 (p c : Nat) (h : p ≤ 8) : (p + 256 * c) / 256 = c := by omega
theorem div2 (a b d : Nat) (h : a ≤ 16) (h' : b ≤ 16) : (a + 256 * (b + 256 * d)) / 65536 = d := by omega
theorem div4 (a b c d e : Nat) (h1 : a ≤ 32) (h2 : b ≤ 32) (h3 : c ≤ 32) (h4 : d ≤ 32) : (a + 256 * (b + 256 * (c + 256 * (d + 256 * e)))) / 4294967296 = e := by omega
theorem mod1 (a x b y : Nat) (h1 : a ≤ 32) (h2 : b ≤ 32) : (a + 256 * x + (b + 256 * y)) % 128 = a + b := by omega

theorem sum_bytes (p0 p1 p2 p3 p4 p5 p6 p7 : Nat) (h0 : p0 ≤ 8) (h1 : p1 ≤ 8) (h2 : p2 ≤ 8) (h3 : p3 ≤ 8) (h4 : p4 ≤ 8) (h5 : p5 ≤ 8) (h6 : p6 ≤ 8) (h7 : p7 ≤ 8) :
    og (oe (od (p0 + 256 * (p1 + 256 * (p2 + 256 * (p3 + 256 * (p4 + 256 * (p5 + 256 * (p6 + 256 * p7))))))))) % 128 = p0 + p1 + p2 + p3 + p4 + p5 + p6 + p7 := by
  have k : ∀ (p q c : Nat), p + 256 * (q + 256 * c) + (q + 256 * c) = (p + q) + 256 * (q + 256 * c + c) := by intro p q c; omega
  have eD : od (p0 + 256 * (p1 + 256 * (p2 + 256 * (p3 + 256 * (p4 + 256 * (p5 + 256 * (p6 + 256 * p7))))))) =
      (p0 + p1) + 256 * ((p1 + p2) + 256 * ((p2 + p3) + 256 * ((p3 + p4) + 256 * ((p4 + p5) + 256 * ((p5 + p6) + 256 * ((p6 + p7) + 256 * p7)))))) := by
    unfold od
    rw [div1 _ _ h0, k, k, k, k, k, k]
    have e : p6 + 256 * p7 + p7 = (p6 + p7) + 256 * p7 := by omega
    rw [e]
  rw [eD]
  have j : ∀ (a b c d x y : Nat), a + 256 * (b + 256 * x) + (c + 256 * (d + 256 * y)) = (a + c) + 256 * ((b + d) + 256 * (x + y)) := by intro a b c d x y; omega
  have eE : oe ((p0 + p1) + 256 * ((p1 + p2) + 256 * ((p2 + p3) + 256 * ((p3 + p4) + 256 * ((p4 + p5) + 256 * ((p5 + p6) + 256 * ((p6 + p7) + 256 * p7))))))) =
      (p0 + p1 + (p2 + p3)) + 256 * ((p1 + p2 + (p3 + p4)) + 256 * ((p2 + p3 + (p4 + p5)) + 256 * ((p3 + p4 + (p5 + p6)) + 256 * ((p4 + p5) + 256 * ((p5 + p6) + 256 * ((p6 + p7) + 256 * p7)) + ((p6 + p7) + 256 * p7))))) := by
    unfold oe
    rw [div2 _ _ _ (by omega) (by omega), j, j]
  rw [eE]
  unfold og
  rw [div4 _ _ _ _ _ (by omega) (by omega) (by omega) (by omega)]
  have e6 : ∀ (a x b y : Nat), a + 256 * x + (b + 256 * y) = (a + b) + 256 * (x + y) := by intro a x b y; omega
  rw [e6 (p4 + p5) _ (p6 + p7) p7, mod1 _ _ _ _ (by omega) (by omega)]
  omega

/-- How many ones there are. -/
theorem ones_pcr (m : Nat) : ones m = pcr 64 m := by
  have e : oc (ob (oa m)) = pk 8 m := all_bytes 8 m
  unfold ones
  rw [e]
  have hb : ∀ y, pcr 8 (y % 256) ≤ 8 := fun y => pcr8_le _ (Nat.mod_lt _ (by decide))
  have key := sum_bytes _ _ _ _ _ _ _ _ (hb m) (hb (m / 256)) (hb (m / 256 / 256)) (hb (m / 256 / 256 / 256)) (hb (m / 256 / 256 / 256 / 256)) (hb (m / 256 / 256 / 256 / 256 / 256)) (hb (m / 256 / 256 / 256 / 256 / 256 / 256)) (hb (m / 256 / 256 / 256 / 256 / 256 / 256 / 256)) 
  rw [show pk 8 m = _ from (by simp only [pk, Nat.mul_zero, Nat.add_zero]; rfl), key]
  simp only [← pcr8]
  have s : ∀ k y, pcr (8 + k) y = pcr 8 y + pcr k (y / 256) := fun k y => pcr_add 8 k y
  rw [show (64 : Nat) = 8 + 56 from rfl, s, show (56 : Nat) = 8 + 48 from rfl, s, show (48 : Nat) = 8 + 40 from rfl, s, show (40 : Nat) = 8 + 32 from rfl, s, show (32 : Nat) = 8 + 24 from rfl, s, show (24 : Nat) = 8 + 16 from rfl, s, show (16 : Nat) = 8 + 8 from rfl, s]
  omega
theorem ones_lst (m : Nat) : ones m = (lst m).length := by rw [ones_pcr, pcr_list]; rfl
end Go.Proofs.YtmeojplfphmpnaaDoor.Mask
